/- A part of the proof: what an interpreter answers on partly known states is what the program answers. No condition. -/
import Derived.Test.YtcjanblpboaleaaDoorHXpart2
import Derived.Orders
import Derived.Calls
import Derived.CallsIn
import Derived.OrdersIn
import Derived.LoopNIn
import Derived.RangeFuncIn
import Derived.LoopN
import Derived.RangeFuncRecord
set_option linter.unusedSimpArgs false
set_option linter.unusedVariables false
section
namespace Go.AX
section
variable {C : Cx} {tb : Tab} {B : Fz} {ρ : aY} {w : World} {S S' : St}
theorem srcR_ok (hF : Fits C tb.ng B ρ S.heap w) {m jd e2 sz : Nat} {ro : Bool} (hg : S.heap.get m = some (.r jd e2 sz ro)) {xv : Value} (hx : Rel C ρ (.sr m) xv) :
 ∃ (news : List Value) (n : Nat), C.nu jd = .tuple ⟨news⟩ ∧ news.length = n * sz ∧ (∀ y ∈ news, y.oneCell' = true) ∧ (∀ w', (Builtin.lenOf xv).run C.P w' = .ok n w') ∧ (∀ w', w'.heap = w.heap → (Builtin.firstCells sz n xv).run C.P w' = .ok news.toArray w') ∧ 1 ≤ sz := by
 simp only [Rel] at hx
 obtain ⟨r, hr, hcap, rfl⟩ := hx
 obtain ⟨arr, tt, fz, hb, htt, hrow⟩ := qK hF hg hr
 obtain ⟨l, hl, hlen, hcell⟩ := hrow.row
 refine ⟨l, r.cap, hl, hlen, fun y hy => ?_, fun w' => by simp [Builtin.lenOf], fun w' hw' => ?_, hrow.pos⟩
 ·obtain ⟨q, hq⟩ := List.getElem?_of_mem hy
  exact (hcell q y hq).2
 ·have := run_loadCells_list (P := C.P) w' ⟨r.blk, r.base, none⟩ l (fun j v hj => by
   have h1 := (hcell j v hj).1
   simp only [World.cell?, Addr.add_lit, hw', hb]
   simpa using h1)
  rw [hlen] at this
  simpa [Builtin.firstCells] using this
theorem appR_ok (ht : TyOk C.P tb) (hh : HypOk C tb) (hF : Fits C tb.ng B ρ S.heap w) (aW : tb.ng ≤ S.next) {ats : Array Nat} {st xt ty n : Nat} {x v : AV} {sv xv : Value} (h0 : ats[0]? = some st) (h1 : ats[1]? = some xt) (hs : Rel C ρ (.sr n) sv) (hx : Rel C ρ x xv)
 (h : oo tb st xt n x S = some (v, S')) (hfree : Free ρ S.next S'.next) : hR C tb.ng B ρ w S S' v ats ty sv xv := by
 unfold oo at h
 obtain ⟨ti, e1, h2⟩ := lb h
 obtain ⟨i, hi, rfl⟩ := ht.ty _ _ e1
 rw [cd] at h2
 obtain ⟨e, e2, h3⟩ := lb h2
 have hu := eg (mK e2)
 obtain ⟨te, e3, h4⟩ := lb h3
 obtain ⟨ie, hie, rfl⟩ := ht.ty _ _ e3
 obtain ⟨tx, e4, h5⟩ := lb h4
 obtain ⟨ix, hix, rfl⟩ := ht.ty _ _ e4
 obtain ⟨hc, h6⟩ := bT h5
 simp only [Bool.and_eq_true, Bool.not_eq_true'] at hc
 obtain ⟨⟨c2, c4⟩, c5⟩ := hc
 obtain ⟨z0, hz0, hone, gK⟩ := lC c2
 obtain ⟨en, S1, g1, g2, g3, h7⟩ := lK h6
 cases en with
 | r id e' sz ro =>
  cases ro with
  | true => exact (aU h7).elim
  | false =>
  dsimp only at h7
  obtain ⟨hc2, h8⟩ := bT h7
  simp only [Bool.and_eq_true] at hc2
  have c6 : e' = e := Nat.eq_of_beq_eq_true hc2.1
  subst c6
  have hsz : ie.size = sz := Nat.eq_of_beq_eq_true hc2.2
  subst hsz
  obtain ⟨nn, h9, h10⟩ := lb h8
  obtain ⟨d, S2, h11, h12⟩ := bZ h10
  obtain ⟨z, h13, jn⟩ := lb h12
  obtain ⟨a, h15, h16⟩ := lb jn
  obtain ⟨q, h17, h18⟩ := lb h16
  obtain ⟨u, S3, h19, h20⟩ := bZ h18
  obtain ⟨v', S4, h21, h22⟩ := bZ h20
  obtain ⟨rfl, rfl⟩ := aX h22
  have hz : z = .x a := by cases z <;> simp only [eX] at h15 <;> first | (cases h15; done) | (injection h15 with h15; rw [h15])
  subst hz
  simp only [Rel] at hs
  obtain ⟨r, hr, hcap, rfl⟩ := hs
  obtain ⟨arr, tt, fz, hb, htt, hrow⟩ := qK hF g1 hr
  have htt' := htt rfl
  subst tt
  obtain ⟨l, hl, hlen, hcell⟩ := hrow.row
  obtain ⟨hown, hbase, zx, hroom⟩ := hrow.own rfl
  have hpos := hrow.pos
  obtain ⟨s1, s2, s3, s4, news, s5, s6, s7, s8, s9, s10⟩ := src_ok (S := S1) (by rw [g2]; exact hF) hx h9 h11
  have hnl : news.length = nn * ie.size := by rw [s5.len]; exact s4
  obtain ⟨l', e5, e6⟩ := b8 hh h13 ρ (C.nu id) news (by simp only [Rel]) s5
  rw [hl] at e5
  have e5 := hZ e5
  subst e5
  simp only [Rel] at e6
  obtain ⟨m, n', hm, hml, hf1, hf2⟩ := b8 hh h17 ρ (C.nu a) (by simp only [Rel])
  rw [← e6] at hm
  have hm := hZ hm
  subst hm
  rw [List.length_append, hlen, hnl, ← Nat.add_mul] at hml
  have hn' : r.cap + nn = n' := Nat.eq_of_mul_eq_mul_right hpos hml
  subst hn'
  obtain ⟨k1, k2, k3, k4⟩ := me h19
  obtain ⟨rfl, n1, n2, n3⟩ := im h21
  obtain ⟨dx, gI, hni⟩ := oH c4 c5
  have hA : iV C.P w ats e' ie xv nn news := ⟨xt, dx, h1, gI, .inl ⟨hni, s7, s8⟩⟩
  have hnext : S3.next = S.next := by rw [k4, s2, g3]
  have hheap : S'.heap = (S.heap.del n).set S3.next (.r a e' ie.size false) := by rw [n2, k3, s1, g2]
  have hf : ρ S3.next = none := by rw [hnext]; exact hfree _ (Nat.le_refl _) (by rw [n3, hnext]; omega)
  have hsum : (r.cap + nn) * ie.size = r.cap * ie.size + nn * ie.size := Nat.add_mul _ _ _
  by_cases hin : r.cap + nn ≤ r.es
  ·have hrun := uX (ty := ty) (a := ⟨r.blk, 0, none⟩) (sLen := r.cap) (sCap := r.es) h0 hu hie hA hin
   have hfits : r.cap * ie.size + nn * ie.size ≤ arr.size := by
    rw [← hsum]; exact Nat.le_trans (Nat.mul_le_mul_right _ hin) hroom
   have lg := rS C.P r.blk e' fz (r.cap * ie.size) news 0 arr w hb (fun x _ hxs => zx x hxs) (by rw [hnl]; omega) s6
   simp only [Nat.add_zero] at lg
   have tV : r.cap * ie.size + news.length ≤ arr.toList.length := by rw [hnl]; simpa using hfits
   have hsz2 : (dB arr.toList (r.cap * ie.size) news).toArray.size = arr.size := by
    simp only [List.size_toArray]; rw [pf _ _ _ tV]; simp
   have hbel : Below B w (w.setRow r.blk (dB arr.toList (r.cap * ie.size) news).toArray) := Below.row hb hown
   have hrow2 : ot C B a ie.size false ⟨r.blk, 0, r.cap + nn, r.es⟩ (dB arr.toList (r.cap * ie.size) news).toArray fz := by
    refine ⟨fun _ => ⟨hown, rfl, by rw [hsz2]; exact zx, by rw [hsz2]; exact hroom⟩, ⟨l ++ news, e6.symm, by rw [List.length_append, hlen, hnl, hsum], fun j y hj => ?_⟩, hin, hpos⟩
    rw [Nat.zero_add, List.getElem?_toArray, kH _ _ _ _ tV]
    rw [List.getElem?_append] at hj
    by_cases h1 : j < r.cap * ie.size
    ·rw [if_pos h1]; rw [if_pos (by omega)] at hj
     have := hcell j y hj
     rw [hbase, Nat.zero_add] at this
     exact ⟨by simpa using this.1, this.2⟩
    ·rw [if_neg h1]
     rw [if_neg (by omega)] at hj
     have hjl : j - l.length < news.length := by
      rcases Nat.lt_or_ge (j - l.length) news.length with h | h
      ·exact h
      ·rw [List.getElem?_eq_none h] at hj; cases hj
     rw [if_pos (by omega), ← hlen]
     exact ⟨hj, s6 y (List.mem_of_getElem? hj)⟩
   refine ⟨cE ρ S3.next ⟨r.blk, 0, r.cap + nn, r.es⟩, .slice (some ⟨r.blk, 0, none⟩) (r.cap + nn) r.es, _, ?_, ?_, ?_, ?_, hbel⟩
   ·rw [hbase, hrun, Addr.add_lit, Nat.zero_add, lg]; rfl
   ·simp only [Rel]; exact ⟨_, by simp [cE]; rfl, hin, rfl⟩
   ·rw [hheap]
    exact hF.move g1 hr k2 n1 hf (o := .cells (dB arr.toList (r.cap * ie.size) news).toArray e' fz) ⟨fun _ => rfl, hrow2⟩ rfl (setRow_heap w _ _ _ _ _ hb) (fun b hb' => setRow_other w _ _ _ hb') (by simp) hbel.block
   ·have := gY ρ S3.next ⟨r.blk, 0, r.cap + nn, r.es⟩
    rw [n3, hnext]; rw [hnext] at this; exact this
  ·have hin : r.es < r.cap + nn := by omega
   have hold : ∀ w', w'.heap = w.heap → (Builtin.firstCells ie.size r.cap (.slice (some ⟨r.blk, 0, none⟩) r.cap r.es)).run C.P w' = .ok l.toArray w' := fun w' hw' => by
    have := run_loadCells_list (P := C.P) w' ⟨r.blk, 0, none⟩ l (fun j v hj => by
     have := (hcell j v hj).1
     rw [hbase, Nat.zero_add] at this
     simp only [World.cell?, Addr.add_lit, hw', hb]
     simpa using this)
    rw [hlen] at this
    simpa [Builtin.firstCells] using this
   have hrun := od (ty := ty) (z := z0) h0 hu hie hz0 gK hA hin hold hf1 hf2
   have hge := grownCap_ge w (r.cap + nn) r.es e'
   generalize hcp : grownCap w (r.cap + nn) r.es e' = cp at hrun hge
   have hz1 : z0.cells.size = ie.size := by simpa using gK
   have harr : (l.toArray ++ (news.toArray ++ madeCells z0.cells ((cp - (r.cap + nn)) * ie.size))).size = l.length + (news.length + (madeCells z0.cells ((cp - (r.cap + nn)) * ie.size)).size) := by simp
   have hrow2 : ot C B a ie.size false ⟨w.heap.size, 0, r.cap + nn, cp⟩ (l.toArray ++ (news.toArray ++ madeCells z0.cells ((cp - (r.cap + nn)) * ie.size))) (0, 0) := by
    refine ⟨fun _ => ⟨hF.fresh (Nat.le_refl _), rfl, fun x _ => by simp, ?_⟩, ⟨l ++ news, e6.symm, by rw [List.length_append, hlen, hnl, hsum], fun j y hj => ?_⟩, hge, hpos⟩
    ·rw [harr, hlen, hnl, size_madeCells, ← Nat.add_assoc, ← hsum, ← Nat.add_mul]
     show cp * ie.size ≤ _
     exact Nat.mul_le_mul_right _ (by omega)
    ·have hlt : j < (l ++ news).length := by
      rcases Nat.lt_or_ge j (l ++ news).length with h | h
      ·exact h
      ·rw [List.getElem?_eq_none h] at hj; cases hj
     refine ⟨?_, ?_⟩
     ·rw [Nat.zero_add, ← Array.append_assoc, Array.getElem?_append_left (by simpa using hlt)]
      simpa using hj
     ·rcases List.mem_append.mp (List.mem_of_getElem? hj) with h | h
      ·obtain ⟨q, hq⟩ := List.getElem?_of_mem h
       exact (hcell q y hq).2
      ·exact s6 y h
   have hFd := hF.del (v := n) k2
   have hFn := hFd.new (n := S3.next) (k := .r a e' ie.size false) (r := ⟨w.heap.size, 0, r.cap + nn, cp⟩) (w' := w.drew.alloc (.cells (l.toArray ++ (news.toArray ++ madeCells z0.cells ((cp - (r.cap + nn)) * ie.size))) e')) (o := .cells _ e' (0, 0)) n1 (by rw [hnext]; exact aW) hf rfl ⟨fun _ => rfl, hrow2⟩ rfl
   refine ⟨cE ρ S3.next ⟨w.heap.size, 0, r.cap + nn, cp⟩, .slice (some ⟨w.heap.size, 0, none⟩) (r.cap + nn) cp, _, by rw [hbase]; exact hrun, ?_, ?_, ?_, ?_⟩
   ·simp only [Rel]; exact ⟨_, by simp [cE]; rfl, hge, rfl⟩
   ·rw [hheap]; exact hFn
   ·have := gY ρ S3.next ⟨w.heap.size, 0, r.cap + nn, cp⟩
    rw [n3, hnext]; rw [hnext] at this; exact this
   ·refine ⟨rfl, rfl, rfl, by simp, fun b hb' => ?_, fun b o hb' _ => ?_⟩
    ·have := hF.size b (by assumption)
     show (w.heap.push _)[b]? = _
     rw [Array.getElem?_push, if_neg (by omega)]
    ·have hlt : b < w.heap.size := qH hb'
     show (w.heap.push _)[b]? = _
     rw [Array.getElem?_push, if_neg (by omega)]; exact hb'
 | _ => exact (aU h7).elim
theorem appRR_ok (ht : TyOk C.P tb) (hh : HypOk C tb) (hF : Fits C tb.ng B ρ S.heap w) (aW : tb.ng ≤ S.next) {ats : Array Nat} {st xt ty n m : Nat} {v : AV} {sv xv : Value} (h0 : ats[0]? = some st) (h1 : ats[1]? = some xt) (hs : Rel C ρ (.sr n) sv) (hx : Rel C ρ (.sr m) xv)
 (h : oh tb st xt n m S = some (v, S')) (hfree : Free ρ S.next S'.next) : hR C tb.ng B ρ w S S' v ats ty sv xv := by
 unfold oh at h
 exact (aU h).elim
theorem aB5 {s : AV} (h : lW s = true) : s = .aL := by cases s <;> simp only [lW] at h <;> first | rfl | (exact absurd h (by simp))
theorem nilR_ok (hh : HypOk C tb) {e0 : Nat} {s x : AV} {sv : Value} (h : yI tb s x = some e0) (hs : Rel C ρ s sv) : sv = .slice none 0 0 ∧ C.nu e0 = .tuple ⟨[]⟩ := by
 unfold yI at h
 cases hc : (lW s && y6 x) with
 | false => rw [hc] at h; cases h
 | true =>
 rw [hc, cond_true] at h
 have h1 := h
 simp only [Bool.and_eq_true] at hc
 have hn := aB5 hc.1
 subst hn
 simp only [Rel] at hs
 rw [qG] at h1
 cases hq : hl tb.hyp .rn with
 | none => rw [hq] at h1; cases h1
 | some z =>
  rw [hq] at h1
  have hz : z = .x e0 := by cases z <;> simp only [mF] at h1 <;> first | (cases h1; done) | (injection h1 with h1; rw [h1])
  subst hz
  have := b8 hh hq ρ
  simp only [Rel] at this
  exact ⟨hs, this.symm⟩
theorem appRN_ok (ht : TyOk C.P tb) (hh : HypOk C tb) (hF : Fits C tb.ng B ρ S.heap w) (aW : tb.ng ≤ S.next) {ats : Array Nat} {st xt ty e0 : Nat} {x v : AV} {sv xv : Value} (h0 : ats[0]? = some st) (h1 : ats[1]? = some xt) (hs : sv = .slice none 0 0) (he0 : C.nu e0 = .tuple ⟨[]⟩) (hx : Rel C ρ x xv)
 (h : om tb st xt e0 x S = some (v, S')) (hfree : Free ρ S.next S'.next) : hR C tb.ng B ρ w S S' v ats ty sv xv := by
 unfold om at h
 obtain ⟨ti, e1, h2⟩ := lb h
 obtain ⟨i, hi, rfl⟩ := ht.ty _ _ e1
 rw [cd] at h2
 obtain ⟨e, e2, h3⟩ := lb h2
 have hu := eg (mK e2)
 obtain ⟨te, e3, h4⟩ := lb h3
 obtain ⟨ie, hie, rfl⟩ := ht.ty _ _ e3
 obtain ⟨tx, e4, h5⟩ := lb h4
 obtain ⟨ix, hix, rfl⟩ := ht.ty _ _ e4
 obtain ⟨hc, h6⟩ := bT h5
 rw [iq] at hc h6
 simp only [Bool.and_eq_true, Bool.not_eq_true'] at hc
 obtain ⟨⟨⟨c2, c4⟩, c5⟩, c7⟩ := hc
 have hpos : 1 ≤ ie.size := Nat.le_of_ble_eq_true c7
 obtain ⟨z0, hz0, hone, gK⟩ := lC c2
 obtain ⟨nn, h9, h10⟩ := lb h6
 obtain ⟨hn1, h11⟩ := bT h10
 have hn1 : 1 ≤ nn := Nat.le_of_ble_eq_true hn1
 obtain ⟨d, S2, h12, h13⟩ := bZ h11
 obtain ⟨z, jn, h15⟩ := lb h13
 obtain ⟨a, h16, h17⟩ := lb h15
 obtain ⟨q, h18, h19⟩ := lb h17
 obtain ⟨v', S4, h21, h22⟩ := bZ h19
 obtain ⟨rfl, rfl⟩ := aX h22
 have hz : z = .x a := by cases z <;> simp only [eX] at h16 <;> first | (cases h16; done) | (injection h16 with h16; rw [h16])
 subst hz
 subst hs
 obtain ⟨s1, s2, s3, s4, news, s5, s6, s7, s8, s9, s10⟩ := src_ok hF hx h9 h12
 have hnl : news.length = nn * ie.size := by rw [s5.len]; exact s4
 obtain ⟨l', e5, e6⟩ := b8 hh jn ρ (C.nu e0) news (by simp only [Rel]) s5
 rw [he0] at e5
 have e5 := hZ e5
 subst e5
 simp only [Rel, List.nil_append] at e6
 obtain ⟨m, n', hm, hml, hf1, hf2⟩ := b8 hh h18 ρ (C.nu a) (by simp only [Rel])
 rw [← e6] at hm
 have hm := hZ hm
 subst hm
 rw [hnl] at hml
 have hn' : nn = n' := Nat.eq_of_mul_eq_mul_right hpos hml
 subst hn'
 obtain ⟨rfl, n1, n2, n3⟩ := im h21
 obtain ⟨dx, gI, hni⟩ := oH c4 c5
 have hA : iV C.P w ats e ie xv nn news := ⟨xt, dx, h1, gI, .inl ⟨hni, s7, s8⟩⟩
 have hf : ρ S.next = none := hfree _ (Nat.le_refl _) (by rw [n3, s2]; omega)
 have hold : ∀ w', w'.heap = w.heap → (Builtin.firstCells ie.size 0 (.slice none 0 0)).run C.P w' = .ok ([] : List Value).toArray w' := fun w' hw' => by
  simp [Builtin.firstCells]
 have hrun := od (ty := ty) (z := z0) (base := none) (sLen := 0) (sCap := 0) (olds := []) h0 hu hie hz0 gK hA (by omega) hold (by rw [Nat.zero_add]; exact hf1) (by omega)
 have hge := grownCap_ge w (0 + nn) 0 e
 generalize hcp : grownCap w (0 + nn) 0 e = cp at hrun hge
 have harr : (([] : List Value).toArray ++ (news.toArray ++ madeCells z0.cells ((cp - (0 + nn)) * ie.size))).size = news.length + (madeCells z0.cells ((cp - (0 + nn)) * ie.size)).size := by simp
 have hrow2 : ot C B a ie.size false ⟨w.heap.size, 0, 0 + nn, cp⟩ (([] : List Value).toArray ++ (news.toArray ++ madeCells z0.cells ((cp - (0 + nn)) * ie.size))) (0, 0) := by
  refine ⟨fun _ => ⟨hF.fresh (Nat.le_refl _), rfl, fun x _ => by simp, ?_⟩, ⟨news, e6.symm, by rw [hnl]; simp, fun j y hj => ?_⟩, hge, hpos⟩
  ·rw [harr, hnl, size_madeCells, ← Nat.add_mul]
   show cp * ie.size ≤ _
   exact Nat.mul_le_mul_right _ (by omega)
  ·have hlt : j < news.length := by
    rcases Nat.lt_or_ge j news.length with h | h
    ·exact h
    ·rw [List.getElem?_eq_none h] at hj; cases hj
   refine ⟨?_, s6 y (List.mem_of_getElem? hj)⟩
   rw [Nat.zero_add, ← Array.append_assoc, Array.getElem?_append_left (by simpa using hlt)]
   simpa using hj
 have hFn := (s1 ▸ hF : Fits C tb.ng B ρ S2.heap w).new (n := S.next) (k := .r a e ie.size false) (r := ⟨w.heap.size, 0, 0 + nn, cp⟩) (w' := w.drew.alloc (.cells (([] : List Value).toArray ++ (news.toArray ++ madeCells z0.cells ((cp - (0 + nn)) * ie.size))) e)) (o := .cells _ e (0, 0)) (s2 ▸ n1) aW hf rfl ⟨fun _ => rfl, hrow2⟩ rfl
 refine ⟨cE ρ S.next ⟨w.heap.size, 0, 0 + nn, cp⟩, .slice (some ⟨w.heap.size, 0, none⟩) (0 + nn) cp, _, hrun, ?_, ?_, ?_, ?_⟩
 ·simp only [Rel]; exact ⟨⟨w.heap.size, 0, 0 + nn, cp⟩, by simp [cE, s2], hge, rfl⟩
 ·rw [n2, s2]; exact hFn
 ·have := gY ρ S.next ⟨w.heap.size, 0, 0 + nn, cp⟩
  rw [n3, s2]; exact this
 ·refine ⟨rfl, rfl, rfl, by simp, fun b hb' => ?_, fun b o hb' _ => ?_⟩
  ·have := hF.size b (by assumption)
   show (w.heap.push _)[b]? = _
   rw [Array.getElem?_push, if_neg (by omega)]
  ·have hlt : b < w.heap.size := qH hb'
   show (w.heap.push _)[b]? = _
   rw [Array.getElem?_push, if_neg (by omega)]; exact hb'
theorem nilRR_ok (hh : HypOk C tb) {e0 m : Nat} {s x : AV} {sv : Value} (h : yH tb s x = some (e0, m)) (hs : Rel C ρ s sv) : sv = .slice none 0 0 ∧ C.nu e0 = .tuple ⟨[]⟩ ∧ x = .sr m := by
 unfold yH at h
 cases hc : lW s with
 | false => rw [hc] at h; cases h
 | true =>
 rw [hc, cond_true] at h
 have hn := aB5 hc
 subst hn
 simp only [Rel] at hs
 rw [qG] at h
 cases hx : ib x with
 | none => rw [hx] at h; cases h
 | some mm =>
  rw [hx] at h
  have hx' : x = .sr mm := by cases x <;> simp only [ib] at hx <;> first | (cases hx; done) | (injection hx with hx; rw [hx])
  cases hq : hl tb.hyp .rn with
  | none => rw [hq] at h; cases h
  | some z =>
   rw [hq] at h
   cases z <;> simp only [mF] at h <;> try (cases h; done)
   injection h with h
   injection h with h1 h2
   subst h1; subst h2
   have := b8 hh hq ρ
   simp only [Rel] at this
   exact ⟨hs, this.symm, hx'⟩
theorem appRR0_ok (ht : TyOk C.P tb) (hh : HypOk C tb) (hF : Fits C tb.ng B ρ S.heap w) (aW : tb.ng ≤ S.next) {ats : Array Nat} {st xt ty e0 m : Nat} {v : AV} {sv xv : Value} (h0 : ats[0]? = some st) (h1 : ats[1]? = some xt) (hs : sv = .slice none 0 0) (he0 : C.nu e0 = .tuple ⟨[]⟩) (hx : Rel C ρ (.sr m) xv)
 (h : og tb st xt e0 m S = some (v, S')) (hfree : Free ρ S.next S'.next) : hR C tb.ng B ρ w S S' v ats ty sv xv := by
 unfold og at h
 exact (aU h).elim
theorem fullSl_spec {s x : AV} {m : Nat} (h : AA s x = some m) : ∃ v o n, s = .sl v o n n false ∧ x = .sr m := by
 cases s <;> try (cases h; done)
 rename_i v o n c r
 cases r with
 | true => cases h
 | false =>
 cases x <;> try (cases h; done)
 simp only [AA] at h
 cases hb : Nat.beq n c with
 | false => rw [hb] at h; cases h
 | true =>
  rw [hb] at h
  injection h with h
  have := Nat.eq_of_beq_eq_true hb
  subst this; subst h
  exact ⟨_, _, _, rfl, rfl⟩
theorem aR0 {sb so sn : Nat} {sv : Value} (h : Rel C ρ (.sl sb so sn sn false) sv) : Rel C ρ (sl0 (.sl sb so sn sn false)) sv ∧ jL (sl0 (.sl sb so sn sn false)) = some sn := by
 unfold sl0
 cases hb : Nat.beq sn 0 with
 | true =>
  have := Nat.eq_of_beq_eq_true hb
  subst this
  simp only [Rel] at h
  obtain ⟨r, hr, _, rfl⟩ := h
  exact ⟨by simp only [cond_true, Rel, Nat.beq_refl]; exact ⟨_, _, rfl⟩, rfl⟩
 | false => exact ⟨by simp only [hb, cond_false]; exact h, by simp only [hb, cond_false]; rfl⟩
theorem appSR_ok (ht : TyOk C.P tb) (hh : HypOk C tb) (hF : Fits C tb.ng B ρ S.heap w) (aW : tb.ng ≤ S.next) {ats : Array Nat} {st xt ty m sb so sn : Nat} {v : AV} {sv xv : Value} (h0 : ats[0]? = some st) (h1 : ats[1]? = some xt) (hs : Rel C ρ (.sl sb so sn sn false) sv) (hx : Rel C ρ (.sr m) xv)
 (h : oe tb st xt (.sl sb so sn sn false) m S = some (v, S')) (hfree : Free ρ S.next S'.next) : hR C tb.ng B ρ w S S' v ats ty sv xv := by
 unfold oe at h
 obtain ⟨ti, e1, h2⟩ := lb h
 obtain ⟨i, hi, rfl⟩ := ht.ty _ _ e1
 rw [cd] at h2
 obtain ⟨e, e2, h3⟩ := lb h2
 have hu := eg (mK e2)
 obtain ⟨te, e3, h4⟩ := lb h3
 obtain ⟨ie, hie, rfl⟩ := ht.ty _ _ e3
 obtain ⟨tx, e4, h5⟩ := lb h4
 obtain ⟨ix, hix, rfl⟩ := ht.ty _ _ e4
 obtain ⟨hc, h6⟩ := bT h5
 rw [iq] at hc h6
 simp only [Bool.and_eq_true, Bool.not_eq_true'] at hc
 obtain ⟨⟨⟨c2, c4⟩, c5⟩, c7⟩ := hc
 have hpos : 1 ≤ ie.size := Nat.le_of_ble_eq_true c7
 obtain ⟨z0, hz0, hone, gK⟩ := lC c2
 obtain ⟨en2, S2, gg1, s1, s2, h7'⟩ := lK h6
 obtain ⟨dx, gI, hni⟩ := oH c4 c5
 obtain ⟨jd, e2, sz2, ro2, rfl⟩ : ∃ a b c d, en2 = .r a b c d := by cases en2 <;> first | exact ⟨_, _, _, _, rfl⟩ | exact (aU h7').elim
 dsimp only at h7'
 obtain ⟨hc2, h8⟩ := bT h7'
 have hsz2 : sz2 = ie.size := Nat.eq_of_beq_eq_true hc2
 subst hsz2
 obtain ⟨mm, h9, h10⟩ := lb h8
 obtain ⟨g, h11, h12⟩ := lb h10
 obtain ⟨news, nn, hjd, hnl, s6, s7, s8, _⟩ := srcR_ok (S := S) hF gg1 hx
 obtain ⟨cs, n0, hcs, hcl, hm0⟩ := b8 hh h9 ρ (C.nu jd) (by simp only [Rel])
 rw [hjd] at hcs
 have hcs := hZ hcs
 subst hcs
 rw [hnl] at hcl
 have hn0 : nn = n0 := Nat.eq_of_mul_eq_mul_right hpos hcl
 subst hn0
 obtain ⟨_, gv, hgv, hgr⟩ := b8 hh h11 ρ (.int .i64 (nn : Int)) (.int .i64 0) hm0 (by simp only [Rel]; rfl)
 have hgd : gv = .bool (decide ((0 : Int) < nn)) := by
  have h1 := hgr 0 w
  have h2 : (binOp .gtr 0 (.int .i64 (nn : Int)) (.int .i64 0)).run C.P w = .ok (.bool (decide ((0 : Int) < nn))) w := by simp [binOp, Op.intCmp]
  rw [h2] at h1; injection h1 with h1; exact h1.symm
 cases g <;> try exact (aU h12).elim
 rename_i gb
 simp only [Rel] at hgv
 rw [hgd] at hgv
 injection hgv with hgv
 cases gb with
 | false => exact (aU h12).elim
 | true =>
 have hn1 : 1 ≤ nn := by have := of_decide_eq_true hgv; omega
 obtain ⟨n0', hn0', h13⟩ := lb h12
 simp only [jL, Option.some.injEq] at hn0'
 subst hn0'
 obtain ⟨d, S3, jn, h15⟩ := bZ h13
 obtain ⟨y0, h16, h17⟩ := lb h15
 obtain ⟨e0, h18, h19⟩ := lb h17
 obtain ⟨z1, h20, h21⟩ := lb h19
 obtain ⟨a1, h22, h23⟩ := lb h21
 obtain ⟨z, h24, h25⟩ := lb h23
 obtain ⟨a, h26, h27⟩ := lb h25
 obtain ⟨q, h28, h29⟩ := lb h27
 obtain ⟨v', S4, h30, h31⟩ := bZ h29
 obtain ⟨rfl, rfl⟩ := aX h31
 have hsym : ∀ {z : AV} {a : Nat}, eX z = some a → z = .x a := fun {z a} h => by cases z <;> simp only [eX] at h <;> first | (cases h; done) | (injection h with h; rw [h])
 have := hsym h18; subst this
 have := hsym h22; subst this
 have := hsym h26; subst this
 obtain ⟨k1, k2, k3, k4, olds, k5, k6, k7, k8, k9, k10⟩ := src_ok (s1 ▸ hF : Fits C tb.ng B ρ S2.heap w) (aR0 hs).1 (aR0 hs).2 jn
 have hol : olds.length = sn * ie.size := by rw [k5.len]; exact k4
 simp only [Rel] at hs
 obtain ⟨rr, hrr, _, rfl⟩ := hs
 have h16 := b8 hh h16 ρ
 simp only [Rel] at h16
 obtain ⟨l', e5, e6⟩ := b8 hh h20 ρ (C.nu e0) olds (by simp only [Rel]) k5
 rw [← h16] at e5
 have e5 := hZ e5
 subst e5
 simp only [Rel, List.nil_append] at e6
 obtain ⟨l'', ds, e7, e7', e8⟩ := b8 hh h24 ρ (C.nu a1) (C.nu jd) (by simp only [Rel]) (by simp only [Rel])
 rw [← e6] at e7
 have e7 := hZ e7
 subst e7
 rw [hjd] at e7'
 have e7' := hZ e7'
 subst e7'
 simp only [Rel] at e8
 obtain ⟨m', n', hm, hml, hf1, hf2⟩ := b8 hh h28 ρ (C.nu a) (by simp only [Rel])
 rw [← e8] at hm
 have hm := hZ hm
 subst hm
 rw [List.length_append, hol, hnl, ← Nat.add_mul] at hml
 have hn' : sn + nn = n' := Nat.eq_of_mul_eq_mul_right hpos hml
 subst hn'
 obtain ⟨rfl, n1, n2, n3⟩ := im h30
 have hA : iV C.P w ats e ie xv nn news := ⟨xt, dx, h1, gI, .inl ⟨hni, s7, s8⟩⟩
 have hf : ρ S.next = none := hfree _ (Nat.le_refl _) (by rw [n3, k2, s2]; omega)
 have hrun := od (ty := ty) (z := z0) (base := some ⟨rr.blk, rr.base + so, none⟩) (sLen := sn) (sCap := sn) (olds := olds) h0 hu hie hz0 gK hA (by omega) k8 hf1 (by omega)
 have hge := grownCap_ge w (sn + nn) sn e
 generalize hcp : grownCap w (sn + nn) sn e = cp at hrun hge
 have harr : (olds.toArray ++ (news.toArray ++ madeCells z0.cells ((cp - (sn + nn)) * ie.size))).size = olds.length + news.length + (madeCells z0.cells ((cp - (sn + nn)) * ie.size)).size := by simp [Nat.add_assoc]
 have hrow2 : ot C B a ie.size false ⟨w.heap.size, 0, sn + nn, cp⟩ (olds.toArray ++ (news.toArray ++ madeCells z0.cells ((cp - (sn + nn)) * ie.size))) (0, 0) := by
  refine ⟨fun _ => ⟨hF.fresh (Nat.le_refl _), rfl, fun x _ => by simp, ?_⟩, ⟨olds ++ news, e8.symm, by rw [List.length_append, hol, hnl, ← Nat.add_mul], fun j y hj => ?_⟩, hge, hpos⟩
  ·rw [harr, hol, hnl, size_madeCells, ← Nat.add_mul, ← Nat.add_mul]
   show cp * ie.size ≤ _
   exact Nat.mul_le_mul_right _ (by omega)
  ·have hlt : j < (olds ++ news).length := by
    rcases Nat.lt_or_ge j (olds ++ news).length with h | h
    ·exact h
    ·rw [List.getElem?_eq_none h] at hj; cases hj
   refine ⟨?_, ?_⟩
   ·rw [Nat.zero_add, ← Array.append_assoc, Array.getElem?_append_left (by simpa using hlt)]
    simpa using hj
   ·rcases List.mem_append.1 (List.mem_of_getElem? hj) with h | h
    ·exact k6 y h
    ·exact s6 y h
 have hFn := (k1 ▸ s1 ▸ hF : Fits C tb.ng B ρ S3.heap w).new (n := S.next) (k := .r a e ie.size false) (r := ⟨w.heap.size, 0, sn + nn, cp⟩) (w' := w.drew.alloc (.cells (olds.toArray ++ (news.toArray ++ madeCells z0.cells ((cp - (sn + nn)) * ie.size))) e)) (o := .cells _ e (0, 0)) (s2 ▸ k2 ▸ n1) aW hf rfl ⟨fun _ => rfl, hrow2⟩ rfl
 refine ⟨cE ρ S.next ⟨w.heap.size, 0, sn + nn, cp⟩, .slice (some ⟨w.heap.size, 0, none⟩) (sn + nn) cp, _, hrun, ?_, ?_, ?_, ?_⟩
 ·simp only [Rel]; exact ⟨⟨w.heap.size, 0, sn + nn, cp⟩, by simp [cE, s2, k2], hge, rfl⟩
 ·rw [n2, k2, s2]; exact hFn
 ·have := gY ρ S.next ⟨w.heap.size, 0, sn + nn, cp⟩
  rw [n3, k2, s2]; exact this
 ·refine ⟨rfl, rfl, rfl, by simp, fun b hb' => ?_, fun b o hb' _ => ?_⟩
  ·have := hF.size b (by assumption)
   show (w.heap.push _)[b]? = _
   rw [Array.getElem?_push, if_neg (by omega)]
  ·have hlt : b < w.heap.size := qH hb'
   show (w.heap.push _)[b]? = _
   rw [Array.getElem?_push, if_neg (by omega)]; exact hb'
theorem appGN_ok (ht : TyOk C.P tb) (hh : HypOk C tb) (hF : Fits C tb.ng B ρ S.heap w) (aW : tb.ng ≤ S.next) {ats : Array Nat} {st xt ty a : Nat} {v : AV} {sv xv : Value} (h0 : ats[0]? = some st) (h1 : ats[1]? = some xt) (hs : sv = .slice none 0 0) (hx : xv = C.nu a)
 (h : Ax tb st xt a S = some (v, S')) (hfree : Free ρ S.next S'.next) : hR C tb.ng B ρ w S S' v ats ty sv xv := by
 unfold Ax at h
 exact (aU h).elim
theorem appNG_ok (ht : TyOk C.P tb) (hh : HypOk C tb) (hF : Fits C tb.ng B ρ S.heap w) (aW : tb.ng ≤ S.next) {ats : Array Nat} {st xt ty a : Nat} {v : AV} {sv xv : Value} (h0 : ats[0]? = some st) (h1 : ats[1]? = some xt) (hs : sv = .slice none 0 0) (hx : xv = C.nu a)
 (h : Av tb st xt a S = some (v, S')) (hfree : Free ρ S.next S'.next) : hR C tb.ng B ρ w S S' v ats ty sv xv := by
 unfold Av at h
 cases hc : intTt tb xt with
 | true => rw [hc] at h; exact appGN_ok ht hh hF aW h0 h1 hs hx h hfree
 | false => rw [hc] at h; exact appN_ok ht hh hF aW h0 h1 hs hx h hfree
end
end Go.AX
end
section
namespace Go.AX
section
variable {C : Cx} {tb : Tab} {B : Fz} {ρ : aY} {w : World} {S S' : St}
theorem clear_ok (ht : TyOk C.P tb) (hF : Fits C tb.ng B ρ S.heap w) {ats : Array Nat} {t ty : Nat} (h0 : ats[0]? = some t) {x v : AV} {xv : Value} (hx : Rel C ρ x xv) (h : oU tb t x S = some (v, S')) :
 S'.next = S.next ∧ ∃ y w', (Builtin.clear_ ats ty #[xv]).run C.P w = .ok y w' ∧ Rel C ρ v y ∧ Fits C tb.ng B ρ S'.heap w' ∧ Below B w w' := by
 unfold oU at h
 exact (aU h).elim
end
end Go.AX
end
section
namespace Go.AX
section
variable {C : Cx} {tb : Tab} {B : Fz} {ρ : aY} {w : World} {S S' : St}
variable {f : Operand → AV} {g : Operand → Value}
theorem Aq (hf : ∀ x, Rel C ρ (f x) (g x)) (l : List Operand) : aJ C ρ (l.map f) (l.map g) := aJ.map f g hf l
theorem s_builtin (ht : nL C tb) (hF : Fits C tb.ng B ρ S.heap w) (aW : tb.ng ≤ S.next) (hf : ∀ x, Rel C ρ (f x) (g x)) {c : Call} {bi : Builtin} {o : Oper} (ho : o.op = .call c) (hc : c.callee = .builtin bi) {v : AV}
 (h : builtin tb bi c.argTypes.toList (c.args.toList.map f) S = some (v, S')) (hfree : Free ρ S.next S'.next) : cJ C tb.ng B ρ w S S' v ((execOp g o).run C.P w) := by
 have hargs := Aq hf c.args.toList
 have hga : c.args.map g = (c.args.toList.map g).toArray := by rw [← List.map_toArray, Array.toArray_toList]
 have hex : (execOp g o).run C.P w = (Go.builtin bi c.argTypes o.type (c.args.map fun | .const _ => true | _ => false) (c.args.toList.map g).toArray).run C.P w := by
  simp only [execOp, ho, resolve, hc, hga]; rfl
 rw [hex]
 generalize (c.args.map fun | .const _ => true | _ => false) = consts
 generalize c.args.toList.map f = l at h hargs
 generalize c.args.toList.map g = vs at hargs
 have gn : ∀ (t : Nat) r, c.argTypes.toList = t :: r → c.argTypes[0]? = some t := fun t r e => by
  rw [← Array.getElem?_toList, e]; rfl
 have lj : ∀ (t u : Nat) r, c.argTypes.toList = t :: u :: r → c.argTypes[1]? = some u := fun t u r e => by
  rw [← Array.getElem?_toList, e]; rfl
 have two : ∀ {a b : AV} {vs : List Value}, aJ C ρ [a, b] vs → ∃ x y, vs = [x, y] ∧ Rel C ρ a x ∧ Rel C ρ b y := by
  intro a b vs h; simp only [aJ] at h
  obtain ⟨x, vt, rfl, h1, y, vt2, rfl, h2, rfl⟩ := h; exact ⟨x, y, rfl, h1, h2⟩
 have one : ∀ {a : AV} {vs : List Value}, aJ C ρ [a] vs → ∃ x, vs = [x] ∧ Rel C ρ a x := by
  intro a vs h; simp only [aJ] at h
  obtain ⟨x, vt, rfl, h1, rfl⟩ := h; exact ⟨x, rfl, h1⟩
 generalize hts : c.argTypes.toList = ts at h
 unfold builtin at h
 split at h
 ·rename_i t r x
  obtain ⟨x', rfl, hx⟩ := one hargs
  obtain ⟨ti, e1, h1⟩ := lb h
  obtain ⟨i, hi, rfl⟩ := ht.ty _ _ e1
  rw [cd] at h1
  obtain ⟨eh, y, h2, h3⟩ := lenK_ok (w := w) (ty := o.type) hF ht.toHypOk hx h1
  have h2' : (Builtin.len_ c.argTypes o.type #[x']).run C.P w = .ok y w := by
   have : Builtin.len_ c.argTypes o.type #[x'] = Builtin.len_ #[t] o.type #[x'] := by simp [Builtin.len_, gn _ _ hts]
   rw [this]; exact h2
  exact cJ.of (.same hF eh h2' h3)
 ·rename_i t r x
  obtain ⟨x', rfl, hx⟩ := one hargs
  obtain ⟨ti, e1, h1⟩ := lb h
  obtain ⟨i, hi, rfl⟩ := ht.ty _ _ e1
  rw [cd] at h1
  obtain ⟨rfl, y, h2, h3⟩ := capK_ok (C := C) (w := w) (ty := o.type) hx h1
  have h2' : (Builtin.cap_ c.argTypes o.type #[x']).run C.P w = .ok y w := by
   have : Builtin.cap_ c.argTypes o.type #[x'] = Builtin.cap_ #[t] o.type #[x'] := by simp [Builtin.cap_, gn _ _ hts]
   rw [this]; exact h2
  exact cJ.of (.same hF rfl h2' h3)
 ·rename_i x l'
  obtain ⟨h1, rfl⟩ := cr h
  simp only [aJ] at hargs
  obtain ⟨x', vt, rfl, hx, hl⟩ := hargs
  obtain ⟨y, h2, h3⟩ := aM7 (C := C) (w := w) (gg := Builtin.max2) (fun hx hy h => mm_ok (mx := true) ht.toHypOk hx hy h) l' vt x v x' hl hx h1
  exact cJ.of (s := Builtin.max_ c.argTypes o.type (x' :: vt).toArray) (.same hF rfl (by simpa [Builtin.max_] using h2) h3)
 ·rename_i x l'
  obtain ⟨h1, rfl⟩ := cr h
  simp only [aJ] at hargs
  obtain ⟨x', vt, rfl, hx, hl⟩ := hargs
  obtain ⟨y, h2, h3⟩ := aM7 (C := C) (w := w) (gg := Builtin.min2) (fun hx hy h => mm_ok (mx := false) ht.toHypOk hx hy h) l' vt x v x' hl hx h1
  exact cJ.of (s := Builtin.min_ c.argTypes o.type (x' :: vt).toArray) (.same hF rfl (by simpa [Builtin.min_] using h2) h3)
 ·rename_i st xt r s x
  obtain ⟨s', x', rfl, hs, hx⟩ := two hargs
  unfold qe at h
  cases hsy : lG s with
  | none =>
   rw [hsy] at h
   simp only [] at h
   cases hnx : yG tb.hyp s x with
   | some a => rw [hnx] at h; obtain ⟨g1, g2⟩ := nilX_ok ht.toHypOk w hnx hs hx; exact cJ.of (appNG_ok (ty := o.type) ht.toTyOk ht.toHypOk hF aW (gn _ _ hts) (lj _ _ _ hts) g1 g2 h hfree)
   | none =>
    rw [hnx] at h
    dsimp only at h
    cases hne : yJ tb st s x with
    | some e0 =>
     rw [hne] at h
     obtain ⟨g1, g2⟩ := nilE_ok ht.toHypOk hne hs
     exact cJ.of (appE_ok (ty := o.type) ht.toTyOk ht.toHypOk hF aW (gn _ _ hts) (lj _ _ _ hts) g1 g2 hx h hfree)
    | none =>
     rw [hne] at h
     dsimp only at h
     cases hsr : ib s with
     | some v =>
      rw [hsr] at h
      have := Bw hsr
      subst this
      dsimp only at h
      cases hsx : ib x with
      | some m =>
       rw [hsx] at h
       have := Bw hsx
       subst this
       exact cJ.of (appRR_ok (ty := o.type) ht.toTyOk ht.toHypOk hF aW (gn _ _ hts) (lj _ _ _ hts) hs hx h hfree)
      | none =>
       rw [hsx] at h
       exact cJ.of (appR_ok (ty := o.type) ht.toTyOk ht.toHypOk hF aW (gn _ _ hts) (lj _ _ _ hts) hs hx h hfree)
     | none =>
      rw [hsr] at h
      dsimp only at h
      cases hnr : yI tb s x with
      | some e0 =>
       rw [hnr] at h
       obtain ⟨g1, g2⟩ := nilR_ok ht.toHypOk hnr hs
       exact cJ.of (appRN_ok (ty := o.type) ht.toTyOk ht.toHypOk hF aW (gn _ _ hts) (lj _ _ _ hts) g1 g2 hx h hfree)
      | none =>
       rw [hnr] at h
       dsimp only at h
       cases hrr : yH tb s x with
       | some q =>
        rw [hrr] at h
        obtain ⟨q1, q2⟩ := q
        obtain ⟨g1, g2, g3⟩ := nilRR_ok ht.toHypOk hrr hs
        subst g3
        exact cJ.of (appRR0_ok (ty := o.type) ht.toTyOk ht.toHypOk hF aW (gn _ _ hts) (lj _ _ _ hts) g1 g2 hx h hfree)
       | none =>
        rw [hrr] at h
        dsimp only at h
        cases hfs : AA s x with
        | some m =>
         rw [hfs] at h
         obtain ⟨_, _, _, rfl, rfl⟩ := fullSl_spec hfs
         exact cJ.of (appSR_ok (ty := o.type) ht.toTyOk ht.toHypOk hF aW (gn _ _ hts) (lj _ _ _ hts) hs hx h hfree)
        | none => rw [hfs] at h; exact cJ.of (appK_ok (ty := o.type) ht.toTyOk hF aW (gn _ _ hts) (lj _ _ _ hts) hs hx h hfree)
  | some n => rw [hsy] at h; exact cJ.of (appY_ok (ty := o.type) ht.toTyOk ht.toHypOk hF aW (gn _ _ hts) (lj _ _ _ hts) (Bt hsy hs) hx h hfree)
 ·rename_i st r d x
  obtain ⟨d', x', rfl, hd, hx⟩ := two hargs
  obtain ⟨h1, y, w', h2, h3, h4, h5⟩ := copyK_ok (ty := o.type) ht.toTyOk hF (gn _ _ hts) hd hx h
  exact cJ.of (s := Builtin.copy_ c.argTypes o.type #[d', x']) ⟨ρ, y, w', h2, h3, h4, Ext.refl _ _ _, h5⟩
 ·rename_i t r x
  obtain ⟨x', rfl, hx⟩ := one hargs
  obtain ⟨h1, y, w', h2, h3, h4, h5⟩ := clear_ok (ty := o.type) ht.toTyOk hF (gn _ _ hts) hx h
  exact cJ.of (s := Builtin.clear_ c.argTypes o.type #[x']) ⟨ρ, y, w', h2, h3, h4, by rw [h1]; exact Ext.refl _ _ _, h5⟩
 ·rename_i x
  obtain ⟨x', rfl, hx⟩ := one hargs
  obtain ⟨h1, h2, y, h3, h4⟩ := dataU_ok (ats := c.argTypes) (ty := o.type) ht.toTyOk ht.toHypOk hF hx h
  exact cJ.of (s := Builtin.unsafeSliceData_ c.argTypes o.type #[x']) (.same hF h1 h3 h4)
 ·rename_i pt r x n
  obtain ⟨x', n', rfl, hx, hn⟩ := two hargs
  obtain ⟨h1, y, w', h2, h3, h4, h5⟩ := ustrU_ok (ty := o.type) ht.toTyOk ht.toHypOk hF (gn _ _ hts) hx hn h
  exact cJ.of (s := Builtin.unsafeString_ c.argTypes o.type #[x', n']) ⟨ρ, y, w', h2, h3, h4, Ext.refl _ _ _, h5⟩
 ·exact (aU h).elim
end
end Go.AX
end
section
namespace Go.AX
def Rw (S : St) (hi : Nat) : Prop := ∀ v, S.next ≤ v → v < hi → S.heap.get v = none
structure Fr {α : Type} (m : M α) (S : St) (x : α) (S' : St) (A W : Nat) : Prop where
 acc : S'.acc = Nat.lor S.acc A
 wr : S'.wr = Nat.lor S.wr W
 sub : ∀ v, W.testBit v = true → A.testBit v = true
 lt : ∀ v, W.testBit v = true → v < S'.next
 ex : ∀ v, A.testBit v = true → S'.next ≤ v → S.heap.get v ≠ none
 al : ∀ v, S.next ≤ v → v < S'.next → W.testBit v = true
 keep : ∀ v, W.testBit v = false → S'.heap.get v = S.heap.get v
 fr : ∀ T : St, T.next = S.next → (∀ v, A.testBit v = true → ¬ (S.next ≤ v ∧ v < S'.next) → T.heap.get v = S.heap.get v) →
  ∃ T', m T = some (x, T') ∧ T'.next = S'.next ∧ T'.acc = Nat.lor T.acc A ∧ T'.wr = Nat.lor T.wr W ∧ ∀ v, T'.heap.get v = if W.testBit v then S'.heap.get v else T.heap.get v
structure Good {α : Type} (m : M α) : Prop where
 mono : ∀ S x S', m S = some (x, S') → S.next ≤ S'.next
 ok : ∀ S x S', Rw S S'.next → m S = some (x, S') → ∃ A W, Fr m S x S' A W
theorem gh (n : Nat) : Nat.lor n 0 = n := Nat.or_zero n
theorem yS (a b c : Nat) : Nat.lor (Nat.lor a b) c = Nat.lor a (Nat.lor b c) := Nat.or_assoc a b c
theorem iA (a b v : Nat) : (Nat.lor a b).testBit v = (a.testBit v || b.testBit v) := Nat.testBit_or a b v
theorem dd (u v : Nat) : (bit u).testBit v = decide (u = v) := by
 show (1 <<< u).testBit v = _
 rw [Nat.one_shiftLeft, Nat.testBit_two_pow]
theorem Fr.none {α : Type} {m : M α} {S : St} {x : α} (h : ∀ T, m T = some (x, T)) : Fr m S x S 0 0 :=
 ⟨(gh _).symm, (gh _).symm, fun v h => by simp at h, fun v h => by simp at h, fun v h => by simp at h, fun v h1 h2 => by omega, fun _ _ => rfl,
   fun T hT _ => ⟨T, h T, hT, (gh _).symm, (gh _).symm, fun v => by simp⟩⟩
theorem Good.ret {α : Type} (a : α) : Good (AX.ret a) := ⟨fun S x S' h => by obtain ⟨rfl, rfl⟩ := aX h; exact Nat.le_refl _, fun S x S' hw h => by
 obtain ⟨rfl, rfl⟩ := aX h
 exact ⟨0, 0, .none fun T => rfl⟩⟩
theorem Good.fail {α : Type} : Good (AX.fail : M α) := ⟨fun S x S' h => (aU h).elim, fun S x S' hw h => (aU h).elim⟩
theorem Good.aE {α : Type} (o : Option α) : Good (AX.aE o) := ⟨fun S x S' h => by obtain ⟨_, rfl⟩ := cr h; exact Nat.le_refl _, fun S x S' hw h => by
 obtain ⟨h1, rfl⟩ := cr h
 exact ⟨0, 0, .none fun T => by rw [h1]; rfl⟩⟩
theorem Fr.rw {α : Type} {m : M α} {S : St} {x : α} {S' : St} {A W hi : Nat} (q : Fr m S x S' A W) (h : Rw S hi) (hle : S.next ≤ S'.next) : Rw S' hi := fun v h1 h2 => by
 cases hW : W.testBit v with
 | true => have := q.lt v hW; omega
 | false => rw [q.keep v hW]; exact h v (by omega) h2
theorem Good.bnd {α β : Type} {m : M α} {f : α → M β} (hm : Good m) (hf : ∀ a, Good (f a)) : Good (AX.bnd m f) := ⟨fun S x S' h => by
 obtain ⟨a, S1, h1, h2⟩ := bZ h
 exact Nat.le_trans (hm.mono _ _ _ h1) ((hf a).mono _ _ _ h2), fun S x S' hw h => by
 obtain ⟨a, S1, h1, h2⟩ := bZ h
 have l1 := hm.mono _ _ _ h1
 have l2 := (hf a).mono _ _ _ h2
 obtain ⟨A, W, q⟩ := hm.ok _ _ _ (fun v a b => hw v a (by omega)) h1
 obtain ⟨A2, W2, r⟩ := (hf a).ok _ _ _ (q.rw hw l1) h2
 refine ⟨Nat.lor A A2, Nat.lor W W2, by rw [r.acc, q.acc, yS], by rw [r.wr, q.wr, yS], fun v hv => ?_, fun v hv => ?_, fun v hv hge => ?_, fun v h1 h2 => ?_, fun v hv => ?_, fun T hT hag => ?_⟩
 ·rw [iA, Bool.or_eq_true] at hv ⊢; exact hv.imp (q.sub v) (r.sub v)
 ·rw [iA, Bool.or_eq_true] at hv
  rcases hv with hv | hv
  ·exact Nat.lt_of_lt_of_le (q.lt v hv) l2
  ·exact r.lt v hv
 ·rw [iA, Bool.or_eq_true] at hv
  rcases hv with hv | hv
  ·exact q.ex v hv (by omega)
  ·have := r.ex v hv hge
   cases hW : W.testBit v with
   | true => have := q.lt v hW; omega
   | false => rwa [q.keep v hW] at this
 ·rw [iA, Bool.or_eq_true]
  rcases Nat.lt_or_ge v S1.next with h | h
  ·exact .inl (q.al v h1 h)
  ·exact .inr (r.al v h h2)
 ·rw [iA, Bool.or_eq_false_iff] at hv
  rw [r.keep v hv.2, q.keep v hv.1]
 ·obtain ⟨T1, t1, t2, t3, t4, t5⟩ := q.fr T hT fun v hv hno => by
   by_cases hin : S.next ≤ v ∧ v < S'.next
   ·exact absurd (hw v hin.1 hin.2) (q.ex v hv (by omega))
   ·exact hag v (by rw [iA, hv, Bool.true_or]) hin
  have hag2 : ∀ v, A2.testBit v = true → ¬ (S1.next ≤ v ∧ v < S'.next) → T1.heap.get v = S1.heap.get v := fun v hv hno => by
   rw [t5 v]
   by_cases hw : W.testBit v = true
   ·rw [if_pos hw]
   ·rw [if_neg hw]
    have hw : W.testBit v = false := by simpa using hw
    rw [q.keep v hw]
    refine hag v (by rw [iA, hv, Bool.or_true]) fun hin => ?_
    rcases Nat.lt_or_ge v S1.next with h | h
    ·have := q.al v hin.1 h; rw [hw] at this; cases this
    ·exact hno ⟨h, hin.2⟩
  obtain ⟨T2, u1, u2, u3, u4, u5⟩ := r.fr T1 t2 hag2
  refine ⟨T2, by unfold AX.bnd; rw [t1]; exact u1, u2, by rw [u3, t3, yS], by rw [u4, t4, yS], fun v => ?_⟩
  rw [u5 v, t5 v, iA]
  cases hW2 : W2.testBit v with
  | true => simp
  | false =>
   cases hW : W.testBit v with
   | true => simp [r.keep v hW2]
   | false => simp⟩
theorem Good.cond {α : Type} {b : Bool} {m n : M α} (hm : Good m) (hn : Good n) : Good (_root_.cond b m n) := by cases b <;> assumption
theorem Good.rd (v : Nat) : Good (AX.rd v) := ⟨fun S k S' h => by have := (CB h).2.2; omega, fun S k S' hw h => by
 obtain ⟨hg, _, _⟩ := CB h
 unfold AX.rd at h
 rw [hg] at h; injection h with h; injection h with h1 h2; subst h2
 refine ⟨bit v, 0, rfl, (gh _).symm, fun u hu => by simp at hu, fun u hu => by simp at hu, fun u hu hge => ?_, fun u h1 h2 => by simp only [] at h2; omega, fun _ _ => rfl, fun T hT hag => ?_⟩
 ·rw [dd] at hu; simp at hu; subst hu; rw [hg]; simp
 ·refine ⟨⟨T.heap, T.next, Nat.lor T.acc (bit v), T.wr⟩, ?_, hT, rfl, (gh _).symm, fun u => by simp⟩
  unfold AX.rd
  rw [hag v (by rw [dd]; simp) (by simp only []; omega), hg]⟩
theorem Good.rdM (v : Nat) : Good (AX.rdM v) := ⟨fun S k S' h => by have := (aR7 h).2.2; omega, fun S k S' hw h => by
 obtain ⟨hg, _, _⟩ := aR7 h
 unfold AX.rdM at h
 rw [hg] at h; injection h with h; injection h with h1 h2; subst h2
 refine ⟨bit v, 0, rfl, (gh _).symm, fun u hu => by simp at hu, fun u hu => by simp at hu, fun u hu hge => ?_, fun u h1 h2 => by simp only [] at h2; omega, fun _ _ => rfl, fun T hT hag => ?_⟩
 ·rw [dd] at hu; simp at hu; subst hu; rw [hg]; simp
 ·refine ⟨⟨T.heap, T.next, Nat.lor T.acc (bit v), T.wr⟩, ?_, hT, rfl, (gh _).symm, fun u => by simp⟩
  unfold AX.rdM
  rw [hag v (by rw [dd]; simp) (by simp only []; omega), hg]⟩
theorem Good.rdI (v : Nat) : Good (AX.rdI v) := ⟨fun S k S' h => by have := (aR8 h).2.2; omega, fun S k S' hw h => by
 obtain ⟨hg, _, _⟩ := aR8 h
 unfold AX.rdI at h
 rw [hg] at h; injection h with h; injection h with h1 h2; subst h2
 refine ⟨bit v, 0, rfl, (gh _).symm, fun u hu => by simp at hu, fun u hu => by simp at hu, fun u hu hge => ?_, fun u h1 h2 => by simp only [] at h2; omega, fun _ _ => rfl, fun T hT hag => ?_⟩
 ·rw [dd] at hu; simp at hu; subst hu; rw [hg]; simp
 ·refine ⟨⟨T.heap, T.next, Nat.lor T.acc (bit v), T.wr⟩, ?_, hT, rfl, (gh _).symm, fun u => by simp⟩
  unfold AX.rdI
  rw [hag v (by rw [dd]; simp) (by simp only []; omega), hg]⟩
theorem setW {H H' : T aS} {u v : Nat} {k : aS} (hn : u ≤ 16777213) (x : Nat) : (H'.set u k).get x = if (bit u).testBit x then (H.set u k).get x else H'.get x := by
 rw [dY _ _ _ _ hn, dY _ _ _ _ hn, dd]
 by_cases e : x = u
 ·subst e; simp
 ·have : decide (u = x) = false := by simpa using fun h => e h.symm
  rw [if_neg e, this]; simp
theorem Good.fw (v : Nat) (k : aS) : Good (AX.fw v k) := ⟨fun S x S' h => by have := (qy h).2.2.2; omega, fun S x S' hw h => by
 unfold AX.fw at h
 cases hc : (Nat.blt v S.next && Nat.ble v 16777213) with
 | false => rw [hc] at h; cases h
 | true =>
  rw [hc] at h; injection h with h; injection h with h1 h2; subst h2
  have hcc := hc
  rw [Bool.and_eq_true] at hc
  have hlt : v < S.next := Nat.le_of_ble_eq_true hc.1
  have hle := Nat.le_of_ble_eq_true hc.2
  refine ⟨bit v, bit v, rfl, rfl, fun u hu => hu, fun u hu => ?_, fun u hu hge => ?_, fun u h1 h2 => by simp only [] at h2; omega, fun u hu => ?_, fun T hT hag => ?_⟩
  ·rw [dd] at hu; simp at hu; subst hu; exact hlt
  ·rw [dd] at hu; simp at hu; subst hu; simp only [] at hge; omega
  ·rw [dd] at hu; simp at hu; rw [dY _ _ _ _ hle, if_neg (fun e => hu e.symm)]
  ·refine ⟨⟨T.heap.set v k, T.next, Nat.lor T.acc (bit v), Nat.lor T.wr (bit v)⟩, ?_, hT, rfl, rfl, fun u => setW (v := v) hle u⟩
   unfold AX.fw; rw [hT, hcc]; rfl⟩
theorem Good.upd (v : Nat) (k : eW) : Good (AX.upd v k) := Good.fw v (.b k)
theorem Good.kill (v : Nat) : Good (AX.kill v) := ⟨fun S x S' h => by have := (me h).2.2.2; omega, fun S x S' hw h => by
 unfold AX.kill at h
 cases hc : (Nat.blt v S.next && Nat.ble v 16777213) with
 | false => rw [hc] at h; cases h
 | true =>
  rw [hc] at h; injection h with h; injection h with h1 h2; subst h2
  have hcc := hc
  rw [Bool.and_eq_true] at hc
  have hlt : v < S.next := Nat.le_of_ble_eq_true hc.1
  have hle := Nat.le_of_ble_eq_true hc.2
  refine ⟨bit v, bit v, rfl, rfl, fun u hu => hu, fun u hu => ?_, fun u hu hge => ?_, fun u h1 h2 => by simp only [] at h2; omega, fun u hu => ?_, fun T hT hag => ?_⟩
  ·rw [dd] at hu; simp at hu; subst hu; exact hlt
  ·rw [dd] at hu; simp at hu; subst hu; simp only [] at hge; omega
  ·rw [dd] at hu; simp at hu; rw [lr _ _ _ hle, if_neg (fun e => hu e.symm)]
  ·refine ⟨⟨T.heap.del v, T.next, Nat.lor T.acc (bit v), Nat.lor T.wr (bit v)⟩, ?_, hT, rfl, rfl, fun u => ?_⟩
   ·unfold AX.kill; rw [hT, hcc]; rfl
   ·simp only []
    rw [lr _ _ _ hle, lr _ _ _ hle, dd]
    by_cases e : u = v
    ·subst e; simp
    ·have : decide (v = u) = false := by simpa using fun h => e h.symm
     rw [if_neg e, this]; simp⟩
theorem Good.newE (k : aS) : Good (AX.newE k) := ⟨fun S x S' h => by have := (im h).2.2.2; omega, fun S x S' hw h => by
 unfold AX.newE at h
 cases hc : Nat.ble S.next 16777213 with
 | false => rw [hc] at h; cases h
 | true =>
  rw [hc] at h; injection h with h; injection h with h1 h2; subst h2; subst h1
  have hle := Nat.le_of_ble_eq_true hc
  refine ⟨bit S.next, bit S.next, rfl, rfl, fun u hu => hu, fun u hu => ?_, fun u hu hge => ?_, fun u h1 h2 => ?_, fun u hu => ?_, fun T hT hag => ?_⟩
  ·rw [dd] at hu; simp at hu; subst hu; exact Nat.lt_succ_self _
  ·rw [dd] at hu; simp at hu; subst hu; simp only [] at hge; omega
  ·simp only [] at h2; rw [dd]; simp; omega
  ·rw [dd] at hu; simp at hu; rw [dY _ _ _ _ hle, if_neg (fun e => hu e.symm)]
  ·refine ⟨⟨T.heap.set S.next k, Nat.succ T.next, Nat.lor T.acc (bit S.next), Nat.lor T.wr (bit S.next)⟩, ?_, by simp only []; rw [hT], rfl, rfl, fun u => setW (v := 0) hle u⟩
   unfold AX.newE; rw [hT, hc]; rfl⟩
theorem Good.new (k : eW) : Good (AX.new k) := Good.newE (.b k)
theorem aC4 {α : Type} {m : M α} {S S2 : St} {p : α × Nat × Nat} (h : AX.mR m S = some (p, S2)) : ∃ S1, m ⟨S.heap, S.next, 0, 0⟩ = some (p.1, S1) ∧ p.2.1 = S1.acc ∧ p.2.2 = S1.wr ∧ S2.heap = S1.heap ∧ S2.next = S1.next := by
 unfold AX.mR at h
 cases hm0 : m ⟨S.heap, S.next, 0, 0⟩ with
 | none => rw [hm0] at h; cases h
 | some r =>
  obtain ⟨a, S1⟩ := r
  rw [hm0] at h
  injection h with h; injection h with e1 e2; subst e1; subst e2
  exact ⟨S1, rfl, rfl, rfl, rfl, rfl⟩
theorem Good.mR {α : Type} {m : M α} (hm : Good m) : Good (AX.mR m) := ⟨fun S y S2 h => by
 obtain ⟨S1, h1, _, _, _, h2⟩ := aC4 h
 have := hm.mono _ _ _ h1
 simp only [] at this; omega, fun S y S2 hw h => by
 unfold AX.mR at h
 cases hm0 : m ⟨S.heap, S.next, 0, 0⟩ with
 | none => rw [hm0] at h; cases h
 | some r =>
  obtain ⟨a, S1⟩ := r
  rw [hm0] at h
  injection h with h; injection h with e1 e2; subst e1; subst e2
  obtain ⟨A, W, q⟩ := hm.ok ⟨S.heap, S.next, 0, 0⟩ a S1 (fun v h1 h2 => hw v h1 h2) hm0
  have hz : ∀ n, Nat.lor 0 n = n := fun n => Nat.zero_or n
  have ha : S1.acc = A := by rw [q.acc]; exact hz A
  have hwr : S1.wr = W := by rw [q.wr]; exact hz W
  rw [ha, hwr]
  refine ⟨A, W, rfl, rfl, q.sub, q.lt, q.ex, q.al, q.keep, fun T hT hag => ?_⟩
  obtain ⟨T', t1, t2, t3, t4, t5⟩ := q.fr ⟨T.heap, T.next, 0, 0⟩ hT hag
  have ta : T'.acc = A := by rw [t3]; exact hz A
  have tw : T'.wr = W := by rw [t4]; exact hz W
  refine ⟨⟨T'.heap, T'.next, Nat.lor T.acc A, Nat.lor T.wr W⟩, ?_, t2, rfl, rfl, t5⟩
  unfold AX.mR
  simp only [t1, ta, tw]⟩
theorem Good.load (tb : Tab) (t : Nat) (x : AV) : Good (AX.load tb t x) := by
 unfold AX.load
 split
 ·repeat (first | exact Good.ret _ | exact Good.fail | exact Good.aE _ | exact Good.rd _ | apply Good.cond | apply Good.bnd | intro _)
 ·exact Good.fail
theorem Good.store (tb : Tab) (t : Nat) (x y : AV) : Good (AX.store tb t x y) := by
 unfold AX.store
 split
 ·repeat (first | exact Good.ret _ | exact Good.fail | exact Good.aE _ | exact Good.rd _ | exact Good.upd _ _ | apply Good.cond | apply Good.bnd | intro _ | split)
 ·exact Good.fail
theorem Good.dq (v : Nat) : Good (AX.dq v) := ⟨fun S k S' h => by have := (CC h).2.2; omega, fun S k S' hw h => by
 obtain ⟨hg, _, _⟩ := CC h
 unfold AX.dq at h
 rw [hg] at h; injection h with h; injection h with h1 h2; subst h2
 refine ⟨bit v, 0, rfl, (gh _).symm, fun u hu => by simp at hu, fun u hu => by simp at hu, fun u hu hge => ?_, fun u h1 h2 => by simp only [] at h2; omega, fun _ _ => rfl, fun T hT hag => ?_⟩
 ·rw [dd] at hu; simp at hu; subst hu; rw [hg]; simp
 ·refine ⟨⟨T.heap, T.next, Nat.lor T.acc (bit v), T.wr⟩, ?_, hT, rfl, (gh _).symm, fun u => by simp⟩
  unfold AX.dq
  rw [hag v (by rw [dd]; simp) (by simp only []; omega), hg]⟩
theorem Good.rdA (v : Nat) : Good (AX.rdA v) := by
 have inv : ∀ {S k S'}, AX.rdA v S = some (k, S') → S.heap.get v = some k ∧ S' = ⟨S.heap, S.next, Nat.lor S.acc (bit v), S.wr⟩ := fun {S k S'} h => by
  unfold AX.rdA at h
  cases hg : S.heap.get v with
  | none => rw [hg] at h; cases h
  | some j => rw [hg] at h; simp only [Option.some.injEq, Prod.mk.injEq] at h; exact ⟨by rw [h.1], h.2.symm⟩
 refine ⟨fun S k S' h => by obtain ⟨_, rfl⟩ := inv h; exact Nat.le_refl _, fun S k S' hw h => ?_⟩
 obtain ⟨hg, rfl⟩ := inv h
 refine ⟨bit v, 0, rfl, (gh _).symm, fun u hu => by simp at hu, fun u hu => by simp at hu, fun u hu hge => ?_, fun u h1 h2 => by simp only [] at h2; omega, fun _ _ => rfl, fun T hT hag => ?_⟩
 ·rw [dd] at hu; simp at hu; subst hu; rw [hg]; simp
 ·refine ⟨⟨T.heap, T.next, Nat.lor T.acc (bit v), T.wr⟩, ?_, hT, rfl, (gh _).symm, fun u => by simp⟩
  unfold AX.rdA
  rw [hag v (by rw [dd]; simp) (by simp only []; omega), hg]
theorem Good.mV (tb : Tab) (t : Nat) (x : AV) : Good (AX.mV tb t x) := by
 unfold AX.mV
 split
 ·refine Good.bnd (Good.rdA _) fun k => ?_
  unfold AX.lP
  split <;> repeat (first | exact Good.aE _ | exact Good.fail | apply Good.cond | apply Good.bnd | intro _)
 ·refine Good.bnd (Good.rdA _) fun k => ?_
  unfold AX.yT
  repeat (first | exact Good.ret _ | exact Good.aE _ | exact Good.fail | apply Good.cond | apply Good.bnd | intro _ | split)
 ·exact Good.load _ _ _
theorem Good.mI (tb : Tab) (t : Nat) (x y : AV) : Good (AX.mI tb t x y) := by
 unfold AX.mI
 split
 ·refine Good.bnd (Good.rdA _) fun k => ?_
  unfold AX.vO
  repeat (first | exact Good.fw _ _ | exact Good.ret _ | exact Good.aE _ | exact Good.fail | apply Good.cond | apply Good.bnd | intro _ | split)
 ·exact Good.cond (Good.bnd (Good.dq _) fun _ => Good.bnd (Good.aE _) fun _ => Good.bnd (Good.aE _) fun _ => Good.fw _ _) Good.fail
 ·exact Good.store _ _ _ _
theorem Good.oK (tb : Tab) (t v : Nat) (x : AV) : Good (AX.oK tb t v x) := by
 unfold AX.oK
 exact Good.bnd (Good.aE _) fun _ => Good.cond (Good.bnd (Good.dq _) fun _ => Good.bnd (Good.aE _) fun _ => Good.ret _) Good.fail
theorem Good.slY (tb : Tab) (e v : Nat) (lo hi : Option AV) : Good (AX.slY tb e v lo hi) := by
 unfold AX.slY
 repeat (first | (unfold AX.slY0) | exact Good.kill _ | exact Good.newE _ | exact Good.dq _ | exact Good.ret _ | exact Good.aE _ | exact Good.fail | apply Good.cond | apply Good.bnd | intro _ | split)
theorem Good.slR (tb : Tab) (e v : Nat) (lo hi : Option AV) : Good (AX.slR tb e v lo hi) := by
 unfold AX.slR
 repeat (first | exact Good.rdA _ | exact Good.kill _ | exact Good.newE _ | exact Good.ret _ | exact Good.aE _ | exact Good.fail | apply Good.cond | apply Good.bnd | intro _ | split)
theorem Good.oL (tb : Tab) (t v : Nat) (x : AV) : Good (AX.oL tb t v x) := by
 unfold AX.oL
 repeat (first | exact Good.rdA _ | exact Good.ret _ | exact Good.aE _ | exact Good.fail | apply Good.cond | apply Good.bnd | intro _ | split)
theorem Good.oM (tb : Tab) (t v : Nat) (x : AV) : Good (AX.oM tb t v x) := by
 unfold AX.oM; exact Good.fail
theorem Good.l3 {tb : Tab} {s d : Nat} {x : AV} {m : M AV} (h : AX.l3 tb s d x = some m) : Good m := by
 cases x <;> simp only [AX.l3] at h <;> try (cases h; done)
 ·cases hd : tb.ty.get d with
  | none => rw [hd] at h; cases h
  | some td =>
   rw [hd] at h
   simp only [] at h
   cases hs : ic td.k with
   | none => rw [hs] at h; cases h
   | some e =>
    rw [hs] at h; injection h with h; subst h
    exact Good.bnd (Good.aE _) fun _ => Good.cond (Good.bnd (Good.aE _) fun _ => Good.bnd (Good.newE _) fun _ => Good.ret _) Good.fail
 ·injection h with h; subst h
  exact Good.bnd (Good.aE _) fun _ => Good.bnd (Good.aE _) fun _ => Good.cond (Good.bnd (Good.dq _) fun _ => Good.ret _) Good.fail
theorem Good.ptrEq (a c o u : Nat) : Good (AX.ptrEq a c o u) := by unfold AX.ptrEq; exact Good.cond (Good.ret _) Good.fail
theorem Good.ey (tb : Tab) (k : HK) : Good (AX.ey tb k) := by
 unfold AX.ey; split
 ·exact Good.ret _
 ·exact Good.fail
theorem Good.eqF {eq : Nat → AV → AV → M Bool} (h : ∀ t x y, Good (eq t x y)) (l m : List AV) : ∀ fs, Good (AX.eqF eq l m fs)
 | [] => Good.ret _
 | f :: fs => by
  unfold AX.eqF
  have ih := Good.eqF h l m fs
  repeat (first | exact ih | exact h _ _ _ | exact Good.ret _ | exact Good.aE _ | apply Good.cond | apply Good.bnd | intro _)
theorem Good.fC (tb : Tab) : ∀ d t x y, Good (AX.fC tb d t x y)
 | 0, _, _, _ => Good.fail
 | d + 1, t, x, y => by
  unfold AX.fC
  have ih := Good.fC tb d
  refine Good.bnd (Good.aE _) fun ti => ?_
  split <;> repeat (first | exact ih _ _ _ | exact Good.eqF (ih) _ _ _ | exact Good.ey _ _ | exact Good.ptrEq _ _ _ _ | exact Good.ret _ | exact Good.fail | exact Good.aE _ | apply Good.cond | apply Good.bnd | intro _)
theorem Good.nB (tb : Tab) (t : Nat) (c : Bool) (x y : AV) : Good (AX.nB tb t c x y) := by
 unfold AX.nB
 repeat (first | exact Good.fC _ _ _ _ _ | exact Good.ret _ | exact Good.fail | exact Good.aE _ | apply Good.cond | apply Good.bnd | intro _ | split)
theorem Good.oZ (o : BinOp) (k : IntKind) (a c : Int) : Good (AX.oZ o k a c) := by
 unfold AX.oZ
 split <;> repeat (first | exact Good.ret _ | exact Good.fail | apply Good.cond)
theorem Good.oY (tb : Tab) (o : BinOp) (t : Nat) (c : Bool) (x y : AV) : Good (AX.oY tb o t c x y) := by
 unfold AX.oY
 split <;> repeat (first | exact Good.ret _ | exact Good.fail | exact Good.aE _ | exact Good.oZ _ _ _ _ | exact Good.nB _ _ _ _ _ | apply Good.cond | apply Good.bnd | intro _)
theorem Good.hypB' (tb : Tab) (k : HK) : Good (AX.ey tb k) := by
 unfold AX.ey
 split <;> first | exact Good.ret _ | exact Good.fail
theorem Good.bin (tb : Tab) (o : BinOp) (t : Nat) (c : Bool) (x y : AV) : Good (AX.bin tb o t c x y) := by
 unfold AX.bin
 exact Good.cond (Good.bnd (Good.hypB' _ _) fun _ => Good.ret _) (Good.oY _ _ _ _ _ _)
theorem Good.qM (tb : Tab) (t : Nat) (k : AV) : ∀ es i, Good (AX.qM tb t k es i)
 | [], i => Good.ret _
 | e :: es, i => by
  unfold AX.qM
  have ih := Good.qM tb t k es (Nat.succ i)
  exact Good.bnd (Good.fC _ _ _ _ _) fun r => Good.cond (Good.ret _) ih
theorem Good.ux (tb : Tab) (t : Nat) : Good (AX.ux tb t) := by
 unfold AX.ux
 exact Good.bnd (Good.aE _) fun _ => Good.aE _
theorem Good.oU (tb : Tab) (t : Nat) (x : AV) : Good (AX.oU tb t x) := by
 unfold AX.oU; exact Good.fail
theorem Good.rE (v off cap sz lo hi : Nat) : Good (AX.rE v off cap sz lo hi) := by
 unfold AX.rE
 repeat (first | exact Good.ret _ | exact Good.fail | exact Good.aE _ | exact Good.rd _ | exact Good.rdM _ | exact Good.rdI _ | exact Good.fw _ _ | exact Good.upd _ _ | exact Good.newE _ | exact Good.qM _ _ _ _ _ | exact Good.ux _ _ | apply Good.cond | apply Good.bnd | intro _ | split)
set_option maxHeartbeats 1000000 in
theorem Good.simple (tb : Tab) (f : Operand → AV) (o : Op) : Good (AX.simple tb f o) := by
 cases o <;> simp only [AX.simple] <;>
  repeat (first | exact Good.hypB' _ _ | exact Good.slY _ _ _ _ _ | exact Good.slR _ _ _ _ _ | exact Good.mV _ _ _ | exact Good.mI _ _ _ _ | exact Good.oK _ _ _ _ | exact Good.oL _ _ _ _ | exact Good.oM _ _ _ _ | (exact Good.l3 ‹_›) | exact Good.ret _ | exact Good.fail | exact Good.aE _ | exact Good.rd _ | exact Good.new _ | exact Good.newE _ | exact Good.upd _ _ | exact Good.load _ _ _ | exact Good.store _ _ _ _ | exact Good.bin _ _ _ _ _ _ | exact Good.rE _ _ _ _ _ _ | apply Good.cond | apply Good.bnd | intro _ | split)
theorem Good.src (sz : Nat) (x : AV) : Good (AX.src sz x) := by
 unfold AX.src
 split <;> repeat (first | exact Good.ret _ | exact Good.fail | exact Good.aE _ | exact Good.rd _ | apply Good.cond | apply Good.bnd | intro _)
theorem Good.grow (e sz : Nat) (o d : Cells) (n : Nat) : Good (AX.grow e sz o d n) := by
 unfold AX.grow
 repeat (first | exact Good.ret _ | exact Good.new _ | apply Good.bnd | intro _)
theorem Good.l7 (e sz b : Nat) (s : AV) (n : Nat) (d : Cells) : Good (AX.l7 e sz b s n d) := by
 unfold AX.l7
 refine Good.cond Good.fail ?_
 split <;> repeat (first | exact Good.ret _ | exact Good.fail | exact Good.aE _ | exact Good.rd _ | exact Good.upd _ _ | exact Good.kill _ | exact Good.new _ | exact Good.grow _ _ _ _ _ | apply Good.cond | apply Good.bnd | intro _)
theorem Good.oq (tb : Tab) (st xt e0 : Nat) (x : AV) : Good (AX.oq tb st xt e0 x) := by
 unfold AX.oq AX.nI
 repeat (first | exact Good.dq _ | exact Good.src _ _ | exact Good.newE _ | exact Good.ret _ | exact Good.fail | exact Good.aE _ | apply Good.cond | apply Good.bnd | intro _ | split)
theorem Good.oo (tb : Tab) (st xt v : Nat) (x : AV) : Good (AX.oo tb st xt v x) := by
 unfold AX.oo
 repeat (first | exact Good.rdA _ | exact Good.src _ _ | exact Good.kill _ | exact Good.newE _ | exact Good.ret _ | exact Good.fail | exact Good.aE _ | apply Good.cond | apply Good.bnd | intro _ | split)
theorem Good.om (tb : Tab) (st xt e0 : Nat) (x : AV) : Good (AX.om tb st xt e0 x) := by
 unfold AX.om
 repeat (first | exact Good.src _ _ | exact Good.newE _ | exact Good.ret _ | exact Good.fail | exact Good.aE _ | apply Good.cond | apply Good.bnd | intro _ | split)
theorem Good.oh (tb : Tab) (st xt v w : Nat) : Good (AX.oh tb st xt v w) := by
 unfold AX.oh; exact Good.fail
theorem Good.og (tb : Tab) (st xt v w : Nat) : Good (AX.og tb st xt v w) := by
 unfold AX.og; exact Good.fail
theorem Good.oe (tb : Tab) (st xt : Nat) (s : AV) (w : Nat) : Good (AX.oe tb st xt s w) := by
 unfold AX.oe
 repeat (first | exact Good.rdA _ | exact Good.src _ _ | exact Good.newE _ | exact Good.ret _ | exact Good.fail | exact Good.aE _ | apply Good.cond | apply Good.bnd | intro _ | split)
theorem Good.qe (tb : Tab) (st xt : Nat) (s x : AV) : Good (AX.qe tb st xt s x) := by
 unfold AX.qe
 split
 ·unfold AX.Au AX.nI
  repeat (first | exact Good.dq _ | exact Good.ret _ | exact Good.fail | exact Good.aE _ | exact Good.src _ _ | exact Good.kill _ | exact Good.newE _ | apply Good.cond | apply Good.bnd | intro _ | split)
 ·split
  ·unfold AX.Av AX.Ax AX.Aw
   repeat (first | exact Good.ret _ | exact Good.fail | exact Good.aE _ | exact Good.newE _ | apply Good.cond | apply Good.bnd | intro _ | split)
  split
  ·exact Good.oq _ _ _ _ _
  split
  ·split
   ·exact Good.oh _ _ _ _ _
   ·exact Good.oo _ _ _ _ _
  split
  ·exact Good.om _ _ _ _ _
  split
  ·exact Good.og _ _ _ _ _
  split
  ·exact Good.oe _ _ _ _ _
  unfold AX.uY
  repeat (first | exact Good.ret _ | exact Good.fail | exact Good.aE _ | exact Good.src _ _ | exact Good.l7 _ _ _ _ _ _ | apply Good.cond | apply Good.bnd | intro _ | split)
theorem Good.builtin (tb : Tab) (bi : Builtin) (ts : List Nat) (l : List AV) : Good (AX.builtin tb bi ts l) := by
 unfold AX.builtin
 split
 all_goals (try unfold yt); (try unfold Aj); (try unfold uY); (try unfold Ai); (try unfold Ag GH Ah); (try unfold vB Bm vC)
 all_goals repeat (first | exact Good.qe _ _ _ _ _ | exact Good.rdA _ | exact Good.kill _ | exact Good.dq _ | exact Good.ret _ | exact Good.fail | exact Good.aE _ | exact Good.rd _ | exact Good.upd _ _ | exact Good.src _ _ | exact Good.l7 _ _ _ _ _ _ | exact Good.oU _ _ _ | apply Good.cond | apply Good.bnd | intro _ | split)
theorem Good.l6 (f : Nat → AV) (y : AV) : Good (AX.l6 f y) := by
 unfold AX.l6
 repeat (first | exact Good.ret _ | exact Good.fail | apply Good.cond | intro _ | split)
theorem Good.x3 (x y : AV) : Good (AX.x3 x y) := by
 unfold AX.x3
 split
 ·exact Good.l6 _ _
 ·exact Good.fail
theorem Good.x4 (x y : AV) : Good (AX.x4 x y) := by
 unfold AX.x4
 split
 ·exact Good.l6 _ _
 ·exact Good.fail
theorem Good.ga (x : AV) : Good (AX.ga x) := by
 unfold AX.ga
 repeat (first | exact Good.ret _ | exact Good.fail | exact Good.aE _ | exact Good.rd _ | exact Good.new _ | exact Good.load _ _ _ | exact Good.store _ _ _ _ | apply Good.cond | apply Good.bnd | intro _ | split)
theorem Good.gT (tb : Tab) (t : Nat) (x : AV) : Good (AX.gT tb t x) := by
 unfold AX.gT
 repeat (first | exact Good.ret _ | exact Good.fail | exact Good.aE _ | exact Good.rd _ | exact Good.new _ | exact Good.load _ _ _ | exact Good.store _ _ _ _ | apply Good.cond | apply Good.bnd | intro _ | split)
theorem Good.x7 (tb : Tab) (x : AV) : Good (AX.x7 tb x) := by
 unfold AX.x7
 repeat (first | exact Good.ret _ | exact Good.fail | exact Good.aE _ | exact Good.rd _ | exact Good.new _ | exact Good.load _ _ _ | exact Good.store _ _ _ _ | exact Good.ga _ | exact Good.gT _ _ _ | apply Good.cond | apply Good.bnd | intro _ | split)
theorem Good.x8 (tb : Tab) (x : AV) : Good (AX.x8 tb x) := by
 unfold AX.x8
 repeat (first | exact Good.ret _ | exact Good.fail | exact Good.aE _ | exact Good.rd _ | exact Good.new _ | exact Good.load _ _ _ | exact Good.store _ _ _ _ | exact Good.ga _ | exact Good.gT _ _ _ | apply Good.cond | apply Good.bnd | intro _ | split)
theorem Good.x9 (tb : Tab) (x : AV) : Good (AX.x9 tb x) := by
 unfold AX.x9
 repeat (first | exact Good.ret _ | exact Good.fail | exact Good.aE _ | exact Good.rd _ | exact Good.new _ | exact Good.load _ _ _ | exact Good.store _ _ _ _ | exact Good.ga _ | exact Good.gT _ _ _ | apply Good.cond | apply Good.bnd | intro _ | split)
theorem Good.x10 (tb : Tab) (x : AV) : Good (AX.x10 tb x) := by
 unfold AX.x10
 repeat (first | exact Good.ret _ | exact Good.fail | exact Good.aE _ | exact Good.rd _ | exact Good.new _ | exact Good.load _ _ _ | exact Good.store _ _ _ _ | exact Good.ga _ | exact Good.gT _ _ _ | apply Good.cond | apply Good.bnd | intro _ | split)
theorem Good.x11 (tb : Tab) (x : AV) : Good (AX.x11 tb x) := by
 unfold AX.x11
 repeat (first | exact Good.ret _ | exact Good.fail | exact Good.aE _ | exact Good.rd _ | exact Good.new _ | exact Good.load _ _ _ | exact Good.store _ _ _ _ | exact Good.ga _ | exact Good.gT _ _ _ | apply Good.cond | apply Good.bnd | intro _ | split)
theorem Good.x12 (tb : Tab) (x y : AV) : Good (AX.x12 tb x y) := by
 unfold AX.x12
 repeat (first | exact Good.ret _ | exact Good.fail | exact Good.aE _ | exact Good.rd _ | exact Good.new _ | exact Good.load _ _ _ | exact Good.store _ _ _ _ | exact Good.ga _ | exact Good.gT _ _ _ | apply Good.cond | apply Good.bnd | intro _ | split)
theorem Good.x13 (tb : Tab) (x y : AV) : Good (AX.x13 tb x y) := by
 unfold AX.x13
 repeat (first | exact Good.ret _ | exact Good.fail | exact Good.aE _ | exact Good.rd _ | exact Good.new _ | exact Good.load _ _ _ | exact Good.store _ _ _ _ | exact Good.ga _ | exact Good.gT _ _ _ | apply Good.cond | apply Good.bnd | intro _ | split)
theorem Good.x14 (tb : Tab) (x : AV) : Good (AX.x14 tb x) := by
 unfold AX.x14
 repeat (first | exact Good.ret _ | exact Good.fail | exact Good.aE _ | exact Good.rd _ | exact Good.new _ | exact Good.load _ _ _ | exact Good.store _ _ _ _ | exact Good.ga _ | exact Good.gT _ _ _ | apply Good.cond | apply Good.bnd | intro _ | split)
theorem Good.x15 (tb : Tab) (x y : AV) : Good (AX.x15 tb x y) := by
 unfold AX.x15
 repeat (first | exact Good.ret _ | exact Good.fail | exact Good.aE _ | exact Good.rd _ | exact Good.new _ | exact Good.load _ _ _ | exact Good.store _ _ _ _ | exact Good.ga _ | exact Good.gT _ _ _ | apply Good.cond | apply Good.bnd | intro _ | split)
theorem Good.ext (tb : Tab) (e : Nat) (l : List AV) : Good (AX.ext tb e l) := by
 unfold AX.ext
 split
 all_goals (try unfold bytesN)
 all_goals repeat (first | exact Good.x3 _ _ | exact Good.x4 _ _ | exact Good.x7 _ _ | exact Good.x8 _ _ | exact Good.x9 _ _ | exact Good.x10 _ _ | exact Good.x11 _ _ | exact Good.x12 _ _ _ | exact Good.x13 _ _ _ | exact Good.x14 _ _ | exact Good.x15 _ _ _ | exact Good.ret _ | exact Good.fail | exact Good.aE _ | exact Good.rd _ | exact Good.new _ | apply Good.cond | apply Good.bnd | intro _ | split)
theorem Good.er (tb : Tab) : ∀ l E, Good (AX.er tb l E)
 | [], _ => Good.ret _
 | .tmp t :: l, E => by unfold AX.er; exact Good.bnd (Good.er tb l E) fun _ => Good.ret _
 | .cell a t :: l, E => by unfold AX.er; exact Good.bnd (Good.load _ _ _) fun _ => Good.bnd (Good.er tb l E) fun _ => Good.ret _
theorem Good.results (tb : Tab) (l : List ResultVar) (E : Env) : Good (AX.results tb l E) := by
 unfold AX.results
 split
 ·exact Good.ret _
 ·exact Good.load _ _ _
 ·exact Good.bnd (Good.er _ _ _) fun _ => Good.ret _
theorem aF2 {n : Nat} : ∀ {l : List (Nat × aS)}, yW n l = true → ∀ v, isK l v = true → v < n
 | [], _, v, h => by cases h
 | p :: r, h, v, hv => by
  simp only [yW, Bool.and_eq_true] at h
  simp only [isK, Bool.or_eq_true] at hv
  rcases hv with hv | hv
  ·have := Nat.eq_of_beq_eq_true hv; subst this; exact Nat.le_of_ble_eq_true h.1
  ·exact aF2 h.2 v hv
theorem kL {l : List (Nat × aS)} {v : Nat} : isK l v = true ↔ ∃ k, (v, k) ∈ l := by
 induction l with
 | nil => simp [isK]
 | cons p r ih =>
  simp only [isK, Bool.or_eq_true, ih, List.mem_cons]
  constructor
  ·rintro (h | ⟨k, h⟩)
   ·have := Nat.eq_of_beq_eq_true h; subst this; exact ⟨p.2, .inl rfl⟩
   ·exact ⟨k, .inr h⟩
  ·rintro ⟨k, h | h⟩
   ·subst h; exact .inl (Nat.beq_refl _)
   ·exact .inr ⟨k, h⟩
def eH : List (Nat × aS) → Nat → Option aS
 | [], _ => none
 | p :: r, v => match eH r v with
  | some k => some k
  | none => if p.1 = v then some p.2 else none
theorem Cs : ∀ {l : List (Nat × aS)} {v : Nat}, isK l v = false → eH l v = none
 | [], v, _ => rfl
 | p :: r, v, h => by
  simp only [isK, Bool.or_eq_false_iff] at h
  unfold eH; rw [Cs h.2]
  have : p.1 ≠ v := fun e => by rw [e, Nat.beq_refl] at h; cases h.1
  simp only [if_neg this]
theorem pZ : ∀ {l : List (Nat × aS)} {v : Nat} {k : aS}, eH l v = some k → (v, k) ∈ l
 | [], v, k, h => by cases h
 | p :: r, v, k, h => by
  unfold eH at h
  cases hr : eH r v with
  | some k' => rw [hr] at h; injection h with h; subst h; exact List.mem_cons_of_mem _ (pZ hr)
  | none =>
   rw [hr] at h
   simp only [] at h
   split at h
   ·rename_i e; injection h with h; subst h; subst e; exact List.mem_cons_self ..
   ·cases h
theorem mW : ∀ (l : List (Nat × aS)) (t : T aS), (∀ v, isK l v = true → v ≤ 16777213) → ∀ v, (ae l t).get v = (eH l v).or (t.get v)
 | [], t, _, v => rfl
 | p :: r, t, hb, v => by
  unfold ae
  rw [mW r _ (fun u hu => hb u (by simp only [isK, hu, Bool.or_true])) v, dY _ _ _ _ (hb p.1 (by simp only [isK, Nat.beq_refl, Bool.true_or]))]
  conv => rhs; unfold eH
  cases eH r v with
  | some k => simp
  | none =>
   by_cases e : p.1 = v
   ·simp [e]
   ·simp [e, Ne.symm e]
theorem aF4 : ∀ (l : List (Nat × aS)) (t : T aS), (∀ v, isK l v = true → v ≤ 16777213) → ∀ v, (sj l t).get v = if isK l v = true then none else t.get v
 | [], t, _, v => by simp [sj, isK]
 | p :: r, t, hb, v => by
  unfold sj
  rw [aF4 r _ (fun u hu => hb u (by simp only [isK, hu, Bool.or_true])) v, lr _ _ _ (hb p.1 (by simp only [isK, Nat.beq_refl, Bool.true_or]))]
  by_cases e : p.1 = v
  ·subst e; simp [isK, Nat.beq_refl]
  ·have : Nat.beq p.1 v = false := by rw [Bool.eq_false_iff]; intro h; exact e (Nat.eq_of_beq_eq_true h)
   simp [isK, this, Ne.symm e]
theorem aC2 (a : Nat) : ∀ (n : Nat) (t : T aS), a + n ≤ 16777214 → ∀ v, (rV a n t).get v = if a ≤ v ∧ v < a + n then none else t.get v
 | 0, t, _, v => by unfold rV; rw [if_neg (by omega)]
 | n + 1, t, hb, v => by
  unfold rV
  rw [lr _ _ _ (by show a + n ≤ _; omega), aC2 a n t (by omega) v]
  by_cases e : v = Nat.add a n
  ·rw [if_pos e, if_pos (by have : v = a + n := e; omega)]
  ·rw [if_neg e]
   have : v ≠ a + n := e
   by_cases e2 : a ≤ v ∧ v < a + n
   ·rw [if_pos e2, if_pos (by omega)]
   ·rw [if_neg e2, if_neg (by omega)]
theorem aB1 (a : Nat) : ∀ (n v : Nat), (rW a n).testBit v = decide (a ≤ v ∧ v < a + n)
 | 0, v => by
  have : ¬ (a ≤ v ∧ v < a + 0) := by omega
  simp [rW, this]
 | n + 1, v => by
  unfold rW
  rw [iA, aB1 a n v, dd]
  have : Nat.add a n = a + n := rfl
  rw [this, Bool.eq_iff_iff]; simp; omega
theorem aC9 : ∀ (l : List (Nat × aS)) (m v : Nat), (sk l m).testBit v = (isK l v || m.testBit v)
 | [], m, v => by simp [sk, isK]
 | p :: r, m, v => by
  unfold sk
  rw [aC9 r _ v, iA, dd]
  have : Nat.beq p.1 v = decide (p.1 = v) := by rw [Bool.eq_iff_iff, Nat.beq_eq, decide_eq_true_eq]
  simp only [isK, this]
  cases isK r v <;> cases decide (p.1 = v) <;> cases m.testBit v <;> rfl
structure nM (h : LH) : Prop where
 le : h.n0 ≤ h.n1
 top : h.n1 ≤ 16777213
 pre : ∀ v, isK h.pre v = true → v < h.n0
 post : ∀ v, isK h.post v = true → v < h.n1 ∧ (isK h.pre v = true ∨ h.n0 ≤ v)
 ro : ∀ v k j, (v, k) ∈ h.post → (v, j) ∈ h.pre → dh j = true → dh k = true
theorem aC8 {h : LH} : ∀ {l : List (Nat × aS)}, yV h l = true → ∀ v, isK l v = true → v < h.n1 ∧ (isK h.pre v = true ∨ h.n0 ≤ v)
 | [], _, v, hv => by cases hv
 | p :: r, hh, v, hv => by
  simp only [yV, Bool.and_eq_true, Bool.or_eq_true] at hh
  simp only [isK, Bool.or_eq_true] at hv
  rcases hv with hv | hv
  ·have := Nat.eq_of_beq_eq_true hv; subst this
   exact ⟨Nat.le_of_ble_eq_true hh.1.1, hh.1.2.imp id Nat.le_of_ble_eq_true⟩
  ·exact aC8 hh.2 v hv
theorem lhRo_mem {pre post : List (Nat × aS)} (h : lhRo pre post = true) (v : Nat) (k j : aS) (hk : (v, k) ∈ post) (hj : (v, j) ∈ pre) (hr : dh j = true) : dh k = true := by
 have h1 := List.all_eq_true.1 (List.all_eq_true.1 h _ hk) _ hj
 simp only [Nat.beq_refl, hr, Bool.and_self, Bool.not_true, Bool.false_or] at h1
 exact h1
theorem mX {h : LH} (hh : iG h = true) : nM h := by
 simp only [iG, Bool.and_eq_true] at hh
 exact ⟨Nat.le_of_ble_eq_true hh.1.1.1.1, Nat.le_of_ble_eq_true hh.1.1.1.2, aF2 hh.1.1.2, aC8 hh.1.2, lhRo_mem hh.2⟩
theorem pY {h : LH} (hh : nM h) (t : T aS) (v : Nat) : (ee h t).get v = (eH h.post v).or (if h.n0 ≤ v ∧ v < h.n1 then none else if isK h.pre v = true then none else t.get v) := by
 have hl := hh.le; have ht := hh.top
 unfold ee
 rw [mW _ _ (fun u hu => by have := (hh.post u hu).1; omega), aC2 _ _ _ (by show h.n0 + (h.n1 - h.n0) ≤ _; omega), aF4 _ _ (fun u hu => by have := hh.pre u hu; omega)]
 have : Nat.sub h.n1 h.n0 = h.n1 - h.n0 := rfl
 rw [this, show h.n0 + (h.n1 - h.n0) = h.n1 by omega]
theorem Cr {ng : Nat} {h : LH} {S S' : St} {x : Unit} (hr : lQ ng h S = some (x, S')) : (S.next = h.n0 ∧ ng = h.ng) ∧ iG h = true ∧ jZ S.heap h.pre = true ∧ S' = ⟨ee h S.heap, h.n1, Nat.lor S.acc (iH h), Nat.lor S.wr (iH h)⟩ := by
 unfold lQ at hr
 cases hc : (Nat.beq S.next h.n0 && Nat.beq ng h.ng && iG h && jZ S.heap h.pre) with
 | false => rw [hc] at hr; cases hr
 | true =>
  rw [hc] at hr
  simp only [Bool.and_eq_true] at hc
  simp only [cond_true, Option.some.injEq, Prod.mk.injEq] at hr
  exact ⟨⟨Nat.eq_of_beq_eq_true hc.1.1.1, Nat.eq_of_beq_eq_true hc.1.1.2⟩, hc.1.2, hc.2, hr.2.symm⟩
theorem aC7 {H G : T aS} : ∀ {l : List (Nat × aS)}, jZ H l = true → (∀ v, isK l v = true → G.get v = H.get v) → jZ G l = true
 | [], _, _ => rfl
 | p :: r, h, hg => by
  simp only [jZ, Bool.and_eq_true] at h ⊢
  refine ⟨?_, aC7 h.2 fun v hv => hg v (by simp only [isK, hv, Bool.or_true])⟩
  rw [hg p.1 (by simp only [isK, Nat.beq_refl, Bool.true_or])]; exact h.1
theorem lhMask_bit {h : LH} (hh : nM h) (v : Nat) : (iH h).testBit v = (isK h.pre v || decide (h.n0 ≤ v ∧ v < h.n1)) := by
 have := hh.le
 unfold iH
 rw [aC9, aB1]
 have e : Nat.sub h.n1 h.n0 = h.n1 - h.n0 := rfl
 rw [e, show h.n0 + (h.n1 - h.n0) = h.n1 by omega]
theorem Good.lQ (ng : Nat) (h : LH) : Good (AX.lQ ng h) := ⟨fun S x S' hr => by
 obtain ⟨⟨h1, _⟩, h2, _, rfl⟩ := Cr hr
 have := (mX h2).le
 show S.next ≤ h.n1; omega, fun S x S' hw hr => by
 obtain ⟨⟨h1, h1g⟩, h2, h3, rfl⟩ := Cr hr
 have hh := mX h2
 have hle := hh.le
 have hb := lhMask_bit hh
 refine ⟨iH h, iH h, rfl, rfl, fun v hv => hv, fun v hv => ?_, fun v hv hge => ?_, fun v h1' h2' => ?_, fun v hv => ?_, fun T hT hag => ?_⟩
 ·rw [hb v, Bool.or_eq_true, decide_eq_true_eq] at hv
  show v < h.n1
  rcases hv with hv | hv
  ·have := hh.pre v hv; omega
  ·exact hv.2
 ·rw [hb v, Bool.or_eq_true, decide_eq_true_eq] at hv
  have hge : h.n1 ≤ v := hge
  rcases hv with hv | hv
  ·have := hh.pre v hv; omega
  ·omega
 ·rw [hb v, Bool.or_eq_true, decide_eq_true_eq]
  right; exact ⟨by omega, h2'⟩
 ·rw [hb v, Bool.or_eq_false_iff, decide_eq_false_iff_not] at hv
  show (ee h S.heap).get v = _
  rw [pY hh, if_neg hv.2, if_neg (by rw [hv.1]; simp)]
  have : isK h.post v = false := by
   rw [Bool.eq_false_iff]; intro hp
   obtain ⟨p1, p2⟩ := hh.post v hp
   rcases p2 with p2 | p2
   ·rw [hv.1] at p2; cases p2
   ·exact hv.2 ⟨p2, p1⟩
  rw [Cs this]; rfl
 ·have hpre : ∀ v, isK h.pre v = true → T.heap.get v = S.heap.get v := fun v hv => hag v (by rw [hb v, hv, Bool.true_or]) (fun hc => by have := hh.pre v hv; omega)
  refine ⟨⟨ee h T.heap, h.n1, Nat.lor T.acc (iH h), Nat.lor T.wr (iH h)⟩, ?_, rfl, rfl, rfl, fun v => ?_⟩
  ·unfold AX.lQ
   rw [hT, h1, h1g, Nat.beq_refl, Nat.beq_refl, h2, aC7 h3 hpre]; rfl
  ·show (ee h T.heap).get v = if (iH h).testBit v = true then (ee h S.heap).get v else T.heap.get v
   rw [hb v, pY hh, pY hh]
   by_cases e1 : h.n0 ≤ v ∧ v < h.n1
   ·simp [e1]
   ·by_cases e2 : isK h.pre v = true
    ·simp [e1, e2]
    ·have e2 : isK h.pre v = false := by simpa using e2
     have : isK h.post v = false := by
      rw [Bool.eq_false_iff]; intro hp
      obtain ⟨p1, p2⟩ := hh.post v hp
      rcases p2 with p2 | p2
      ·rw [e2] at p2; cases p2
      ·exact e1 ⟨p2, p1⟩
     simp [e1, e2, Cs this]⟩
theorem aF1 {ng : Nat} {h : LH} {S S' : St} {x : Unit} (hr : AX.iw ng h S = some (x, S')) : (S.next ≤ h.n0 ∧ ng = h.ng) ∧ iG h = true ∧ iG (fg S.next h) = true ∧ jZ S.heap h.pre = true ∧ S' = ⟨ee (fg S.next h) S.heap, h.n1, Nat.lor S.acc (iH (fg S.next h)), Nat.lor S.wr (iH (fg S.next h))⟩ := by
 unfold AX.iw at hr
 cases hc : (Nat.ble S.next h.n0 && iG h) with
 | false => rw [hc] at hr; cases hr
 | true =>
  rw [hc, cond_true] at hr
  rw [Bool.and_eq_true] at hc
  obtain ⟨⟨_, h2⟩, h3, h4, h5⟩ := Cr hr
  exact ⟨⟨Nat.le_of_ble_eq_true hc.1, h2⟩, hc.2, h3, h4, h5⟩
theorem Good.iw (ng : Nat) (h : LH) : Good (AX.iw ng h) := by
 have key : ∀ S x S', AX.iw ng h S = some (x, S') → AX.lQ ng (fg S.next h) S = some (x, S') := fun S x S' hr => by
  unfold AX.iw at hr
  cases hc : (Nat.ble S.next h.n0 && iG h) with
  | false => rw [hc] at hr; cases hr
  | true => rw [hc, cond_true] at hr; exact hr
 refine ⟨fun S x S' hr => (Good.lQ ng (fg S.next h)).mono S x S' (key S x S' hr), fun S x S' hw hr => ?_⟩
 obtain ⟨A, W, hf⟩ := (Good.lQ ng (fg S.next h)).ok S x S' hw (key S x S' hr)
 refine ⟨A, W, { hf with fr := fun T hT hag => ?_ }⟩
 obtain ⟨T', h1, h2⟩ := hf.fr T hT hag
 refine ⟨T', ?_, h2⟩
 unfold AX.iw at hr ⊢
 rw [hT]
 cases hc : (Nat.ble S.next h.n0 && iG h) with
 | false => rw [hc] at hr; cases hr
 | true => rw [cond_true]; exact h1
theorem Good.lR (ng : Nat) (E : Env) (l : LF) : Good (AX.lR ng E l) := by
 unfold AX.lR
 split
 ·exact Good.ret _
 ·exact Good.bnd (Good.iw _ _) fun _ => Good.ret _
theorem Good.ik (tb : Tab) (v : Nat) : Good (AX.ik tb v) := by
 unfold AX.ik
 exact Good.bnd (Good.rdA _) fun _ => Good.bnd (Good.aE _) fun _ => Good.ret _
structure GoodF (tb : Tab) (f : Nat) : Prop where
 code : ∀ L c E, Good (AX.code tb f L c E)
 opsT : ∀ all r E, Good (AX.opsT tb f all r E)
 gA : ∀ all r n E l, Good (AX.gA tb f all r n E l)
 oper : ∀ o E, Good (AX.oper tb f o E)
 call : ∀ g l, Good (AX.call tb f g l)
 eN : ∀ g l, Good (AX.eN tb f g l)
theorem fq (tb : Tab) : ∀ f, GoodF tb f
 | 0 => ⟨fun _ _ _ => by unfold AX.code; exact Good.fail, fun _ _ _ => by unfold AX.opsT; exact Good.fail, fun _ _ _ _ _ => by unfold AX.gA; exact Good.fail, fun _ _ => by unfold AX.oper; exact Good.fail, fun _ _ => by unfold AX.call; exact Good.fail, fun _ _ => by unfold AX.eN; exact Good.fail⟩
 | f + 1 => by
  have ih := fq tb f
  refine ⟨fun L c E => ?_, fun all r E => ?_, fun all r n E l => ?_, fun o E => ?_, fun g l => ?_, fun g l => ?_⟩
  ·unfold AX.code
   split <;> repeat (first | exact ih.code _ _ _ | exact Good.hypB' _ _ | exact Good.lR _ _ _ | exact ih.opsT _ _ _ | exact ih.gA _ _ _ _ _ | exact ih.call _ _ | exact Good.ik _ _ | exact Good.newE _ | exact Good.kill _ | exact Good.ret _ | exact Good.fail | exact Good.aE _ | apply Good.cond | apply Good.bnd | intro _ | split)
  ·cases r with
   | nil => unfold AX.opsT; exact Good.ret _
   | cons o r =>
    unfold AX.opsT
    repeat (first | exact ih.oper _ _ | exact ih.opsT _ _ _ | exact Good.aE _ | apply Good.cond | apply Good.bnd | intro _)
  ·cases r with
   | nil => unfold AX.gA; exact Good.ret _
   | cons o r =>
    unfold AX.gA
    repeat (first | exact Good.mR (ih.oper _ _) | exact ih.gA _ _ _ _ _ | exact Good.aE _ | apply Good.cond | apply Good.bnd | intro _)
  ·unfold AX.oper
   split
   ·split
    ·exact Good.builtin _ _ _ _
    ·repeat (first | exact ih.call _ _ | exact ih.eN _ _ | exact Good.fail | split)
    ·repeat (first | exact ih.call _ _ | exact Good.fail | exact Good.aE _ | apply Good.bnd | intro _ | split)
   ·exact Good.simple _ _ _
  ·unfold AX.call
   repeat (first | exact Good.iw _ _ | exact Good.ext _ _ _ | exact Good.results _ _ _ | exact ih.code _ _ _ | exact Good.ret _ | exact Good.fail | exact Good.aE _ | apply Good.cond | apply Good.bnd | intro _ | split)
  ·unfold AX.eN
   repeat (first | exact ih.code _ _ _ | exact Good.ik _ _ | exact Good.fw _ _ | exact Good.ret _ | exact Good.fail | exact Good.aE _ | apply Good.cond | apply Good.bnd | intro _ | split)
end Go.AX
end
section
namespace Go.AX
def eV (C : Cx) (ρ : aY) (E : Env) (a : Act) : Prop :=
 a.tmps.size = E.nt ∧ E.nt ≤ 16777213 ∧ ∀ t x, E.tm.get t = some x → Rel C ρ x (a.tmps.getD t undef)
theorem eV.mono {C : Cx} {ρ ρ' : aY} {E : Env} {a : Act} (h : eV C ρ E a) (hs : Sub ρ ρ') : eV C ρ' E a :=
 ⟨h.1, h.2.1, fun t x ht => Rel.mono hs x _ (h.2.2 t x ht)⟩
theorem CE (a : Act) (d : Option Tmp) (v : Value) : (a.put d v).defers = a.defers := by cases d <;> rfl
theorem eV.put {C : Cx} {ρ : aY} {E E' : Env} {a : Act} {d : Option Tmp} {x : AV} {v : Value} (h : eV C ρ E a) (hp : E.put d x = some E') (hx : Rel C ρ x v) : eV C ρ E' (a.put d v) := by
 cases d with
 | none => simp only [Env.aK3, Option.some.injEq] at hp; subst hp; exact h
 | some d =>
  rw [Env.aK2] at hp
  cases hc : Nat.blt d E.nt with
  | false => rw [hc] at hp; cases hp
  | true =>
   rw [hc] at hp
   simp only [cond_true, Option.some.injEq] at hp
   subst hp
   have hlt : Nat.lt d E.nt := Nat.le_of_ble_eq_true hc
   obtain ⟨h1, h2, h3⟩ := h
   have hd : Nat.le d 16777213 := Nat.le_trans (Nat.le_of_lt hlt) h2
   refine ⟨by simp [Act.put, h1], h2, fun t y ht => ?_⟩
   simp only [] at ht
   rw [dY _ _ _ _ hd] at ht
   simp only [Act.put]
   by_cases e : t = d
   ·subst e
    rw [if_pos rfl] at ht; injection ht with ht; subst ht
    have hlt' : t < a.tmps.size := by rw [h1]; exact hlt
    simpa [Array.getD, hlt'] using hx
   ·rw [if_neg e] at ht
    have := h3 t y ht
    simpa [Array.getD_eq_getD_getElem?, Array.getElem?_setIfInBounds_ne (Ne.symm e)] using this
theorem n6 {C : Cx} {tb : Tab} {ρ : aY} {B : Fz} {H : T aS} {w : World} {E : Env} {a : Act} (hF : Fits C tb.ng B ρ H w) (h : eV C ρ E a) (x : Operand) : Rel C ρ (op tb.ng E.tm x) (a.eval x) := by
 cases x with
 | tmp t =>
  simp only [op, Act.eval]
  cases hg : E.tm.get t with
  | none => simp [Rel]
  | some v => exact h.2.2 t v hg
 | const v => exact sE C ρ v
 | global g =>
  simp only [op, Act.eval]
  cases hc : Nat.blt g tb.ng with
  | false => simp [Rel]
  | true =>
   simp only [cond_true, Rel]
   exact ⟨_, hF.glob g (Nat.le_of_ble_eq_true hc), rfl⟩
 | func f => simp only [op, Act.eval, Rel, aJ]; exact ⟨[], [], rfl, rfl, rfl⟩
theorem wanted_ok {C : Cx} {tb : Tab} (hyp : ∀ k r, (k, r) ∈ tb.hyp → aM C k r) {ρ : aY} {ops : Array Oper} {E : Env} {a : Act} {o : Oper} {b : Bool} (h : eV C ρ E a) (hw : wanted tb.hyp ops.toList E o = some b) : Region.wanted o (yielded ops a.tmps) = b := by
 unfold wanted at hw
 unfold Region.wanted
 cases hg : o.guard with
 | none => rw [hg] at hw; simp only [Option.some.injEq] at hw; simpa using hw
 | some p =>
  obtain ⟨j, want⟩ := p
  rw [hg] at hw
  simp only [] at hw ⊢
  have hj : ops.toList[j]? = ops[j]? := by simp
  rw [hj] at hw
  unfold yielded
  cases ho : ops[j]? with
  | none => rw [ho] at hw; cases hw; rfl
  | some o' =>
   rw [ho] at hw
   simp only [Option.bind_some] at hw ⊢
   cases hd : o'.dst with
   | none => rw [hd] at hw; simp only [Option.some.injEq] at hw; subst hw; simp
   | some d =>
    rw [hd] at hw
    simp only [Option.bind_some] at hw ⊢
    cases hv : E.tm.get d with
    | none => rw [hv] at hw; cases hw
    | some x =>
     rw [hv] at hw
     have hr := h.2.2 d x hv
     have hget : a.tmps.getD d undef = (a.tmps[d]?).getD undef := by simp [Array.getD_eq_getD_getElem?]
     rw [hget] at hr
     have sF : ∀ {y : AV}, (∀ v, Rel C ρ y v → ∀ q, v ≠ .bool q) → x = y → some false = some b → ((match a.tmps[d]? with | some (.bool q) => some q | _ => none) == some want) = b := by
      intro y hy e hb
      subst e
      injection hb with hb; subst hb
      have := hy _ hr
      cases ht : a.tmps[d]? with
      | none => rfl
      | some u =>
       rw [ht] at this
       cases u <;> first | rfl | exact absurd rfl (this _)
     cases x with
     | und => cases hw
     | b q =>
      simp only [Option.some.injEq] at hw
      simp only [Rel] at hr
      cases ht : a.tmps[d]? with
      | none => rw [ht] at hr; simp [undef] at hr
      | some u =>
       rw [ht] at hr
       simp only [Option.getD_some] at hr
       subst hr
       rw [← hw]; rfl
     | sl b' o'' n c r => exact sF (fun v hv q e => by subst e; cases r <;> simp [Rel] at hv) rfl hw
     | x i =>
      simp only [] at hw
      cases hh : hl tb.hyp (.ly (.x i) (.b true)) with
      | none => rw [hh] at hw; cases hw
      | some z =>
       rw [hh] at hw
       cases z <;> first | (cases hw; done) | skip
       rename_i r
       simp only [Option.some.injEq] at hw
       obtain ⟨b', e1, e2⟩ := hyp _ _ (tS hh)
       injection e1 with e1; subst e1
       obtain ⟨p, q', e3, e4, e5⟩ := e2 _ _ (.bool true) hr (by simp only [Rel])
       injection e4 with e4; subst e4
       have e6 : r = p := by rw [e5]; cases p <;> rfl
       subst e6
       cases ht : a.tmps[d]? with
       | none => rw [ht] at e3; simp [undef] at e3
       | some u =>
        rw [ht] at e3
        simp only [Option.getD_some] at e3
        subst e3
        rw [← hw]; rfl
     | _ => exact sF (fun v hv q e => by subst e; simp [Rel, typeHandle] at hv) rfl hw
end Go.AX
end
section
namespace Go.AX
/- one operation, given what a call answers -/
noncomputable def eE (tb : Tab) (cal rn : Nat → List AV → M AV) (o : Oper) (φ : Operand → AV) : M AV := match o.op with
 | .call c => match c.callee with
  | .builtin b => builtin tb b c.argTypes.toList (c.args.toList.map φ)
  | .value g => match φ g with
   | .fn g first cap => cal g (first ++ c.args.toList.map φ ++ cap)
   | .yl n => rn n (c.args.toList.map φ)
   | _ => fail
  | .invoke r m => match φ r with
   | .aZ t v => bnd (aE (oA tb.met t m)) fun g => bnd (aE (recv g.2 v)) fun v => cal g.1 (v :: c.args.toList.map φ)
   | _ => fail
 | x => simple tb φ x
theorem aS0 (tb : Tab) (f : Nat) (o : Oper) (E : Env) : oper tb (f + 1) o E = eE tb (call tb f) (eN tb f) o (op tb.ng E.tm) := by
 unfold oper eE
 cases o.op <;> rfl
theorem F1 {spec : Nat → Option (Nat × Nat)} {φ ψ : Operand → AV} : ∀ (ps : List (Nat × Operand)) (l : List AV), (∀ x ∈ ps.map (·.2), φ x = ψ x) → jC spec φ l ps = jC spec ψ l ps
 | [], _, _ => by simp only [jC]
 | (i, x) :: ps, l, h => by
  have hx : φ x = ψ x := h x (by simp)
  have ih := fun l => F1 (spec := spec) ps l (fun y hy => h y (by simp only [List.map_cons, List.mem_cons]; exact .inr hy))
  simp only [jC, hx, ih]
theorem aD4 {φ ψ : Operand → AV} (o : Option Operand) (d : Nat) (h : ∀ x, o = some x → φ x = ψ x) : kX φ o d = kX ψ o d := by
 cases o with
 | none => rfl
 | some x => simp only [kX, h x rfl]
theorem sl2_congr {φ ψ : Operand → AV} (lo hi : Option Operand) (n : Nat) (h : ∀ x, lo = some x → φ x = ψ x) (h' : ∀ x, hi = some x → φ x = ψ x) : sl2 φ lo hi n = sl2 ψ lo hi n := by
 unfold sl2
 rw [aD4 lo _ h, aD4 hi _ h']
theorem simple_congr (tb : Tab) {φ ψ : Operand → AV} (o : Op) (h : ∀ x ∈ o.operands.toList, φ x = ψ x) : simple tb φ o = simple tb ψ o := by
 cases o <;> simp only [Op.operands] at h <;> simp only [simple]
 case build t ps =>
  have := fun spec l => F1 (spec := spec) (φ := φ) (ψ := ψ) ps.toList l (fun x hx => h x (by simpa using hx))
  simp only [this]
 case buildSlice t n ps =>
  have := fun spec l => F1 (spec := spec) (φ := φ) (ψ := ψ) ps.toList l (fun x hx => h x (by simpa using hx))
  simp only [this]
 case makeFunc fn first cap =>
  have h1 : first.toList.map φ = first.toList.map ψ := List.map_congr_left fun x hx => h x (by simp; exact .inl (by simpa using hx))
  have h2 : cap.toList.map φ = cap.toList.map ψ := List.map_congr_left fun x hx => h x (by simp; exact .inr (by simpa using hx))
  rw [h1, h2]
 case slice t x lo hi mx =>
  have hx : φ x = ψ x := h x (by simp)
  have hs := fun n => sl2_congr (φ := φ) (ψ := ψ) lo hi n (fun y hy => h y (by subst hy; simp)) (fun y hy => h y (by subst hy; simp))
  have hl : lo.map φ = lo.map ψ := by
   cases lo with
   | none => rfl
   | some y => exact congrArg some (h y (by simp))
  have hh : hi.map φ = hi.map ψ := by
   cases hi with
   | none => rfl
   | some y => exact congrArg some (h y (by simp))
  cases mx with
  | none => simp only [hx, hs, hl, hh]
  | some m =>
   have hm : φ m = ψ m := h m (by simp)
   simp only [hx, hs, hm]
 all_goals first | rfl | (simp only [List.mem_cons, List.not_mem_nil, or_false, forall_eq_or_imp, forall_eq] at h; simp only [h]; done) | (obtain ⟨h1, h2⟩ := h; simp only [h1, h2]; done) | (obtain ⟨h1, h2, h3⟩ := h; simp only [h1, h2, h3]; done) | (simp at h; simp [h]; done)
theorem operF_congr (tb : Tab) (cal rn : Nat → List AV → M AV) (o : Oper) {φ ψ : Operand → AV} (h : ∀ x ∈ o.op.operands.toList, φ x = ψ x) : eE tb cal rn o φ = eE tb cal rn o ψ := by
 unfold eE
 cases ho : o.op
 case call c =>
  rw [ho] at h
  simp only [Op.operands, Call.operands] at h
  have h1 : c.args.toList.map φ = c.args.toList.map ψ := List.map_congr_left fun x hx => h x (by simp; exact .inr (by simpa using hx))
  simp only [h1]
  cases hc : c.callee with
  | builtin b => rfl
  | value g => have hg : φ g = ψ g := h g (by simp [hc]); simp only [hg]
  | invoke r m => have hg : φ r = ψ r := h r (by simp [hc]); simp only [hg]
 all_goals (rw [ho] at h; exact simple_congr tb _ h)
/- the last writer -/
def lw {α : Type} (D wr : Nat → Bool) (X : Nat → α) : Nat → α
 | 0 => X 0
 | k + 1 => cond (D k && wr k) (X (k + 1)) (lw D wr X k)
theorem lwLo {α : Type} {D wr : Nat → Bool} {X : Nat → α} : ∀ i, (∀ k, k < i → wr k = false → X (k + 1) = X k) → (∀ j, j < i → wr j = true → D j = true) → lw D wr X i = X i
 | 0, _, _ => rfl
 | i + 1, hk, h => by
  have ih := lwLo i (fun k hk' => hk k (by omega)) (fun j hj => h j (by omega))
  unfold lw
  cases hw : wr i with
  | true => rw [h i (by omega) hw]; rfl
  | false => rw [Bool.and_false, cond_false, ih, hk i (by omega) hw]
theorem lwHi {α : Type} {D wr : Nat → Bool} {X : Nat → α} (i : Nat) : ∀ n, (∀ j, i ≤ j → j < i + n → D j = true → wr j = false) → lw D wr X (i + n) = lw D wr X i
 | 0, _ => rfl
 | n + 1, h => by
  have ih := lwHi (X := X) i n (fun j h1 h2 => h j h1 (by omega))
  show cond (D (i + n) && wr (i + n)) (X (i + n + 1)) (lw D wr X (i + n)) = _
  cases hD : D (i + n) with
  | false => rw [Bool.false_and, cond_false, ih]
  | true => rw [h (i + n) (by omega) (by omega) hD, Bool.and_false, cond_false, ih]
theorem lwC {α : Type} {D D' wr : Nat → Bool} {X : Nat → α} : ∀ n, (∀ k, k < n → (D' k && wr k) = (D k && wr k)) → lw D' wr X n = lw D wr X n
 | 0, _ => rfl
 | n + 1, h => by
  unfold lw
  rw [h n (by omega), lwC n fun k hk => h k (by omega)]
def add1 (D : Nat → Bool) (i : Nat) : Nat → Bool := fun k => Nat.beq k i || D k
theorem aW3 {α : Type} {D wr : Nat → Bool} {X : Nat → α} {i N : Nat} (hi : i < N) (hk : ∀ k, k < N → wr k = false → X (k + 1) = X k)
 (h1 : ∀ j, j < i → wr j = true → D j = true) (h2 : ∀ j, i < j → j < N → D j = true → wr j = false) (h3 : D i = false) : lw D wr X N = X i := by
 have e : N = i + (N - i) := by omega
 have hh : ∀ j, i ≤ j → j < i + (N - i) → D j = true → wr j = false := fun j a b c => by
  rcases Nat.lt_or_ge i j with h | h
  ·exact h2 j h (by omega) c
  ·have e : j = i := by omega
   rw [e, h3] at c; cases c
 rw [e, lwHi i (N - i) hh]
 exact lwLo i (fun k hk' => hk k (by omega)) h1
theorem aL3 {α : Type} {D wr : Nat → Bool} {X : Nat → α} {i N : Nat} (hi : i < N)
 (h2 : ∀ j, i < j → j < N → D j = true → wr j = false) (hw : wr i = true) : lw (add1 D i) wr X N = X (i + 1) := by
 have e : N = (i + 1) + (N - (i + 1)) := by omega
 rw [e, lwHi (i + 1) _ fun j a b c => by
  refine h2 j (by omega) (by omega) ?_
  unfold add1 at c
  rw [Bool.or_eq_true] at c
  rcases c with c | c
  ·have := Nat.eq_of_beq_eq_true c; omega
  ·exact c]
 unfold lw
 have : add1 D i i = true := by unfold add1; rw [Bool.or_eq_true]; exact .inl (Nat.beq_refl i)
 rw [this, hw]; rfl
theorem aW2 {α : Type} {D wr : Nat → Bool} {X : Nat → α} {i N : Nat} (hw : wr i = false) : lw (add1 D i) wr X N = lw D wr X N :=
 lwC N fun k _ => by
  unfold add1
  cases hb : Nat.beq k i with
  | false => rw [Bool.false_or]
  | true => have := Nat.eq_of_beq_eq_true hb; subst this; rw [hw, Bool.and_false, Bool.and_false]
theorem lw_all {α : Type} {D wr : Nat → Bool} {X : Nat → α} {N : Nat} (hk : ∀ k, k < N → wr k = false → X (k + 1) = X k) (h : ∀ j, j < N → D j = true) : lw D wr X N = X N :=
 lwLo N hk fun j hj _ => h j hj
theorem Ck {α : Type} {D wr : Nat → Bool} {X : Nat → α} : ∀ N, (∀ j, j < N → D j = false) → lw D wr X N = X 0
 | 0, _ => rfl
 | n + 1, h => by unfold lw; rw [h n (by omega), Bool.false_and, cond_false]; exact Ck n fun j hj => h j (by omega)
/- how many are left -/
def left (D : Nat → Bool) : Nat → Nat
 | 0 => 0
 | k + 1 => left D k + cond (D k) 0 1
theorem aM0 {D : Nat → Bool} {i : Nat} (hi : D i = false) : ∀ n, left (add1 D i) n + (if i < n then 1 else 0) = left D n
 | 0 => by simp [left]
 | n + 1 => by
  have ih := aM0 hi n
  unfold left
  by_cases e : n = i
  ·subst e
   have : add1 D n n = true := by unfold add1; rw [Bool.or_eq_true]; exact .inl (Nat.beq_refl n)
   rw [this, hi, cond_true, cond_false]
   rw [if_neg (by omega)] at ih
   rw [if_pos (by omega)]; omega
  ·have : add1 D i n = D n := by
    unfold add1
    cases hb : Nat.beq n i with
    | false => rfl
    | true => exact absurd (Nat.eq_of_beq_eq_true hb) e
   rw [this]
   by_cases h : i < n
   ·rw [if_pos h] at ih; rw [if_pos (by omega)]; omega
   ·rw [if_neg h] at ih; rw [if_neg (by omega)]; omega
theorem aF7 {D : Nat → Bool} : ∀ n, left D n = 0 → ∀ j, j < n → D j = true
 | 0, _, j, hj => by omega
 | n + 1, h, j, hj => by
  unfold left at h
  cases hD : D n with
  | false => rw [hD, cond_false] at h; omega
  | true =>
   rcases Nat.lt_or_ge j n with hlt | hge
   ·exact aF7 n (by omega) j hlt
   ·have : j = n := by omega
    subst this; exact hD
/- what stands ahead of what -/
inductive fa (ops : List Oper) : Nat → Nat → Prop
 | edge {i : Nat} {o : Oper} {e : Edge} : ops[i]? = some o → e ∈ o.after.toList → fW e = true → fa ops e.on i
 | step {i j : Nat} {o : Oper} {e : Edge} : fa ops j e.on → ops[i]? = some o → e ∈ o.after.toList → fW e = true → fa ops j i
theorem fa.closed {ops : List Oper} {D : Nat → Bool} (hD : ∀ i o e, D i = true → ops[i]? = some o → e ∈ o.after.toList → fW e = true → D e.on = true) : ∀ {j i}, fa ops j i → D i = true → D j = true
 | _, _, .edge ho he hb, h => hD _ _ _ h ho he hb
 | _, _, .step ha ho he hb, h => fa.closed hD ha (hD _ _ _ h ho he hb)
theorem fa.ready {ops : List Oper} {D : Nat → Bool} (hD : ∀ i o e, D i = true → ops[i]? = some o → e ∈ o.after.toList → fW e = true → D e.on = true) {i : Nat}
 (hi : ∀ o e, ops[i]? = some o → e ∈ o.after.toList → fW e = true → D e.on = true) {j : Nat} (h : fa ops j i) : D j = true := by
 cases h with
 | edge ho he hb => exact hi _ _ ho he hb
 | step ha ho he hb => exact ha.closed hD (hi _ _ ho he hb)
def uj (ops : List Oper) (t : T Nat) : Prop := ∀ i j, (ir t i).testBit j = true → fa ops j i
theorem aY3 {ops : List Oper} {t : T Nat} (ht : uj ops t) {i : Nat} {o : Oper} (ho : ops[i]? = some o) : ∀ (l : List Edge) (s : Nat), (∀ e ∈ l, e ∈ o.after.toList) → (∀ j, s.testBit j = true → fa ops j i) → ∀ j, (ua t l s).testBit j = true → fa ops j i
 | [], s, _, h, j, hj => h j (by simpa only [ua] using hj)
 | e :: l, s, hl, h, j, hj => by
  unfold ua at hj
  refine aY3 ht ho l _ (fun x hx => hl x (List.mem_cons_of_mem _ hx)) (fun k hk => ?_) j hj
  cases hb : fW e with
  | false => rw [hb, cond_false] at hk; exact h k hk
  | true =>
   rw [hb, cond_true, iA, iA, dd, Bool.or_eq_true, Bool.or_eq_true] at hk
   have he := hl e (List.mem_cons_self ..)
   rcases hk with (hk | hk) | hk
   ·exact h k hk
   ·have : e.on = k := by simpa using hk
    subst this; exact .edge ho he hb
   ·exact .step (ht _ _ hk) ho he hb
theorem Ga {ops : List Oper} : ∀ (r : List Oper) (i : Nat) (t : T Nat), (∀ k o, r[k]? = some o → ops[i + k]? = some o) → i + r.length ≤ 16777214 → uj ops t → uj ops (kZ r i t)
 | [], _, _, _, _, ht => by simpa only [kZ] using ht
 | o :: r, i, t, hr, hle, ht => by
  unfold kZ
  have ho : ops[i]? = some o := by simpa using hr 0 o rfl
  refine Ga r (Nat.succ i) _ (fun k x hk => ?_) (by simp at hle; simp only [Nat.succ_eq_add_one]; omega) (fun a j hj => ?_)
  ·have := hr (k + 1) x (by simpa using hk)
   rw [show Nat.succ i + k = i + (k + 1) by omega]; exact this
  ·unfold ir at hj
   rw [dY _ _ _ _ (by simp at hle; omega)] at hj
   split at hj
   ·rename_i m hm
    split at hm
    ·rename_i e; subst e; injection hm with hm; subst hm
     exact aY3 ht ho _ _ (fun _ h => h) (fun j h => by simp at h) j hj
    ·exact ht a j (by unfold ir; rw [hm]; exact hj)
   ·simp at hj
theorem aC3 {all : List Oper} {m : Nat} {o : Oper} : ∀ (l : List Oper) (j n : Nat), sA all m o l j n = true → ∀ k x, k < n → l[k]? = some x → m.testBit (j + k) = true ∨ qf all x o = true
 | _, _, 0, _, k, x, hk, _ => by omega
 | [], _, _ + 1, _, k, x, _, hx => by simp at hx
 | y :: l, j, n + 1, h, k, x, hk, hx => by
  unfold sA at h
  rw [Bool.and_eq_true, Bool.or_eq_true] at h
  cases k with
  | zero => simp at hx; subst hx; exact h.1
  | succ k =>
   have := aC3 l (Nat.succ j) n h.2 k x (by omega) (by simpa using hx)
   rw [show j + (k + 1) = Nat.succ j + k by omega]; exact this
theorem aE1 {all : List Oper} {t : T Nat} : ∀ (r : List Oper) (i : Nat), vW all t r i = true → ∀ k o, r[k]? = some o → (∀ e ∈ o.after.toList, fW e = true → e.on < i + k) ∧ sA all (ir t (i + k)) o all 0 (i + k) = true
 | [], _, _, k, o, ho => by simp at ho
 | y :: r, i, h, k, o, ho => by
  unfold vW at h
  rw [Bool.and_eq_true, Bool.and_eq_true] at h
  cases k with
  | zero =>
   simp at ho; subst ho
   refine ⟨fun e he hb => ?_, h.1.2⟩
   have := List.all_eq_true.1 h.1.1 e he
   rw [hb] at this
   simp at this
   omega
  | succ k =>
   have := aE1 r (Nat.succ i) h.2 k o (by simpa using ho)
   rw [show i + (k + 1) = Nat.succ i + k by omega]; exact this
theorem regOk_ok {ops : List Oper} (h : pI ops = true) : ∀ i o, ops[i]? = some o → (∀ e ∈ o.after.toList, fW e = true → e.on < i) ∧ ∀ j x, j < i → ops[j]? = some x → fa ops j i ∨ qf ops x o = true := by
 unfold pI at h
 rw [Bool.and_eq_true] at h
 have hle := Nat.le_of_ble_eq_true h.1
 have hm : uj ops (kZ ops 0 .leaf) := Ga ops 0 .leaf (fun k o hk => by rw [Nat.zero_add]; exact hk) (by omega) (fun i j hj => by simp [ir, T.get] at hj)
 intro i o ho
 obtain ⟨h1, h2⟩ := aE1 ops 0 h.2 i o ho
 rw [Nat.zero_add] at h1 h2
 refine ⟨h1, fun j x hj hx => ?_⟩
 have := aC3 ops 0 i h2 j x hj hx
 rw [Nat.zero_add] at this
 exact this.imp (hm _ _) id
theorem aB8 {t : Nat} : ∀ l : List Operand, Operand.tmp t ∈ l → gp (tmpsOf l) t = true
 | [], h => by simp at h
 | x :: l, h => by
  rcases List.mem_cons.1 h with h | h
  ·subst h; simp only [tmpsOf, gp, Nat.beq_refl, Bool.true_or]
  ·have ih := aB8 l h
   cases x <;> simp only [tmpsOf, gp] <;> first | exact ih | (rw [Bool.or_eq_true]; exact .inr ih)
theorem looks_op {all : List Oper} {o : Oper} {t : Nat} (h : Operand.tmp t ∈ o.op.operands.toList) : gp (looks all o) t = true := by
 have := aB8 _ h
 unfold looks
 split
 ·exact this
 ·split
  ·split
   ·simp only [gp]; rw [Bool.or_eq_true]; exact .inr this
   ·exact this
  ·exact this
theorem looks_guard {all : List Oper} {o o' : Oper} {g : Nat} {b : Bool} {d : Nat} (hg : o.guard = some (g, b)) (ho : all[g]? = some o') (hd : o'.dst = some d) : gp (looks all o) d = true := by
 unfold looks
 rw [hg]; simp only [ho, hd, gp, Nat.beq_refl, Bool.true_or]
theorem GZ {all : List Oper} {x y : Oper} (h : qf all x y = true) : (∀ d, x.dst = some d → gp (looks all y) d = false) ∧ (∀ d, x.dst = some d → y.dst ≠ some d) ∧ (∀ d, y.dst = some d → gp (looks all x) d = false) := by
 unfold qf at h
 rw [Bool.and_eq_true] at h
 refine ⟨fun d hd => ?_, fun d hd he => ?_, fun d hd => ?_⟩
 ·have := h.1; rw [hd] at this; simp only [Bool.and_eq_true] at this
  simpa using this.1
 ·have := h.1; rw [hd, he] at this; simp only [Bool.and_eq_true, Nat.beq_refl] at this
  simp at this
 ·have := h.2; rw [hd] at this; simpa using this
end Go.AX
end
section
namespace Go.AX
def eB (Φ : Fence) : Prop := Φ = Fence.wide ∨ ∃ l, Φ = Fence.wide.inRound l
theorem eB.fn {Φ : Fence} (h : eB Φ) (f : FuncId) : Φ.fn f := by
 rcases h with rfl | ⟨l, rfl⟩ <;> exact trivial
theorem eB.room {Φ : Fence} (h : eB Φ) : Φ.depth.isSome = true → 1 ≤ 0 := by
 rcases h with rfl | ⟨l, rfl⟩ <;> intro e <;> cases e
theorem eB.deep {Φ : Fence} (h : eB Φ) (n : Nat) : Φ.depth.isSome = true → 1 ≤ n := by
 rcases h with rfl | ⟨l, rfl⟩ <;> intro e <;> cases e
theorem eB.calls {Φ : Fence} (h : eB Φ) {n : Nat} {P : Program} {f : FuncId} {args : Array Value} {w : World} {R : Ending → World → Prop} (hc : Calls P f args w R) : CallsIn Φ n P f args w R := by
 rcases h with rfl | ⟨l, rfl⟩
 ·exact callsIn_wide.2 hc
 ·exact (show CallsIn Fence.wide n P f args w R from callsIn_wide.2 hc)
theorem eB.out {Φ : Fence} (h : eB Φ) {n : Nat} {P : Program} {f : FuncId} {args : Array Value} {w : World} {R : Ending → World → Prop} (hc : CallsIn Fence.wide n P f args w R) : CallsIn Φ n P f args w R := by
 rcases h with rfl | ⟨l, rfl⟩ <;> exact hc
theorem u9 : eB Fence.wide := .inl rfl
def CallOk (C : Cx) (tb : Tab) (B : Fz) (cal : Nat → List AV → M AV) : Prop :=
 ∀ (g : Nat) (l : List AV) (S : St) (v : AV) (S' : St) (ρ : aY) (w : World) (args : List Value) (o : Oper) (a : Act) (next : Act → World → Prop) (Q : Exit → Act → World → Prop) (Φ : Fence) (ν : Nat), eB Φ →
  cal g l S = some (v, S') → Fits C tb.ng B ρ S.heap w → tb.ng ≤ S.next → aJ C ρ l args → Free ρ S.next S'.next →
  (∀ ρ' x w', Rel C ρ' v x → Fits C tb.ng B ρ' S'.heap w' → Ext ρ ρ' S.next S'.next → Below B w w' → next (a.put o.dst x) w') →
  o.uponIn Φ ν C.P a next Q ((callFunc g ⟨args⟩).run C.P w)
def RndOk (C : Cx) (tb : Tab) (B : Fz) (rn : Nat → List AV → M AV) : Prop :=
 ∀ (n : Nat) (l : List AV) (S : St) (v : AV) (S' : St) (ρ : aY) (w : World) (args : List Value) (o : Oper) (a : Act) (next : Act → World → Prop) (Q : Exit → Act → World → Prop) (Φ : Fence) (ν : Nat) (r : R), eB Φ →
  rn n l S = some (v, S') → Fits C tb.ng B ρ S.heap w → tb.ng ≤ S.next → aJ C ρ l args → ρ n = some r → Free ρ S.next S'.next →
  (∀ ρ' x w', Rel C ρ' v x → Fits C tb.ng B ρ' S'.heap w' → Ext ρ ρ' S.next S'.next → Below B w w' → next (a.put o.dst x) w') →
  o.uponIn Φ ν C.P a next Q ((Instr.yield r.blk ⟨args⟩).run C.P w)
def qt (C : Cx) (tb : Tab) (B : Fz) (cal rn : Nat → List AV → M AV) : Prop := CallOk C tb B cal ∧ RndOk C tb B rn
def ui (C : Cx) (tb : Tab) : Prop := ∀ t m g d (v : AV) (u : AV) (ρ : aY) (x : Value) (w : World), oA tb.met t m = some (g, d) → recv d v = some u → Rel C ρ v x →
 ∃ y, (method (C.P.types.size + Made.depth) t x m).run C.P w = .ok (g, y) w ∧ Rel C ρ u y
theorem aK5 {C : Cx} {tb : Tab} {B : Fz} {ρ : aY} {w : World} {S S' : St} {cal rn : Nat → List AV → M AV} (hc : qt C tb B cal rn) (ht : nL C tb) (hm : ui C tb)
 {o : Oper} {φ : Operand → AV} {a : Act} {v : AV} {next : Act → World → Prop} {Q : Exit → Act → World → Prop} (h : eE tb cal rn o φ S = some (v, S')) (hF : Fits C tb.ng B ρ S.heap w) (aW : tb.ng ≤ S.next)
 (hf : ∀ x ∈ o.op.operands.toList, Rel C ρ (φ x) (a.eval x)) (hfree : Free ρ S.next S'.next)
 (hk : ∀ ρ' x w', Rel C ρ' v x → Fits C tb.ng B ρ' S'.heap w' → Ext ρ ρ' S.next S'.next → Below B w w' → next (a.put o.dst x) w') {Φ : Fence} {ν : Nat} (hΦ : eB Φ) : o.wpIn Φ ν C.P a w next Q := by
 classical
 have hcg : eE tb cal rn o φ = eE tb cal rn o (fun x => if x ∈ o.op.operands.toList then φ x else .und) := operF_congr tb cal rn o fun x hx => by rw [if_pos hx]
 rw [hcg] at h
 have hf' : ∀ x, Rel C ρ ((fun x => if x ∈ o.op.operands.toList then φ x else .und) x) (a.eval x) := fun x => by
  show Rel C ρ (if x ∈ o.op.operands.toList then φ x else .und) (a.eval x)
  split
  ·rename_i hx; exact hf x hx
  ·simp [Rel]
 generalize (fun x => if x ∈ o.op.operands.toList then φ x else .und) = ψ at h hf'
 have fin : ∀ {r : Result Next}, cJ C tb.ng B ρ w S S' v r → o.uponIn Φ ν C.P a next Q r := by
  rintro r ⟨ρ', x, w', h1 | ⟨h1, rfl⟩, h2, h3, h4, h5⟩
  ·rw [h1]; exact hk ρ' x w' h2 h3 h4 h5
  ·rw [h1]; exact hk ρ' undef w' h2 h3 h4 h5
 have hnd : ∀ c, o.op ≠ .defer c := fun c e => by
  unfold eE at h; rw [e] at h; exact (aU (show AX.fail S = some (v, S') from h)).elim
 refine ⟨fun f _ => hΦ.fn f, ?_⟩
 rw [Oper.semAt_eq _ _ _ hnd]
 by_cases hcall : ∃ c, o.op = .call c
 ·obtain ⟨c, ho⟩ := hcall
  unfold eE at h
  rw [ho] at h
  simp only [] at h
  cases hcb : c.callee <;> rw [hcb] at h <;> simp only [] at h
  case builtin b => exact fin (s_builtin ht hF aW hf' ho hcb h hfree)
  case value g =>
   have hcg' := hcb
   have hg := hf' g
   generalize hψ : ψ g = pg at h hg
   cases pg <;> try exact (aU h).elim
   case yl n =>
    simp only [Rel] at hg
    obtain ⟨r, hr, hg⟩ := hg
    have hrun : (execOp a.eval o).run C.P w = (Instr.yield r.blk ⟨c.args.toList.map a.eval⟩).run C.P w := by
     have e1 : #[] ++ c.args.map a.eval = (⟨c.args.toList.map a.eval⟩ : Array Value) := by
      apply Array.toList_inj.1; simp
     simp only [execOp, ho, resolve, hcg', hg, Deferred.ofValue]
     rw [Sem.run_bind]
     simp only [Sem.run_pure, Result.andThen_ok, invoke]
     rw [e1]
    rw [hrun]
    exact hc.2 _ _ _ _ _ _ _ _ o a next Q Φ ν r hΦ h hF aW (Aq hf' c.args.toList) hr hfree hk
   rename_i g' first cap
   simp only [Rel] at hg
   obtain ⟨as, cs, hg, h1, h2⟩ := hg
   have hrun : (execOp a.eval o).run C.P w = (callFunc g' ⟨as ++ c.args.toList.map a.eval ++ cs⟩).run C.P w := by
    have e1 : (⟨as⟩ : Array Value) ++ c.args.map a.eval ++ ⟨cs⟩ = ⟨as ++ c.args.toList.map a.eval ++ cs⟩ := by
     apply Array.toList_inj.1; simp
    simp only [execOp, ho, resolve, hcg', hg, Deferred.ofValue]
    rw [Sem.run_bind]
    simp only [Sem.run_pure, Result.andThen_ok, invoke]
    rw [e1]
   rw [hrun]
   exact hc.1 _ _ _ _ _ _ _ _ o a next Q Φ ν hΦ h hF aW ((h1.app (Aq hf' c.args.toList)).app h2) hfree hk
  case invoke r m =>
   have hcr := hcb
   have hr := hf' r
   generalize hψ : ψ r = pr at h hr
   cases pr <;> try exact (aU h).elim
   rename_i t u
   simp only [Rel] at hr
   obtain ⟨x, hr, h1⟩ := hr
   obtain ⟨g, e1, h2⟩ := lb h
   obtain ⟨u', e2, h3⟩ := lb h2
   obtain ⟨g1, g2⟩ := g
   obtain ⟨y, hmeth, hy⟩ := hm t m g1 g2 u u' ρ x w e1 e2 h1
   have hrun : (execOp a.eval o).run C.P w = (callFunc g1 ⟨y :: c.args.toList.map a.eval⟩).run C.P w := by
    have e3 : (#[y] ++ (#[Value.iface t x] ++ c.args.map a.eval).extract 1 (#[Value.iface t x] ++ c.args.map a.eval).size : Array Value) = ⟨y :: c.args.toList.map a.eval⟩ := by
     apply Array.toList_inj.1; simp; exact List.take_of_length_le (by simp)
    simp only [execOp, ho, resolve, hcr, hr]
    rw [Sem.run_bind]
    simp only [Sem.run_pure, Result.andThen_ok, invoke]
    have e4 : (#[Value.iface t x] ++ c.args.map a.eval)[0]? = some (Value.iface t x) := by rw [← Array.getElem?_toList, Array.toList_append]; rfl
    rw [e4]
    simp only [callMethod]
    rw [Sem.run_bind]
    have hp : (program).run C.P w = .ok C.P w := rfl
    rw [hp]
    simp only [Result.andThen_ok]
    rw [Sem.run_bind, hmeth]
    simp only [Result.andThen_ok]
    rw [e3]
   rw [hrun]
   exact hc.1 _ _ _ _ _ _ _ _ o a next Q Φ ν hΦ h3 hF aW (by simp only [aJ]; exact ⟨y, _, rfl, hy, Aq hf' c.args.toList⟩) hfree hk
 ·have hs : eE tb cal rn o ψ = simple tb ψ o.op := by
   unfold eE
   cases ho : o.op <;> first | rfl | exact absurd ⟨_, ho⟩ hcall
  rw [hs] at h
  exact fin (simple_ok ht hF aW hf' h hfree)
end Go.AX
end
section
namespace Go.AX
theorem Good.eE {tb : Tab} {cal rn : Nat → List AV → M AV} (hc : ∀ g l, Good (cal g l)) (hr : ∀ g l, Good (rn g l)) (o : Oper) (φ : Operand → AV) : Good (AX.eE tb cal rn o φ) := by
 unfold AX.eE
 cases o.op
 case call c =>
  simp only []
  split
  ·exact Good.builtin _ _ _ _
  ·split
   ·exact hc _ _
   ·exact hr _ _
   ·exact Good.fail
  ·split
   ·exact Good.bnd (Good.aE _) fun _ => Good.bnd (Good.aE _) fun _ => hc _ _
   ·exact Good.fail
 all_goals exact Good.simple _ _ _
structure ub (tb : Tab) (F : Nat) (all : List Oper) (o : Oper) (E E' : Env) (S S' : St) (b : Bool) (v : AV) (A W : Nat) : Prop where
 want : wanted tb.hyp all E o = some b
 put : E.put o.dst v = some E'
 run : b = true → ∃ g S1, g < F ∧ eE tb (call tb g) (eN tb g) o (op tb.ng E.tm) ⟨S.heap, S.next, 0, 0⟩ = some (v, S1) ∧ S1.heap = S'.heap ∧ S1.next = S'.next ∧ S1.acc = A ∧ S1.wr = W
 no : b = false → v = .tu [] ∧ S'.heap = S.heap ∧ S'.next = S.next ∧ A = 0 ∧ W = 0
def sh {α : Type} (x : α) (f : Nat → α) : Nat → α
 | 0 => x
 | k + 1 => f k
theorem CI {tb : Tab} {F : Nat} {all : List Oper} : ∀ (f : Nat), f ≤ F → ∀ (r : List Oper) (n : Nat) (E : Env) (l : List Rec) (S : St) (E' : Env) (l' : List Rec) (S' : St), gA tb f all r n E l S = some ((E', l'), S') →
 ∃ (Es : Nat → Env) (Ss : Nat → St) (bs : Nat → Bool) (vs : Nat → AV) (As Ws : Nat → Nat) (R : List Rec), Es 0 = E ∧ Ss 0 = S ∧ Es r.length = E' ∧ Ss r.length = S' ∧ l' = R ++ l ∧
  (∀ k o, r[k]? = some o → ub tb F all o (Es k) (Es (k + 1)) (Ss k) (Ss (k + 1)) (bs k) (vs k) (As k) (Ws k)) ∧
  (∀ k, k < r.length → As k ≠ 0 → (⟨n + k, As k, Ws k⟩ : Rec) ∈ R) ∧
  (∀ i j, i < j → j < r.length → As i ≠ 0 → As j ≠ 0 → List.Sublist [(⟨n + j, As j, Ws j⟩ : Rec), ⟨n + i, As i, Ws i⟩] R)
 | 0, _, r, n, E, l, S, E', l', S', h => by unfold gA at h; exact (aU h).elim
 | f + 1, hf, [], n, E, l, S, E', l', S', h => by
  unfold gA at h
  obtain ⟨e1, e2⟩ := aX h
  injection e1 with e1 e3
  subst e1; subst e2; subst e3
  exact ⟨fun _ => E', fun _ => S', fun _ => false, fun _ => .und, fun _ => 0, fun _ => 0, [], rfl, rfl, rfl, rfl, rfl, fun k o hk => by simp at hk, fun k hk => by simp at hk, fun i j _ hj => by simp at hj⟩
 | f + 1, hf, o :: r, n, E, l, S, E', l', S', h => by
  unfold gA at h
  obtain ⟨b, hb, h1⟩ := lb h
  cases b with
  | true =>
   rw [cond_true] at h1
   obtain ⟨p, S1, h2, h3⟩ := bZ h1
   obtain ⟨E1, hp, h4⟩ := lb h3
   obtain ⟨Es, Ss, bs, vs, As, Ws, R, q1, q2, q3, q4, q5, q6, q7, q8⟩ := CI f (Nat.le_of_succ_le hf) r (Nat.succ n) E1 _ S1 E' l' S' h4
   obtain ⟨v, A, W⟩ := p
   obtain ⟨S2, g1, g2, g3, g4, g5⟩ := aC4 h2
   simp only [] at g1 g2 g3 hp q5
   have hstep : ub tb F all o E E1 S S1 true v A W := ⟨hb, hp, fun _ => by
    cases f with
    | zero => unfold oper at g1; exact (aU g1).elim
    | succ g =>
     rw [aS0] at g1
     exact ⟨g, S2, by omega, g1, g4.symm, g5.symm, g2.symm, g3.symm⟩, fun h => by cases h⟩
   refine ⟨sh E Es, sh S Ss, sh true bs, sh v vs, sh A As, sh W Ws, R ++ (cond (Nat.beq A 0) [] [⟨n, A, W⟩]), rfl, rfl, q3, q4, ?_, fun k x hk => ?_, fun k hk hA => ?_, fun i j hij hj hAi hAj => ?_⟩
   ·rw [q5]; cases Nat.beq A 0 <;> simp
   ·cases k with
    | zero => simp at hk; subst hk; simp only [sh, q1, q2]; exact hstep
    | succ k => exact q6 k x (by simpa using hk)
   ·cases k with
    | zero =>
     have : Nat.beq A 0 = false := by
      cases hb : Nat.beq A 0 with
      | false => rfl
      | true => exact absurd (Nat.eq_of_beq_eq_true hb) hA
     rw [this]; simp [sh]
    | succ k =>
     have := q7 k (by simpa using hk) hA
     rw [show Nat.succ n + k = n + (k + 1) by omega] at this
     exact List.mem_append_left _ this
   ·cases j with
    | zero => omega
    | succ j =>
     cases i with
     | zero =>
      have : Nat.beq A 0 = false := by
       cases hb : Nat.beq A 0 with
       | false => rfl
       | true => exact absurd (Nat.eq_of_beq_eq_true hb) hAi
      rw [this]
      have hm := q7 j (by simpa using hj) hAj
      rw [show Nat.succ n + j = n + (j + 1) by omega] at hm
      exact List.Sublist.append (List.singleton_sublist.2 hm) (List.Sublist.refl _)
     | succ i =>
      have := q8 i j (by omega) (by simpa using hj) hAi hAj
      rw [show Nat.succ n + j = n + (j + 1) by omega, show Nat.succ n + i = n + (i + 1) by omega] at this
      exact this.trans (List.sublist_append_left _ _)
  | false =>
   rw [cond_false] at h1
   obtain ⟨E1, hp, h4⟩ := lb h1
   obtain ⟨Es, Ss, bs, vs, As, Ws, R, q1, q2, q3, q4, q5, q6, q7, q8⟩ := CI f (Nat.le_of_succ_le hf) r (Nat.succ n) E1 l S E' l' S' h4
   have hstep : ub tb F all o E E1 S S false (.tu []) 0 0 := ⟨hb, hp, fun h => (by cases h), fun _ => ⟨rfl, rfl, rfl, rfl, rfl⟩⟩
   refine ⟨sh E Es, sh S Ss, sh false bs, sh (.tu []) vs, sh 0 As, sh 0 Ws, R, rfl, rfl, q3, q4, q5, fun k x hk => ?_, fun k hk hA => ?_, fun i j hij hj hAi hAj => ?_⟩
   ·cases k with
    | zero => simp at hk; subst hk; simp only [sh, q1, q2]; exact hstep
    | succ k => exact q6 k x (by simpa using hk)
   ·cases k with
    | zero => exact absurd rfl hA
    | succ k =>
     have := q7 k (by simpa using hk) hA
     rw [show Nat.succ n + k = n + (k + 1) by omega] at this
     exact this
   ·cases j with
    | zero => omega
    | succ j =>
     cases i with
     | zero => exact absurd rfl hAi
     | succ i =>
      have := q8 i j (by omega) (by simpa using hj) hAi hAj
      rw [show Nat.succ n + j = n + (j + 1) by omega, show Nat.succ n + i = n + (i + 1) by omega] at this
      exact this
theorem clash_symm (x y : Rec) : clash x y = clash y x := by
 unfold clash
 have : Nat.lor (Nat.land x.wr y.acc) (Nat.land y.wr x.acc) = Nat.lor (Nat.land y.wr x.acc) (Nat.land x.wr y.acc) := Nat.or_comm _ _
 rw [this]
theorem aA7 {t : T Nat} : ∀ l : List Rec, uZ l = false → l.Pairwise fun y x => clash x y = true → (ir t y.idx).testBit x.idx = true
 | [], _ => .nil
 | x :: l, h => by
  unfold uZ at h
  rw [Bool.or_eq_false_iff] at h
  refine .cons (fun y hy hc => ?_) (aA7 l h.2)
  have := List.any_eq_false.1 h.1 y hy
  rw [clash_symm] at this
  exact absurd hc this
theorem aA1 {t : T Nat} : ∀ l : List Rec, sD t l = true → l.Pairwise fun y x => clash x y = true → (ir t y.idx).testBit x.idx = true
 | [], _ => .nil
 | x :: l, h => by
  unfold sD at h
  rw [Bool.and_eq_true] at h
  refine .cons (fun y hy hc => ?_) (aA1 l h.2)
  have := List.all_eq_true.1 h.1 y hy
  rw [hc] at this
  simpa using this
theorem clash_of {x y : Rec} {v : Nat} (h : (x.wr.testBit v = true ∧ y.acc.testBit v = true) ∨ (y.wr.testBit v = true ∧ x.acc.testBit v = true)) : clash x y = true := by
 unfold clash
 cases hb : Nat.beq (Nat.lor (Nat.land x.wr y.acc) (Nat.land y.wr x.acc)) 0 with
 | false => rfl
 | true =>
  have e := Nat.eq_of_beq_eq_true hb
  have e2 : (Nat.lor (Nat.land x.wr y.acc) (Nat.land y.wr x.acc)).testBit v = true := by
   rw [iA, Bool.or_eq_true]
   have l1 : (Nat.land x.wr y.acc).testBit v = (x.wr.testBit v && y.acc.testBit v) := Nat.testBit_and _ _ _
   have l2 : (Nat.land y.wr x.acc).testBit v = (y.wr.testBit v && x.acc.testBit v) := Nat.testBit_and _ _ _
   rw [l1, l2]
   rcases h with ⟨h1, h2⟩ | ⟨h1, h2⟩
   ·left; rw [h1, h2]; rfl
   ·right; rw [h1, h2]; rfl
  rw [e] at e2; simp at e2
structure Tr (tb : Tab) (F : Nat) (ops : Array Oper) (Es : Nat → Env) (Ss : Nat → St) (bs : Nat → Bool) (vs : Nat → AV) (As Ws : Nat → Nat) : Prop where
 step : ∀ i o, ops[i]? = some o → ub tb F ops.toList o (Es i) (Es (i + 1)) (Ss i) (Ss (i + 1)) (bs i) (vs i) (As i) (Ws i)
 low : ∀ i o, ops[i]? = some o → ∀ e ∈ o.after.toList, fW e = true → e.on < i
 apart : ∀ i j oi oj, j < i → ops[i]? = some oi → ops[j]? = some oj → fa ops.toList j i ∨ qf ops.toList oj oi = true
 clash : ∀ i j v, j < i → i < ops.size → (((Ws j).testBit v = true ∧ (As i).testBit v = true) ∨ ((Ws i).testBit v = true ∧ (As j).testBit v = true)) → fa ops.toList j i
 mono : ∀ i, i < ops.size → (Ss i).next ≤ (Ss (i + 1)).next
 sub : ∀ i v, i < ops.size → (Ws i).testBit v = true → (As i).testBit v = true
 keep : ∀ i v, i < ops.size → (Ws i).testBit v = false → (Ss (i + 1)).heap.get v = (Ss i).heap.get v
 fr : ∀ i o, ops[i]? = some o → bs i = true → ∀ T : St, T.next = (Ss i).next → (∀ v, (As i).testBit v = true → ¬ ((Ss i).next ≤ v ∧ v < (Ss (i + 1)).next) → T.heap.get v = (Ss i).heap.get v) →
  ∃ g T', g < F ∧ eE tb (call tb g) (eN tb g) o (op tb.ng (Es i).tm) T = some (vs i, T') ∧ T'.next = (Ss (i + 1)).next ∧ ∀ v, T'.heap.get v = if (Ws i).testBit v then (Ss (i + 1)).heap.get v else T.heap.get v
theorem lN {Ss : Nat → St} {N : Nat} (h : ∀ i, i < N → (Ss i).next ≤ (Ss (i + 1)).next) (i : Nat) : ∀ j, i ≤ j → j ≤ N → (Ss i).next ≤ (Ss j).next
 | 0, h1, _ => by have : i = 0 := by omega
                  rw [this]; exact Nat.le_refl _
 | j + 1, h1, h2 => by
  rcases Nat.lt_or_ge i (j + 1) with hlt | hge
  ·exact Nat.le_trans (lN h i j (by omega) (by omega)) (h j (by omega))
  ·have : i = j + 1 := by omega
   rw [this]; exact Nat.le_refl _
theorem tr_of {tb : Tab} {f F : Nat} {ops : Array Oper} {E E' : Env} {l' : List Rec} {S S' : St} (hf : f ≤ F) (p9 : pI ops.toList = true) (h : gA tb f ops.toList ops.toList 0 E [] S = some ((E', l'), S'))
 (hord : (!(uZ l') || sD (kZ ops.toList 0 .leaf) l') = true) (hrw : Rw S S'.next) :
 ∃ Es Ss bs vs As Ws, Tr tb F ops Es Ss bs vs As Ws ∧ Es 0 = E ∧ Ss 0 = S ∧ Es ops.size = E' ∧ Ss ops.size = S' := by
 obtain ⟨Es, Ss, bs, vs, As, Ws, R, q1, q2, q3, q4, q5, q6, q7, q8⟩ := CI f hf _ _ _ _ _ _ _ _ h
 have hN : ops.toList.length = ops.size := Array.length_toList
 rw [hN] at q3 q4 q7 q8
 rw [List.append_nil] at q5
 subst q5
 have hget : ∀ (i : Nat), ops.toList[i]? = ops[i]? := fun i => Array.getElem?_toList
 have hle : ops.toList.length ≤ 16777213 := by
  unfold pI at p9; rw [Bool.and_eq_true] at p9; exact Nat.le_of_ble_eq_true p9.1
 have hm : uj ops.toList (kZ ops.toList 0 .leaf) := Ga ops.toList 0 .leaf (fun k o hk => by rw [Nat.zero_add]; exact hk) (by omega) (fun i j hj => by simp [ir, T.get] at hj)
 have hpair : l'.Pairwise fun y x => clash x y = true → (ir (kZ ops.toList 0 .leaf) y.idx).testBit x.idx = true := by
  rw [Bool.or_eq_true] at hord
  rcases hord with ho | ho
  ·exact aA7 l' (by simpa using ho)
  ·exact aA1 l' ho
 have hsome : ∀ i, i < ops.size → ∃ o, ops[i]? = some o := fun i hi => ⟨ops[i], Array.getElem?_eq_getElem hi⟩
 have step : ∀ i o, ops[i]? = some o → ub tb F ops.toList o (Es i) (Es (i + 1)) (Ss i) (Ss (i + 1)) (bs i) (vs i) (As i) (Ws i) := fun i o ho => q6 i o (by rw [hget]; exact ho)
 have mono : ∀ i, i < ops.size → (Ss i).next ≤ (Ss (i + 1)).next := fun i hi => by
  obtain ⟨o, ho⟩ := hsome i hi
  have st := step i o ho
  cases hb : bs i with
  | true =>
   obtain ⟨g, S1, _, h1, _, h2, _⟩ := st.run hb
   have := (Good.eE (fq tb g).call (fq tb g).eN o (op tb.ng (Es i).tm)).mono _ _ _ h1
   rw [← h2]; exact this
  | false => have := st.no hb; omega
 have frame : ∀ i, i < ops.size → Rw (Ss i) (Ss ops.size).next →
  (∀ v, (Ws i).testBit v = true → (As i).testBit v = true) ∧ (∀ v, (Ws i).testBit v = true → v < (Ss (i + 1)).next) ∧ (∀ v, (Ws i).testBit v = false → (Ss (i + 1)).heap.get v = (Ss i).heap.get v) ∧
  (∀ o, ops[i]? = some o → bs i = true → ∀ T : St, T.next = (Ss i).next → (∀ v, (As i).testBit v = true → ¬ ((Ss i).next ≤ v ∧ v < (Ss (i + 1)).next) → T.heap.get v = (Ss i).heap.get v) →
  ∃ g T', g < F ∧ eE tb (call tb g) (eN tb g) o (op tb.ng (Es i).tm) T = some (vs i, T') ∧ T'.next = (Ss (i + 1)).next ∧ ∀ v, T'.heap.get v = if (Ws i).testBit v then (Ss (i + 1)).heap.get v else T.heap.get v) := fun i hi hw => by
  obtain ⟨o, ho⟩ := hsome i hi
  have st := step i o ho
  cases hb : bs i with
  | true =>
   obtain ⟨g, S1, hg, h1, h2, h3, h4, h5⟩ := st.run hb
   have hnx := lN mono (i + 1) ops.size (by omega) (Nat.le_refl _)
   obtain ⟨A, W, q⟩ := (Good.eE (fq tb g).call (fq tb g).eN o (op tb.ng (Es i).tm)).ok ⟨(Ss i).heap, (Ss i).next, 0, 0⟩ _ S1 (fun v a b => hw v a (by omega)) h1
   have hA : A = As i := by rw [← h4, q.acc]; exact (Nat.zero_or A).symm
   have hW : W = Ws i := by rw [← h5, q.wr]; exact (Nat.zero_or W).symm
   subst hA; subst hW
   refine ⟨q.sub, fun v hv => by rw [← h3]; exact q.lt v hv, fun v hv => by rw [← h2]; exact q.keep v hv, fun o' ho' _ T hT hag => ?_⟩
   rw [ho] at ho'; injection ho' with ho'; subst ho'
   obtain ⟨T', t1, t2, t3, t4, t5⟩ := q.fr T hT (fun v a b => hag v a (by rw [← h3]; exact b))
   exact ⟨g, T', hg, t1, t2.trans h3, fun v => by rw [← h2]; exact t5 v⟩
  | false =>
   obtain ⟨_, h2, h3, hA, hW⟩ := st.no hb
   exact ⟨fun v hv => by rw [hW] at hv; simp at hv, fun v hv => by rw [hW] at hv; simp at hv, fun v _ => by rw [h2], fun _ _ hb' => by cases hb'⟩
 have rQ : ∀ i, i ≤ ops.size → Rw (Ss i) (Ss ops.size).next := by
  intro i
  induction i with
  | zero => intro _; rw [q2, q4]; exact hrw
  | succ i ih =>
   intro hi v hv1 hv2
   have hwi := ih (by omega)
   obtain ⟨_, f2, f3, _⟩ := frame i (by omega) hwi
   cases hW : (Ws i).testBit v with
   | true => have := f2 v hW; omega
   | false => rw [f3 v hW]; exact hwi v (by have := mono i (by omega); omega) hv2
 have regf := regOk_ok p9
 refine ⟨Es, Ss, bs, vs, As, Ws, ⟨step, fun i o ho => (regf i o (by rw [hget]; exact ho)).1, fun i j oi oj hij hoi hoj => (regf i oi (by rw [hget]; exact hoi)).2 j oj hij (by rw [hget]; exact hoj), fun i j v hij hi hc => ?_, mono, fun i v hi => (frame i hi (rQ i (by omega))).1 v, fun i v hi => (frame i hi (rQ i (by omega))).2.2.1 v, fun i o ho => ?_⟩, q1, q2, q3, q4⟩
 ·have s1 := (frame i hi (rQ i (by omega))).1
  have s2 := (frame j (by omega) (rQ j (by omega))).1
  have nz : ∀ {n : Nat}, n.testBit v = true → n ≠ 0 := fun hn e => by rw [e] at hn; simp at hn
  have hAi : As i ≠ 0 := hc.elim (fun h => nz h.2) (fun h => nz (s1 v h.1))
  have hAj : As j ≠ 0 := hc.elim (fun h => nz (s2 v h.1)) (fun h => nz h.2)
  have hsub := q8 j i hij hi hAj hAi
  have hp := hpair.sublist hsub
  have := (List.pairwise_cons.1 hp).1 _ (List.mem_singleton.2 rfl) (clash_of (v := v) hc)
  simp only [Nat.zero_add] at this
  exact hm _ _ this
 ·have hi : i < ops.size := (Array.getElem?_eq_some_iff.1 ho).1
  exact (frame i hi (rQ i (by omega))).2.2.2 o ho
end Go.AX
end
section
namespace Go.AX
theorem op_ok' {C : Cx} {tb : Tab} {ρ : aY} {B : Fz} {H : T aS} {w : World} {E : Env} {a : Act} (hF : Fits C tb.ng B ρ H w) (x : Operand)
 (h : ∀ t v, x = .tmp t → E.tm.get t = some v → Rel C ρ v (a.tmps.getD t undef)) : Rel C ρ (op tb.ng E.tm x) (a.eval x) := by
 cases x with
 | tmp t =>
  simp only [op, Act.eval]
  cases hg : E.tm.get t with
  | none => simp [Rel]
  | some v => exact h t v rfl hg
 | const v => exact sE C ρ v
 | global g =>
  simp only [op, Act.eval]
  cases hc : Nat.blt g tb.ng with
  | false => simp [Rel]
  | true =>
   simp only [cond_true, Rel]
   exact ⟨_, hF.glob g (Nat.le_of_ble_eq_true hc), rfl⟩
 | func f => simp only [op, Act.eval, Rel, aJ]; exact ⟨[], [], rfl, rfl, rfl⟩
theorem wanted_ok' {C : Cx} {tb : Tab} (hyp : ∀ k r, (k, r) ∈ tb.hyp → aM C k r) {ρ : aY} {ops : Array Oper} {E : Env} {a : Act} {o : Oper} {b : Bool}
 (h : ∀ t v, gp (looks ops.toList o) t = true → E.tm.get t = some v → Rel C ρ v (a.tmps.getD t undef)) (hw : wanted tb.hyp ops.toList E o = some b) : Region.wanted o (yielded ops a.tmps) = b := by
 unfold wanted at hw
 unfold Region.wanted
 cases hg : o.guard with
 | none => rw [hg] at hw; simp only [Option.some.injEq] at hw; simpa using hw
 | some p =>
  obtain ⟨j, want⟩ := p
  rw [hg] at hw
  simp only [] at hw ⊢
  have hj : ops.toList[j]? = ops[j]? := by simp
  rw [hj] at hw
  unfold yielded
  cases ho : ops[j]? with
  | none => rw [ho] at hw; cases hw; rfl
  | some o' =>
   rw [ho] at hw
   simp only [Option.bind_some] at hw ⊢
   cases hd : o'.dst with
   | none => rw [hd] at hw; simp only [Option.some.injEq] at hw; subst hw; simp
   | some d =>
    rw [hd] at hw
    simp only [Option.bind_some] at hw ⊢
    cases hv : E.tm.get d with
    | none => rw [hv] at hw; cases hw
    | some x =>
     rw [hv] at hw
     have hr := h d x (looks_guard hg (hj.trans ho) hd) hv
     have hget : a.tmps.getD d undef = (a.tmps[d]?).getD undef := by simp [Array.getD_eq_getD_getElem?]
     rw [hget] at hr
     have sF : ∀ {y : AV}, (∀ v, Rel C ρ y v → ∀ q, v ≠ .bool q) → x = y → some false = some b → ((match a.tmps[d]? with | some (.bool q) => some q | _ => none) == some want) = b := by
      intro y hy e hb
      subst e
      injection hb with hb; subst hb
      have := hy _ hr
      cases ht : a.tmps[d]? with
      | none => rfl
      | some u =>
       rw [ht] at this
       cases u <;> first | rfl | exact absurd rfl (this _)
     cases x with
     | und => cases hw
     | b q =>
      simp only [Option.some.injEq] at hw
      simp only [Rel] at hr
      cases ht : a.tmps[d]? with
      | none => rw [ht] at hr; simp [undef] at hr
      | some u =>
       rw [ht] at hr
       simp only [Option.getD_some] at hr
       subst hr
       rw [← hw]; rfl
     | sl b' o'' n c r => exact sF (fun v hv q e => by subst e; cases r <;> simp [Rel] at hv) rfl hw
     | x i =>
      simp only [] at hw
      cases hh : hl tb.hyp (.ly (.x i) (.b true)) with
      | none => rw [hh] at hw; cases hw
      | some z =>
       rw [hh] at hw
       cases z <;> first | (cases hw; done) | skip
       rename_i r
       simp only [Option.some.injEq] at hw
       obtain ⟨b', e1, e2⟩ := hyp _ _ (tS hh)
       injection e1 with e1; subst e1
       obtain ⟨p, q', e3, e4, e5⟩ := e2 _ _ (.bool true) hr (by simp only [Rel])
       injection e4 with e4; subst e4
       have e6 : r = p := by rw [e5]; cases p <;> rfl
       subst e6
       cases ht : a.tmps[d]? with
       | none => rw [ht] at e3; simp [undef] at e3
       | some u =>
        rw [ht] at e3
        simp only [Option.getD_some] at e3
        subst e3
        rw [← hw]; rfl
     | _ => exact sF (fun v hv q e => by subst e; simp [Rel, typeHandle] at hv) rfl hw
theorem Fits.congr {C : Cx} {ng : Nat} {B : Fz} {ρ : aY} {H H' : T aS} {w : World} (h : Fits C ng B ρ H w) (hh : ∀ v, H'.get v = H.get v) : Fits C ng B ρ H' w :=
 h.sub fun v k hk => by rw [← hh]; exact hk
def jx (ops : Array Oper) (k t : Nat) : Bool := match ops[k]? with
 | some o => match o.dst with
  | some d => Nat.beq d t
  | none => false
 | none => false
theorem Ab {ops : Array Oper} {k t : Nat} (h : jx ops k t = true) : ∃ o, ops[k]? = some o ∧ o.dst = some t := by
 unfold jx at h
 cases ho : ops[k]? with
 | none => rw [ho] at h; cases h
 | some o =>
  rw [ho] at h
  simp only [] at h
  cases hd : o.dst with
  | none => rw [hd] at h; cases h
  | some d => rw [hd] at h; exact ⟨o, rfl, by rw [hd, Nat.eq_of_beq_eq_true h]⟩
theorem aB6 {ops : Array Oper} {k t : Nat} (h : jx ops k t = false) {o : Oper} (ho : ops[k]? = some o) : o.dst ≠ some t := fun e => by
 unfold jx at h
 rw [ho] at h; simp only [e, Nat.beq_refl] at h; cases h
theorem CF {E E' : Env} {d : Option Tmp} {x : AV} (h : E.put d x = some E') : E'.nt = E.nt ∧ (∀ t, d ≠ some t → E.nt ≤ 16777213 → E'.tm.get t = E.tm.get t) ∧ (∀ t, d = some t → E.nt ≤ 16777213 → E'.tm.get t = some x ∧ Nat.lt t E.nt) := by
 cases d with
 | none => simp only [Env.aK3, Option.some.injEq] at h; subst h; exact ⟨rfl, fun _ _ _ => rfl, fun t ht => by cases ht⟩
 | some d =>
  rw [Env.aK2] at h
  cases hc : Nat.blt d E.nt with
  | false => rw [hc] at h; cases h
  | true =>
   rw [hc] at h
   simp only [cond_true, Option.some.injEq] at h
   subst h
   have hlt : Nat.lt d E.nt := Nat.le_of_ble_eq_true hc
   refine ⟨rfl, fun t ht hn => ?_, fun t ht hn => ?_⟩
   ·have hd : Nat.le d 16777213 := Nat.le_trans (Nat.le_of_lt hlt) hn
    show (E.tm.set d x).get t = _
    rw [dY _ _ _ _ hd, if_neg (fun e => ht (by rw [e]))]
   ·injection ht with ht; subst ht
    have hd : Nat.le d 16777213 := Nat.le_trans (Nat.le_of_lt hlt) hn
    refine ⟨?_, hlt⟩
    show (E.tm.set d x).get d = _
    rw [dY _ _ _ _ hd, if_pos rfl]
section
variable {C : Cx} {tb : Tab} {B : Fz} {F : Nat} {ops : Array Oper} {Es : Nat → Env} {Ss : Nat → St} {bs : Nat → Bool} {vs : Nat → AV} {As Ws : Nat → Nat}
structure Inv (C : Cx) (tb : Tab) (B : Fz) (ops : Array Oper) (Es : Nat → Env) (Ss : Nat → St) (Ws : Nat → Nat) (ρ0 : aY) (a0 : Act) (w0 : World) (D : Nat → Bool) (ρ : aY) (H : T aS) (a : Act) (w : World) : Prop where
 fit : Fits C tb.ng B ρ H w
 hp : ∀ v, H.get v = lw D (fun k => (Ws k).testBit v) (fun k => (Ss k).heap.get v) ops.size
 tm : ∀ t x, lw D (fun k => jx ops k t) (fun k => (Es k).tm.get t) ops.size = some x → Rel C ρ x (a.tmps.getD t undef)
 free : ∀ j, j < ops.size → D j = false → Free ρ (Ss j).next (Ss (j + 1)).next
 ext : Ext ρ0 ρ (Ss 0).next (Ss ops.size).next
 sz : a.tmps.size = (Es 0).nt
 df : a.defers = a0.defers
 be : Below B w0 w
 cl : ∀ i o e, D i = true → ops.toList[i]? = some o → e ∈ o.after.toList → fW e = true → D e.on = true
theorem pS (h : Tr tb F ops Es Ss bs vs As Ws) : ∀ i, i ≤ ops.size → (Es i).nt = (Es 0).nt
 | 0, _ => rfl
 | i + 1, hi => by
  have ho : ops[i]? = some ops[i] := Array.getElem?_eq_getElem (by omega)
  rw [(CF (h.step i _ ho).put).1, pS h i (by omega)]
theorem aN4 (h : Tr tb F ops Es Ss bs vs As Ws) (hnt : (Es 0).nt ≤ 16777213) (t : Nat) : ∀ k, k < ops.size → jx ops k t = false → (Es (k + 1)).tm.get t = (Es k).tm.get t := fun k hk hd => by
 have ho : ops[k]? = some ops[k] := Array.getElem?_eq_getElem hk
 exact (CF (h.step k _ ho).put).2.1 t (aB6 hd ho) (by rw [pS h k (by omega)]; exact hnt)
theorem Inv.next (h : Tr tb F ops Es Ss bs vs As Ws) (hnt : (Es 0).nt ≤ 16777213) {ρ0 : aY} {a0 : Act} {w0 : World} {D : Nat → Bool} {ρ ρ' : aY} {H H' : T aS} {a : Act} {w w' : World} (I : Inv C tb B ops Es Ss Ws ρ0 a0 w0 D ρ H a w)
 {i : Nat} {o : Oper} (ho : ops[i]? = some o) (hi : D i = false) (hr : ∀ e ∈ o.after.toList, fW e = true → D e.on = true) {x : Value} (hx : Rel C ρ' (vs i) x) (hF : Fits C tb.ng B ρ' H' w')
 (hH : ∀ v, H'.get v = if (Ws i).testBit v then (Ss (i + 1)).heap.get v else H.get v) (he : Ext ρ ρ' (Ss i).next (Ss (i + 1)).next) (hb : Below B w w') :
 Inv C tb B ops Es Ss Ws ρ0 a0 w0 (add1 D i) ρ' H' (a.put o.dst x) w' := by
 have hiN : i < ops.size := (Array.getElem?_eq_some_iff.1 ho).1
 have hget : ∀ (i : Nat), ops.toList[i]? = ops[i]? := fun i => Array.getElem?_toList
 have hsub : Sub ρ ρ' := he.sub (I.free i hiN hi)
 have tX : ∀ j, fa ops.toList i j → D j = false := fun j ha => by
  cases hD : D j with
  | false => rfl
  | true => have := ha.closed I.cl hD; rw [hi] at this; cases this
 have st := h.step i o ho
 have pn := CF st.put
 have hnti : (Es i).nt ≤ 16777213 := by rw [pS h i (by omega)]; exact hnt
 refine ⟨hF, fun v => ?_, fun t y hy => ?_, fun j hj hD => ?_, fun v hv => ?_, ?_, ?_, I.be.trans hb, fun j o' e hD ho' hee hbb => ?_⟩
 ·rw [hH v]
  cases hW : (Ws i).testBit v with
  | true =>
   simp only [if_true]
   refine (aL3 (wr := fun k => (Ws k).testBit v) (X := fun k => (Ss k).heap.get v) hiN (fun j hj1 hj2 hD => ?_) hW).symm
   cases hWj : (Ws j).testBit v with
   | false => rfl
   | true =>
    have := tX j (h.clash j i v hj1 hj2 (.inr ⟨hWj, h.sub i v hiN hW⟩))
    rw [hD] at this; cases this
  | false =>
   simp only [Bool.false_eq_true, if_false]
   rw [I.hp v]
   exact (aW2 (wr := fun k => (Ws k).testBit v) (X := fun k => (Ss k).heap.get v) hW).symm
 ·cases hd : jx ops i t with
  | true =>
   obtain ⟨o2, ho2, hd2⟩ := Ab hd
   rw [ho] at ho2; injection ho2 with ho2; subst ho2
   rw [aL3 (wr := fun k => jx ops k t) (X := fun k => (Es k).tm.get t) hiN (fun j hj1 hj2 hD => by
    cases hdj : jx ops j t with
    | false => rfl
    | true =>
       obtain ⟨oj, hoj, hdj⟩ := Ab hdj
       rcases h.apart j i oj o hj1 hoj ho with ha | ha
       ·have := tX j ha; rw [hD] at this; cases this
       ·exact absurd hdj ((GZ ha).2.1 t hd2)) hd] at hy
   obtain ⟨e1, e2⟩ := pn.2.2 t hd2 hnti
   rw [e1] at hy; injection hy with hy; subst hy
   rw [pS h i (by omega)] at e2
   have : t < a.tmps.size := by rw [I.sz]; exact e2
   have e3 : (a.put o.dst x).tmps.getD t undef = x := by simp [Act.put, hd2, Array.getD, this]
   rw [e3]; exact hx
  | false =>
   rw [aW2 (wr := fun k => jx ops k t) (X := fun k => (Es k).tm.get t) hd] at hy
   have hne := aB6 hd ho
   have e3 : (a.put o.dst x).tmps.getD t undef = a.tmps.getD t undef := by
    cases hdd : o.dst with
    | none => rfl
    | some d =>
     have : d ≠ t := fun e => hne (by rw [hdd, e])
     simp [Act.put, Array.getD_eq_getD_getElem?, Array.getElem?_setIfInBounds_ne this]
   rw [e3]; exact Rel.mono hsub _ _ (I.tm t y hy)
 ·unfold add1 at hD
  rw [Bool.or_eq_false_iff] at hD
  have hne : j ≠ i := fun e => by rw [e, Nat.beq_refl] at hD; cases hD.1
  intro v hv1 hv2
  have hout : v < (Ss i).next ∨ (Ss (i + 1)).next ≤ v := by
   rcases Nat.lt_or_ge j i with hlt | hge
   ·exact .inl (Nat.lt_of_lt_of_le hv2 (lN h.mono (j + 1) i (by omega) (by omega)))
   ·exact .inr (Nat.le_trans (lN h.mono (i + 1) j (by omega) (by omega)) hv1)
  rw [he v hout]; exact I.free j hj hD.2 v hv1 hv2
 ·have m1 := lN h.mono 0 i (by omega) (by omega)
  have m2 := lN h.mono (i + 1) ops.size (by omega) (Nat.le_refl _)
  rw [he v (by omega)]; exact I.ext v hv
 ·rw [← I.sz]; cases o.dst <;> simp [Act.put]
 ·rw [CE]; exact I.df
 ·unfold add1 at hD ⊢
  rw [Bool.or_eq_true] at hD ⊢
  right
  rcases hD with hD | hD
  ·have := Nat.eq_of_beq_eq_true hD; subst this
   rw [hget, ho] at ho'; injection ho' with ho'; subst ho'
   exact hr e hee hbb
  ·exact I.cl j o' e hD ho' hee hbb
theorem Inv.finds (h : Tr tb F ops Es Ss bs vs As Ws) (hnt : (Es 0).nt ≤ 16777213) {ρ0 : aY} {a0 : Act} {w0 : World} {D : Nat → Bool} {ρ : aY} {H : T aS} {a : Act} {w : World} (I : Inv C tb B ops Es Ss Ws ρ0 a0 w0 D ρ H a w)
 {i : Nat} {o : Oper} (ho : ops[i]? = some o) (hi : D i = false) (hr : ∀ e ∈ o.after.toList, fW e = true → D e.on = true) :
 (∀ v, (As i).testBit v = true → ¬ ((Ss i).next ≤ v ∧ v < (Ss (i + 1)).next) → H.get v = (Ss i).heap.get v) ∧
 (∀ t v, gp (looks ops.toList o) t = true → (Es i).tm.get t = some v → Rel C ρ v (a.tmps.getD t undef)) := by
 have hiN : i < ops.size := (Array.getElem?_eq_some_iff.1 ho).1
 have hget : ∀ (i : Nat), ops.toList[i]? = ops[i]? := fun i => Array.getElem?_toList
 have tX : ∀ j, fa ops.toList i j → D j = false := fun j ha => by
  cases hD : D j with
  | false => rfl
  | true => have := ha.closed I.cl hD; rw [hi] at this; cases this
 have hup : ∀ j, fa ops.toList j i → D j = true := fun j ha => ha.ready I.cl fun o' e ho' he hb => by
  rw [hget, ho] at ho'; injection ho' with ho'; subst ho'; exact hr e he hb
 refine ⟨fun v hA _ => ?_, fun t v ht hv => ?_⟩
 ·rw [I.hp v]
  refine aW3 (X := fun k => (Ss k).heap.get v) hiN (fun k hk hW => h.keep k v hk hW) (fun j hj hW => hup j (h.clash i j v hj hiN (.inl ⟨hW, hA⟩))) (fun j hj1 hj2 hD => ?_) hi
  cases hWj : (Ws j).testBit v with
  | false => rfl
  | true =>
   have := tX j (h.clash j i v hj1 hj2 (.inr ⟨hWj, hA⟩))
   rw [hD] at this; cases this
 ·refine I.tm t v ?_
  rw [aW3 (X := fun k => (Es k).tm.get t) hiN (aN4 h hnt t) (fun j hj hd => ?_) (fun j hj1 hj2 hD => ?_) hi]
  ·exact hv
  ·obtain ⟨oj, hoj, hdj⟩ := Ab hd
   rcases h.apart i j o oj hj ho hoj with ha | ha
   ·exact hup j ha
   ·have := (GZ ha).1 t hdj; rw [ht] at this; cases this
  ·cases hdj : jx ops j t with
   | false => rfl
   | true =>
    obtain ⟨oj, hoj, hdj⟩ := Ab hdj
    rcases h.apart j i oj o hj1 hoj ho with ha | ha
    ·have := tX j ha; rw [hD] at this; cases this
    ·have := (GZ ha).2.2 t hdj; rw [ht] at this; cases this
theorem aM8 (e : Edge) : Region.binds .any e = fW e := by
 unfold Region.binds fW; cases e.ground <;> rfl
theorem any_ok (h : Tr tb F ops Es Ss bs vs As Ws) (hnt : (Es 0).nt ≤ 16777213) (hcall : ∀ g, g < F → qt C tb B (call tb g) (eN tb g)) (ht : nL C tb) (hm : ui C tb) (aW : tb.ng ≤ (Ss 0).next) {Φ : Fence} {ν : Nat} (hΦ : eB Φ)
 {ρ0 : aY} {a0 : Act} {w0 : World} {Q : Exit → Act → World → Prop}
 (hQ : ∀ ρ a w, eV C ρ (Es ops.size) a → a.defers = a0.defers → Fits C tb.ng B ρ (Ss ops.size).heap w → Ext ρ0 ρ (Ss 0).next (Ss ops.size).next → Below B w0 w → Q .normal a w) :
 ∀ (fuel : Nat) (listed : Array Bool) (ρ : aY) (H : T aS) (a : Act) (w : World), listed.size = ops.size → left (fun k => listed.getD k false) ops.size ≤ fuel →
  Inv C tb B ops Es Ss Ws ρ0 a0 w0 (fun k => listed.getD k false) ρ H a w → wpAnyIn Φ ν C.P .any ops Q fuel listed a w := by
 have done : ∀ (listed : Array Bool) (ρ : aY) (H : T aS) (a : Act) (w : World), (∀ j, j < ops.size → listed.getD j false = true) → Inv C tb B ops Es Ss Ws ρ0 a0 w0 (fun k => listed.getD k false) ρ H a w → Q .normal a w := fun listed ρ H a w hall I => by
  refine hQ ρ a w ⟨by rw [I.sz, pS h ops.size (Nat.le_refl _)], by rw [pS h ops.size (Nat.le_refl _)]; exact hnt, fun t x hx => I.tm t x ?_⟩ I.df (I.fit.congr fun v => ?_) I.ext I.be
  ·rw [lw_all (X := fun k => (Es k).tm.get t) (aN4 h hnt t) hall]; exact hx
  ·rw [I.hp v, lw_all (X := fun k => (Ss k).heap.get v) (fun k hk hW => h.keep k v hk hW) hall]
 have stuck : ∀ (listed : Array Bool), listed.size = ops.size → Region.ready .any ops listed = [] → ∀ j, j < ops.size → listed.getD j false = true := fun listed hs hn => by
  intro j
  induction j using Nat.strongRecOn with
  | _ j ih =>
   intro hj
   cases hD : listed.getD j false with
   | true => rfl
   | false =>
    have ho : ops[j]? = some ops[j] := Array.getElem?_eq_getElem hj
    have : j ∈ Region.ready .any ops listed := mem_ready.2 ⟨by
     have hjs : j < listed.size := by omega
     simp [Array.getD, hjs] at hD ⊢; exact hD, ops[j], ho, fun e he hb => by
      rw [aM8] at hb
      have := h.low j _ ho e (Array.mem_toList_iff.2 he) hb
      exact ih e.on this (by omega)⟩
    rw [hn] at this; cases this
 intro fuel
 induction fuel with
 | zero =>
  intro listed ρ H a w hs hl I
  have hall := aF7 ops.size (by omega : left (fun k => listed.getD k false) ops.size = 0)
  refine ⟨?_, done listed ρ H a w hall I⟩
  cases hrr : Region.ready .any ops listed with
  | nil => rfl
  | cons j l =>
   have hj : j ∈ Region.ready .any ops listed := by rw [hrr]; exact List.mem_cons_self ..
   obtain ⟨h1, o, ho, _⟩ := mem_ready.1 hj
   have hjN : j < ops.size := (Array.getElem?_eq_some_iff.1 ho).1
   have := hall j hjN
   have hjs : j < listed.size := by omega
   simp [Array.getD, hjs] at h1 this
   rw [h1] at this; cases this
 | succ fuel ih =>
  intro listed ρ H a w hs hl I
  refine ⟨fun hn => done listed ρ H a w (stuck listed hs hn) I, fun i hi => ?_⟩
  obtain ⟨h1, o, ho, hpre⟩ := mem_ready.1 hi
  have hiN : i < ops.size := (Array.getElem?_eq_some_iff.1 ho).1
  have his : i < listed.size := by omega
  have hD : listed.getD i false = false := by simp [Array.getD, his] at h1 ⊢; exact h1
  have hr : ∀ e ∈ o.after.toList, fW e = true → listed.getD e.on false = true := fun e he hb => hpre e (Array.mem_toList_iff.1 he) (by rw [aM8]; exact hb)
  have hadd : (fun k => (listed.setIfInBounds i true).getD k false) = add1 (fun k => listed.getD k false) i := by
   funext k
   unfold add1
   by_cases e : k = i
   ·subst e; simp [Array.getD, his]
   ·have e' : Nat.beq k i = false := by
     cases hb : Nat.beq k i with
     | false => rfl
     | true => exact absurd (Nat.eq_of_beq_eq_true hb) e
    rw [e', Bool.false_or, getD_set_ne false (fun e'' => e e''.symm)]
  have hleft : left (fun k => (listed.setIfInBounds i true).getD k false) ops.size ≤ fuel := by
   have := aM0 (D := fun k => listed.getD k false) hD ops.size
   rw [if_pos hiN] at this
   rw [hadd]; omega
  have go : ∀ ρ' H' x w', Inv C tb B ops Es Ss Ws ρ0 a0 w0 (add1 (fun k => listed.getD k false) i) ρ' H' (a.put o.dst x) w' → wpAnyIn Φ ν C.P .any ops Q fuel (listed.setIfInBounds i true) (a.put o.dst x) w' := fun ρ' H' x w' I' =>
   ih _ ρ' H' _ w' (by simp [hs]) hleft (by rw [hadd]; exact I')
  obtain ⟨f1, f2⟩ := I.finds h hnt ho hD hr
  have st := h.step i o ho
  have hwant := wanted_ok' ht.hyp f2 st.want
  unfold wpOpIn
  simp only [ho]
  rw [hwant]
  cases hb : bs i with
  | true =>
   simp only [if_true]
   obtain ⟨g, T', hg, t1, t2, t3⟩ := h.fr i o ho hb ⟨H, (Ss i).next, 0, 0⟩ rfl f1
   refine aK5 (S := ⟨H, (Ss i).next, 0, 0⟩) (S' := T') (ρ := ρ) (hcall g hg) ht hm t1 I.fit (Nat.le_trans aW (lN h.mono 0 i (by omega) (by omega))) (fun x hx => op_ok' I.fit x fun t v e hv => ?_) (by rw [t2]; exact I.free i hiN hD) (fun ρ' x w' r1 r2 r3 r4 => go ρ' T'.heap x w' ?_) hΦ
   ·subst e; exact f2 t v (looks_op hx) hv
   ·exact I.next h hnt ho hD hr r1 r2 t3 (by rw [← t2]; exact r3) r4
  | false =>
   simp only [Bool.false_eq_true, if_false]
   obtain ⟨n1, n2, n3, n4, n5⟩ := st.no hb
   refine ⟨fun f _ => hΦ.fn f, go ρ H undef w (I.next h hnt ho hD hr ?_ I.fit (fun v => by rw [n5]; simp) (Ext.refl _ _ _) (Below.refl _ _))⟩
   rw [n1]; simp only [Rel, aJ]; exact ⟨[], rfl, rfl⟩
end
end Go.AX
end
section
namespace Go.AX
theorem aG6 : ∀ (l : List AV) (n : Nat) (t : T AV) (m : Nat), n + l.length ≤ 16777214 → (oc l n t).get m = if n ≤ m ∧ m < n + l.length then l[m - n]? else t.get m
 | [], n, t, m, _ => by simp only [oc, List.length_nil]; rw [if_neg (by omega)]
 | v :: l, n, t, m, h => by
  simp only [List.length_cons] at h
  unfold oc
  rw [aG6 l (Nat.succ n) (t.set n v) m (by simp only [Nat.succ_eq_add_one]; omega), dY _ _ _ _ (by omega)]
  simp only [Nat.succ_eq_add_one, List.length_cons]
  by_cases h1 : m = n
  ·subst h1
   rw [if_neg (by omega), if_pos rfl, if_pos (by omega)]; simp
  ·by_cases h2 : n + 1 ≤ m ∧ m < n + 1 + l.length
   ·rw [if_pos h2, if_pos (by omega)]
    have : m - n = (m - (n + 1)) + 1 := by omega
    rw [this]; simp
   ·rw [if_neg h2, if_neg h1, if_neg (by omega)]
section
variable {C : Cx} {tb : Tab} {B : Fz}
theorem env0_ok {ρ : aY} {l : List AV} {args : List Value} {nt : Nat} (h : aJ C ρ l args) (h1 : l.length ≤ nt) (h2 : nt ≤ 16777213) :
 eV C ρ ⟨oc l 0 .leaf, nt⟩ { tmps := (⟨args⟩ : Array Value) ++ Array.replicate (nt - (⟨args⟩ : Array Value).size) undef, defers := [] } := by
 have hlen := h.len
 refine ⟨?_, h2, fun t x ht => ?_⟩
 ·have : (⟨args⟩ : Array Value).size = args.length := rfl
  simp only [Array.size_append, Array.size_replicate]; rw [this]; omega
 ·simp only [] at ht
  rw [aG6 l 0 .leaf t (by omega)] at ht
  split at ht
  ·rename_i hr
   rw [Nat.sub_zero] at ht
   obtain ⟨y, hy, hxy⟩ := h.get ht
   have hlt : t < args.length := by
    rcases Nat.lt_or_ge t args.length with h | h
    ·exact h
    ·rw [List.getElem?_eq_none h] at hy; cases hy
   have : ((⟨args⟩ : Array Value) ++ Array.replicate (nt - (⟨args⟩ : Array Value).size) undef).getD t undef = y := by
    rw [Array.getD_eq_getD_getElem?, Array.getElem?_append_left (by exact hlt), ← Array.getElem?_toList]
    show (args[t]?).getD undef = y
    rw [hy]; rfl
   rw [this]; exact hxy
  ·simp [T.dH] at ht
theorem aW7 (ht : TyOk C.P tb) {ρ : aY} {w : World} {S S' : St} (hF : Fits C tb.ng B ρ S.heap w) {t : Nat} {x v : AV} {xv : Value} (hx : Rel C ρ x xv) (h : load tb t x S = some (v, S')) :
 S'.heap = S.heap ∧ S'.next = S.next ∧ ∃ y, (do loadVar t (← asAddr xv) : Sem Value).run C.P w = .ok y w ∧ Rel C ρ v y := by
 obtain ⟨h1, h2, y, h3, h4⟩ := Cq ht hF hx h
 refine ⟨h1, h2, y, ?_, h4⟩
 cases x <;> simp only [load] at h <;> try exact (aU h).elim
 simp only [Rel] at hx
 obtain ⟨r, hr, rfl⟩ := hx
 exact h3
theorem CA (ht : TyOk C.P tb) {ρ : aY} {w : World} {E : Env} {a : Act} (hE : eV C ρ E a) : ∀ (l : List ResultVar) {S S' : St} {vs : List AV}, Fits C tb.ng B ρ S.heap w → er tb l E S = some (vs, S') →
 S'.heap = S.heap ∧ S'.next = S.next ∧ ∃ ys, (l.mapM (fun | .tmp t => pure (a.tmps.getD t undef) | .cell c t => do loadVar t (← asAddr (a.tmps.getD c undef)) : ResultVar → Sem Value)).run C.P w = .ok ys w ∧ aJ C ρ vs ys
 | [], S, S', vs, hF, h => by
  unfold er at h
  obtain ⟨rfl, rfl⟩ := aX h
  exact ⟨rfl, rfl, [], rfl, by simp [aJ]⟩
 | .tmp t :: l, S, S', vs, hF, h => by
  unfold er at h
  obtain ⟨us, S1, h1, h2⟩ := bZ h
  obtain ⟨rfl, rfl⟩ := aX h2
  obtain ⟨e1, e2, ys, e3, e4⟩ := CA ht hE l hF h1
  refine ⟨e1, e2, a.tmps.getD t undef :: ys, ?_, ?_⟩
  ·rw [List.mapM_cons, Sem.run_bind]
   simp only [Sem.run_pure, Result.andThen_ok]
   rw [Sem.run_bind, e3]; rfl
  ·simp only [aJ]
   have := n6 hF hE (.tmp t)
   refine ⟨_, _, rfl, ?_, e4⟩
   have e : a.eval (.tmp t) = a.tmps.getD t undef := by simp [Act.eval, Array.getD_eq_getD_getElem?]
   rw [← e]; exact this
 | .cell c t :: l, S, S', vs, hF, h => by
  unfold er at h
  obtain ⟨u, S1, h1, h2⟩ := bZ h
  obtain ⟨us, S2, h3, h4⟩ := bZ h2
  obtain ⟨rfl, rfl⟩ := aX h4
  have hop := n6 hF hE (.tmp c)
  have e : a.eval (.tmp c) = a.tmps.getD c undef := by simp [Act.eval, Array.getD_eq_getD_getElem?]
  rw [e] at hop
  obtain ⟨g1, g2, y, g3, g4⟩ := aW7 ht hF hop h1
  obtain ⟨e1, e2, ys, e3, e4⟩ := CA ht hE l (by rw [g1]; exact hF) h3
  refine ⟨e1.trans g1, e2.trans g2, y :: ys, ?_, ?_⟩
  ·rw [List.mapM_cons, Sem.run_bind]
   simp only []
   rw [g3]
   simp only [Result.andThen_ok]
   rw [Sem.run_bind, e3]; rfl
  ·simp only [aJ]; exact ⟨_, _, rfl, g4, e4⟩
theorem results_ok (ht : TyOk C.P tb) {ρ : aY} {w : World} {E : Env} {a : Act} (hE : eV C ρ E a) {fn : Func} {S S' : St} {v : AV} (hF : Fits C tb.ng B ρ S.heap w) (h : results tb fn.results.toList E S = some (v, S')) :
 S'.heap = S.heap ∧ S'.next = S.next ∧ ∃ y, (Go.results fn a.tmps).run C.P w = .ok y w ∧ Rel C ρ v y := by
 have hm : ∀ l, fn.results.toList = l → ∀ ys, (l.mapM (fun | .tmp t => pure (a.tmps.getD t undef) | .cell c t => do loadVar t (← asAddr (a.tmps.getD c undef)) : ResultVar → Sem Value)).run C.P w = .ok ys w →
  (Go.results fn a.tmps).run C.P w = .ok (if h : ys.length = 1 then ys[0] else .tuple ⟨ys⟩) w := by
  intro l hl ys hys
  have hfn : fn.results = l.toArray := by rw [← hl]
  unfold Go.results
  rw [hfn, List.mapM_toArray, Sem.run_bind]
  have : (List.toArray <$> (l.mapM (fun | .tmp t => pure (a.tmps.getD t undef) | .cell c t => do loadVar t (← asAddr (a.tmps.getD c undef)) : ResultVar → Sem Value))).run C.P w = .ok ys.toArray w := by
   rw [map_eq_pure_bind, Sem.run_bind, hys]; rfl
  refine (congrArg (fun r => Result.andThen r _) this).trans ?_
  rfl
 have evt : ∀ t, a.eval (.tmp t) = a.tmps.getD t undef := fun t => by simp [Act.eval, Array.getD_eq_getD_getElem?]
 generalize hL : fn.results.toList = L at h
 unfold results at h
 split at h
 ·rename_i t
  obtain ⟨rfl, rfl⟩ := aX h
  refine ⟨rfl, rfl, a.tmps.getD t undef, hm _ hL [a.tmps.getD t undef] rfl, ?_⟩
  rw [← evt]; exact n6 hF hE (.tmp t)
 ·rename_i c t
  have hop := n6 hF hE (.tmp c)
  rw [evt] at hop
  obtain ⟨g1, g2, y, g3, g4⟩ := aW7 ht hF hop h
  refine ⟨g1, g2, y, hm _ hL [y] ?_, g4⟩
  rw [List.mapM_cons, Sem.run_bind]
  simp only []
  rw [g3]; rfl
 ·rename_i hl1 hl2
  obtain ⟨us, S1, h1, h2⟩ := bZ h
  obtain ⟨rfl, rfl⟩ := aX h2
  obtain ⟨e1, e2, ys, e3, e4⟩ := CA ht hE _ hF h1
  have hlen : ys.length = L.length := by
   have h1' : ∀ (l : List ResultVar) (S S' : St) (vs : List AV), er tb l E S = some (vs, S') → vs.length = l.length := by
    intro l
    induction l with
    | nil => intro S S' vs h; unfold er at h; obtain ⟨rfl, _⟩ := aX h; rfl
    | cons x l ih =>
     intro S S' vs h
     cases x with
     | tmp t =>
      unfold er at h
      obtain ⟨us, S1, h1, h2⟩ := bZ h
      obtain ⟨rfl, rfl⟩ := aX h2
      simp [ih _ _ _ h1]
     | cell c t =>
      unfold er at h
      obtain ⟨u, S1, h1, h2⟩ := bZ h
      obtain ⟨us, S2, h3, h4⟩ := bZ h2
      obtain ⟨rfl, rfl⟩ := aX h4
      simp [ih _ _ _ h3]
   rw [e4.len, h1' _ _ _ _ h1]
  refine ⟨e1, e2, .tuple ⟨ys⟩, ?_, by simp only [Rel]; exact ⟨ys, rfl, e4⟩⟩
  rw [hm _ hL ys e3, dif_neg]
  intro hone
  rw [hlen] at hone
  match L, hone, hl1, hl2 with
  | [.tmp t], _, hl1, _ => exact hl1 t rfl
  | [.cell c t], _, _, hl2 => exact hl2 c t rfl
end
end Go.AX
end
section
namespace Go.AX
def Gd (C : Cx) (g : Nat) (v : AV) : Prop := ∀ w : World, C.inv w → C.br ≤ w.heap.size → Calls C.P g #[] w fun e w' => ∃ x, e = .returned x ∧ Rel C (fun _ => none) v x ∧ Below (Fz.lt w.heap.size) w w'
def dP (C : Cx) (tb : Tab) (e : Nat) (fn : Func) : Prop := Extern.findNext fn = none ∧ ∃ r, Extern.find fn = some r ∧
 ∀ (B : Fz) (l : List AV) (S : St) (v : AV) (S' : St) (ρ : aY) (w : World) (args : List Value), ext tb e l S = some (v, S') → Fits C tb.ng B ρ S.heap w → tb.ng ≤ S.next → aJ C ρ l args → Free ρ S.next S'.next →
  ∃ ρ' x w', (r ⟨args⟩).run C.P w = .ok x w' ∧ Rel C ρ' v x ∧ Fits C tb.ng B ρ' S'.heap w' ∧ Ext ρ ρ' S.next S'.next ∧ Below B w w'
def oQ : Ex → Exit
 | .normal => .normal
 | .exit id => .exit id
 | .goto l => .goto l
 | .ret => .ret
def mkD (D : Nat) : Deferred := { target := .collected D, args := #[] }
def Marks (ms : List Nat) (w w' : World) : Prop := ms.Nodup ∧ ∀ D ∈ ms, w.heap.size ≤ D ∧ w'.heap[D]? = some (.deferred (some []))
def iT (a a' : Act) (w w' : World) : Prop := ∃ ms, a'.defers = ms.map mkD ++ a.defers ∧ Marks ms w w'
theorem iT.of_eq {a a' : Act} {w w' : World} (h : a'.defers = a.defers) : iT a a' w w' := ⟨[], h, List.nodup_nil, fun D hD => by cases hD⟩
theorem tW {w : World} {D : Nat} {o : Obj} (h : w.heap[D]? = some o) : D < w.heap.size := by
 rcases Nat.lt_or_ge D w.heap.size with h' | h'
 ·exact h'
 ·rw [Array.getElem?_eq_none h'] at h; cases h
theorem iT.trans {B : Fz} {a b c : Act} {w w1 w2 : World} (h : iT a b w w1) (k : iT b c w1 w2) (h1 : Below B w w1) (h2 : Below B w1 w2) : iT a c w w2 := by
 obtain ⟨ms, e1, n1, m1⟩ := h
 obtain ⟨ns, e2, n2, m2⟩ := k
 refine ⟨ns ++ ms, by rw [e2, e1, List.map_append, List.append_assoc], ?_, fun D hD => ?_⟩
 ·rw [List.nodup_append]
  refine ⟨n2, n1, fun x hx y hy e => ?_⟩
  subst e
  have := tW (m1 x hy).2
  have := (m2 x hx).1
  omega
 ·rcases List.mem_append.1 hD with hD | hD
  ·exact ⟨Nat.le_trans h1.size (m2 D hD).1, (m2 D hD).2⟩
  ·exact ⟨(m1 D hD).1, h2.walk D _ (m1 D hD).2 rfl⟩
theorem iT.same {a b c : Act} {w w1 w2 : World} (h : a.defers = b.defers) (k : iT b c w1 w2) (h1 : w.heap.size ≤ w1.heap.size) : iT a c w w2 := by
 obtain ⟨ns, e2, n2, m2⟩ := k
 exact ⟨ns, by rw [h]; exact e2, n2, fun D hD => ⟨Nat.le_trans h1 (m2 D hD).1, (m2 D hD).2⟩⟩
section
variable {Φ : Fence}
def fZ (Φ : Fence) (c : Code) : Prop := codeOk c = true ∧ (Φ.round = none ∨ flat c = true)
theorem fZ.seq {x y : Code} (h : fZ Φ (.seq x y)) : fZ Φ x ∧ fZ Φ y := by
 obtain ⟨h1, h2⟩ := h
 simp only [codeOk, flat, Bool.and_eq_true] at h1 h2
 exact ⟨⟨h1.1, h2.imp id And.left⟩, ⟨h1.2, h2.imp id And.right⟩⟩
theorem fZ.cond {q : Operand} {x y : Code} (h : fZ Φ (.cond q x y)) : fZ Φ x ∧ fZ Φ y := by
 obtain ⟨h1, h2⟩ := h
 simp only [codeOk, flat, Bool.and_eq_true] at h1 h2
 exact ⟨⟨h1.1, h2.imp id And.left⟩, ⟨h1.2, h2.imp id And.right⟩⟩
theorem fZ.block {id : Nat} {x : Code} (h : fZ Φ (.block id x)) : fZ Φ x := h
theorem fZ.loop {x : Code} (h : fZ Φ (.loop x)) : fZ Φ x := h
end
def fX (F : Fence) (n : Nat) (P : Program) (c : Code) (Q : Exit → Act → World → Prop) (a : Act) (w : World) : Prop :=
 ∀ (b : Frame) (k : List Item) (cs : List Frame), b.roundOf = F.round → F.fn b.fn → F.room (cs.length + 1 + n) →
  ∃ e a' w', Q e a' w' ∧ ArrivesIn (Machine.fenced P F) P (lone (b.atR a (.code c :: .inLoop c :: k)) cs w) b k cs e a' w'
theorem fX.wp {F : Fence} {n : Nat} {P : Program} {c : Code} {Q : Exit → Act → World → Prop} {a : Act} {w : World} (h : fX F n P c Q a w) : (Code.loop c).wpIn F n P Q a w := by
 intro b k cs hro hb hr
 obtain ⟨e, a', w', hq, harr⟩ := h b k cs hro hb hr
 exact ⟨e, a', w', hq, .of_steps (.one (fenced_calm hb hr rfl) stepR_loop) harr⟩
theorem fX.step {F : Fence} {n : Nat} {P : Program} {c : Code} {Q : Exit → Act → World → Prop} {a : Act} {w : World} (h : c.wpIn F n P (Exit.then (fX F n P c Q) Q) a w) : fX F n P c Q a w := by
 intro b k cs hro hb hr
 obtain ⟨e, a₁, w₁, hq, harr⟩ := h b (.inLoop c :: k) cs hro hb hr
 cases e with
 | normal =>
  obtain ⟨e₂, a₂, w₂, hq₂, harr₂⟩ := hq b k cs hro hb hr
  exact ⟨e₂, a₂, w₂, hq₂, .of_steps (StepsIn.trans harr (.one (fenced_calm hb hr rfl) stepR_inLoop)) harr₂⟩
 | exit id => exact ⟨_, a₁, w₁, hq, .pass (x := .inLoop c) rfl (fun _ _ => .inl (by simp)) harr⟩
 | goto l => exact ⟨_, a₁, w₁, hq, .pass (x := .inLoop c) rfl (fun _ _ => .inl (by simp)) harr⟩
 | ret => exact ⟨_, a₁, w₁, hq, .pass (x := .inLoop c) rfl (fun _ _ => .inl (by simp)) harr⟩
 | panic ch => exact ⟨_, a₁, w₁, hq, .pass (x := .inLoop c) rfl (fun _ _ => .inl (by simp)) harr⟩
 | outgrown => exact ⟨_, a₁, w₁, hq, .pass (x := .inLoop c) rfl (fun _ _ => .inl (by simp)) harr⟩
def Gh (C : Cx) (body : Code) (l : LF) : Prop :=
 ∀ (Φ : Fence) (ν : Nat) (Q : Exit → Act → World → Prop) (a : Act) (w : World), eB Φ → fZ Φ (.loop body) → C.inv w → C.br ≤ w.heap.size → a.tmps.size = l.nt → l.nt ≤ 16777213 →
  (∀ s x, (s, x) ∈ l.pre → Rel C (fun _ => none) x (a.tmps.getD s undef)) →
  (∀ a' w', a'.tmps.size = a.tmps.size → (∀ s, s ∈ l.keep → a'.tmps.getD s undef = a.tmps.getD s undef) → (∀ s x, (s, x) ∈ l.post → Rel C (fun _ => none) x (a'.tmps.getD s undef)) → iT a a' w w' → Below (Fz.lt w.heap.size) w w' → Q (oQ l.ex) a' w') →
  fX Φ ν C.P body Q a w
def qo (C : Cx) (body : Code) (l : LF) (h : LH) : Prop :=
 ∀ (Φ : Fence) (ν : Nat) (Q : Exit → Act → World → Prop) (a : Act) (w : World) (B : Fz) (ρ : aY) (H : T aS), eB Φ → fZ Φ (.loop body) → Fits C h.ng B ρ H w → h.ng ≤ h.n0 → nM h → (∀ v k, (v, k) ∈ h.pre → H.get v = some k) → Free ρ h.n0 h.n1 →
  a.tmps.size = l.nt → l.nt ≤ 16777213 → (∀ s x, (s, x) ∈ l.pre → Rel C ρ x (a.tmps.getD s undef)) →
  (∀ ρ' a' w', a'.tmps.size = a.tmps.size → (∀ s, s ∈ l.keep → a'.tmps.getD s undef = a.tmps.getD s undef) → (∀ s x, (s, x) ∈ l.post → Rel C ρ' x (a'.tmps.getD s undef)) → iT a a' w w' → Fits C h.ng B ρ' (ee h H) w' → Ext ρ ρ' h.n0 h.n1 → Below B w w' → Q (oQ l.ex) a' w') →
  fX Φ ν C.P body Q a w
def dw (C : Cx) (body : Code) (l : LF) : Prop := match l.hp with
 | none => Gh C body l
 | some h => qo C body l h
theorem dw.n {C : Cx} {body : Code} {l : LF} (hn : l.hp = none) (h : Gh C body l) : dw C body l := by unfold dw; rw [hn]; exact h
theorem dw.h {C : Cx} {body : Code} {l : LF} {x : LH} (hn : l.hp = some x) (h : qo C body l x) : dw C body l := by unfold dw; rw [hn]; exact h
theorem dw.toN {C : Cx} {body : Code} {l : LF} (h : dw C body l) (hn : l.hp = none) : Gh C body l := by unfold dw at h; rw [hn] at h; exact h
theorem dw.toH {C : Cx} {body : Code} {l : LF} {x : LH} (h : dw C body l) (hn : l.hp = some x) : qo C body l x := by unfold dw at h; rw [hn] at h; exact h
theorem eqCe_eq {a b : Cells} (h : eqCe a b = true) : a = b := by
 cases a <;> cases b <;> simp only [eqCe] at h <;> first | (cases h; done) | skip
 ·rw [jM (oR 8) h]
 ·simp only [Bool.and_eq_true] at h; rw [Nat.eq_of_beq_eq_true h.1, Nat.eq_of_beq_eq_true h.2]
theorem eqX_eq {a b : Ex} (h : eqX a b = true) : a = b := by
 cases a <;> cases b <;> simp only [eqX] at h <;> first | (cases h; done) | rfl | (rw [Nat.eq_of_beq_eq_true h])
theorem aX6 : ∀ {a b : List (Nat × AV)}, AR a b = true → a = b
 | [], [], _ => rfl
 | [], _ :: _, h => by cases h
 | _ :: _, [], h => by cases h
 | (s, a) :: l, (u, b) :: m, h => by
  simp only [AR, Bool.and_eq_true] at h
  rw [Nat.eq_of_beq_eq_true h.1, oR 8 a b h.2.1, aX6 h.2.2]
theorem eqE_eq {a b : aS} (h : eqE a b = true) : a = b := by
 cases a <;> cases b <;> simp only [eqE] at h <;> first | (cases h; done) | skip
 ·rename_i k j
  obtain ⟨k1, k2, k3, k4, k5, k6, k7⟩ := k
  obtain ⟨j1, j2, j3, j4, j5, j6, j7⟩ := j
  simp only [Bool.and_eq_true, beq_iff_eq] at h
  rw [Nat.eq_of_beq_eq_true h.1.1.1.1.1.1, eqCe_eq h.1.1.1.1.1.2, Nat.eq_of_beq_eq_true h.1.1.1.1.2, Nat.eq_of_beq_eq_true h.1.1.1.2, Nat.eq_of_beq_eq_true h.1.1.2, h.1.2, h.2]
 ·simp only [Bool.and_eq_true, beq_iff_eq] at h; rw [Nat.eq_of_beq_eq_true h.1, Nat.eq_of_beq_eq_true h.2.1, Nat.eq_of_beq_eq_true h.2.2.1, h.2.2.2]
 ·simp only [Bool.and_eq_true] at h; rw [Nat.eq_of_beq_eq_true h.1, Nat.eq_of_beq_eq_true h.2]
 ·simp only [Bool.and_eq_true] at h
  obtain ⟨h1, h2, h3, h4, h5⟩ := h
  rw [Nat.eq_of_beq_eq_true h1, aX6 h2, Nat.eq_of_beq_eq_true h3, Nat.eq_of_beq_eq_true h4, eqX_eq h5]
theorem yU {H : T aS} : ∀ {l : List (Nat × aS)}, jZ H l = true → ∀ v k, (v, k) ∈ l → H.get v = some k
 | [], _, v, k, h => by cases h
 | p :: r, h, v, k, hm => by
  simp only [jZ, Bool.and_eq_true] at h
  rcases List.mem_cons.1 hm with e | hm
  ·subst e
   have h1 := h.1
   simp only [] at h1
   cases hg : H.get v with
   | none => rw [hg] at h1; cases h1
   | some a => rw [hg] at h1; rw [eqE_eq h1]
  ·exact yU h.2 v k hm
def bV (C : Cx) (L : List LF) : Code → Prop
 | .seq a b => bV C L a ∧ bV C L b
 | .cond _ a b => bV C L a ∧ bV C L b
 | .block _ b => bV C L b
 | .loop b => (∀ l, l ∈ L → keyOf b = some l.key → dw C b l) ∧ bV C L b
 | .rangeFunc _ ps a b => ∀ l, l ∈ L → mn l = true → rfP C.P l.nt = some (ps.toList, a, b)
 | _ => True
theorem bV.nil {C : Cx} : ∀ c : Code, bV C [] c
 | .seq a b => ⟨bV.nil a, bV.nil b⟩
 | .cond _ a b => ⟨bV.nil a, bV.nil b⟩
 | .block _ b => bV.nil b
 | .loop b => ⟨fun l hl => (by cases hl), bV.nil b⟩
 | .skip => trivial
 | .region .. => trivial
 | .rangeFunc .. => fun l hl => (by cases hl)
 | .exit _ => trivial
 | .scope _ => trivial
 | .label _ => trivial
 | .goto _ => trivial
 | .ret => trivial
 | .refuse _ => trivial
theorem Gb {p : AV → Bool} : ∀ {l : List AV}, nJ p l = true → ∀ a, a ∈ l → p a = true
 | [], _, a, h => by cases h
 | b :: l, h, a, ha => by
  simp only [nJ, Bool.and_eq_true] at h
  rcases List.mem_cons.1 ha with rfl | ha
  ·exact h.1
  ·exact Gb h.2 a ha
theorem aJ.move {C : Cx} {ρ ρ' : aY} : ∀ (l : List AV) (vs : List Value), (∀ a, a ∈ l → ∀ v, Rel C ρ a v → Rel C ρ' a v) → aJ C ρ l vs → aJ C ρ' l vs
 | [], vs, _, h => h
 | a :: l, vs, hm, h => by
  simp only [aJ] at h ⊢
  obtain ⟨v, vt, rfl, h1, h2⟩ := h
  exact ⟨v, vt, rfl, hm a (List.mem_cons_self ..) v h1, aJ.move l vt (fun b hb => hm b (List.mem_cons_of_mem _ hb)) h2⟩
theorem yC {C : Cx} {ρ ρ' : aY} : ∀ (d : Nat) (a : AV), iE d a = true → ∀ v, Rel C ρ a v → Rel C ρ' a v
 | 0, a, h, v, hr => by cases h
 | d + 1, a, h, v, hr => by
  have ih := yC (C := C) (ρ := ρ) (ρ' := ρ') d
  cases a <;> simp only [iE] at h <;> try (cases h; done)
  all_goals try (simpa only [Rel] using hr)
  ·simp only [Rel] at hr ⊢
   obtain ⟨x, rfl, h1⟩ := hr
   exact ⟨x, rfl, ih _ h x h1⟩
  ·simp only [Rel] at hr ⊢
   obtain ⟨cs, rfl, h1⟩ := hr
   exact ⟨cs, rfl, aJ.move _ _ (fun a ha => ih a (Gb h a ha)) h1⟩
  ·simp only [Rel] at hr ⊢
   obtain ⟨cs, rfl, h1⟩ := hr
   exact ⟨cs, rfl, aJ.move _ _ (fun a ha => ih a (Gb h a ha)) h1⟩
theorem Cu {E : Env} : ∀ {l : List (Nat × AV)}, yq E l = true → ∀ s x, (s, x) ∈ l → E.tm.get s = some x ∧ iE 8 x = true
 | [], _, s, x, h => by cases h
 | p :: r, h, s, x, hm => by
  simp only [yq, Bool.and_eq_true] at h
  rcases List.mem_cons.1 hm with e | hm
  ·subst e
   refine ⟨?_, h.1.2⟩
   have h1 := h.1.1
   simp only [] at h1
   cases hg : E.tm.get s with
   | none => rw [hg] at h1; cases h1
   | some a => rw [hg] at h1; rw [jV 8 a x h1]
  ·exact Cu h.2 s x hm
theorem aB2 {E : Env} : ∀ {l : List (Nat × AV)}, yp E l = true → ∀ s x, (s, x) ∈ l → E.tm.get s = some x
 | [], _, s, x, h => by cases h
 | p :: r, h, s, x, hm => by
  simp only [yp, Bool.and_eq_true] at h
  rcases List.mem_cons.1 hm with e | hm
  ·subst e
   have h1 := h.1
   simp only [] at h1
   cases hg : E.tm.get s with
   | none => rw [hg] at h1; cases h1
   | some a => rw [hg] at h1; rw [oR 8 a x h1]
  ·exact aB2 h.2 s x hm
theorem oF : ∀ {l : List (Nat × AV)}, dX l = true → ∀ p, p ∈ l → p.1 ≤ 16777213
 | [], _, p, h => by cases h
 | q :: r, h, p, hm => by
  simp only [dX, Bool.and_eq_true] at h
  rcases List.mem_cons.1 hm with rfl | hm
  ·exact Nat.le_of_ble_eq_true h.1
  ·exact oF h.2 p hm
theorem Cw : ∀ {l : List Nat}, ef l = true → ∀ p, p ∈ l → p ≤ 16777213
 | [], _, p, h => by cases h
 | q :: r, h, p, hm => by
  simp only [ef, Bool.and_eq_true] at h
  rcases List.mem_cons.1 hm with rfl | hm
  ·exact Nat.le_of_ble_eq_true h.1
  ·exact Cw h.2 p hm
structure LfAt (E : Env) (k : Option Nat) (L : List LF) (l : LF) : Prop where
 mem : l ∈ L
 key : k = some l.key
 nt : E.nt = l.nt
 pre : ∀ s x, (s, x) ∈ l.pre → E.tm.get s = some x
 low : l.hp = none → ∀ s x, (s, x) ∈ l.pre → iE 8 x = true
 post : ∀ p, p ∈ l.post → p.1 ≤ 16777213
 keep : ∀ p, p ∈ l.keep → p ≤ 16777213
theorem aF6 {E : Env} {k : Option Nat} : ∀ {L : List LF} {l : LF}, su E k L = some l → LfAt E k L l
 | [], l, h => by cases h
 | x :: r, l, h => by
  unfold su at h
  cases hc : (lT k x.key && Nat.beq E.nt x.nt && Cv E x && dX x.post && ef x.keep) with
  | true =>
   rw [hc] at h
   simp only [cond_true, Option.some.injEq] at h
   subst h
   simp only [Bool.and_eq_true] at hc
   have hm := hc.1.1.2
   unfold Cv at hm
   refine ⟨List.mem_cons_self .., ?_, Nat.eq_of_beq_eq_true hc.1.1.1.2, ?_, ?_, oF hc.1.2, Cw hc.2⟩
   rotate_left
   ·cases hx : x.hp with
    | none => rw [hx] at hm; exact fun s y hs => (Cu hm s y hs).1
    | some h => rw [hx] at hm; exact aB2 hm
   ·intro hx
    rw [hx] at hm; exact fun s y hs => (Cu hm s y hs).2
   have h1 := hc.1.1.1.1
   cases k with
   | none => cases h1
   | some k => rw [Nat.eq_of_beq_eq_true h1]
  | false =>
   rw [hc] at h
   obtain ⟨a, b, c, d, g, e, f⟩ := aF6 (L := r) h
   exact ⟨List.mem_cons_of_mem _ a, b, c, d, g, e, f⟩
theorem yr {E : Env} : ∀ (l : List Nat) (t : T AV), (∀ p, p ∈ l → p ≤ 16777213) → ∀ s x, (oE E l t).get s = some x → (s ∈ l ∧ E.tm.get s = some x) ∨ t.get s = some x
 | [], t, _, s, x, h => .inr h
 | p :: r, t, hb, s, x, h => by
  unfold oE at h
  have hb' := fun q hq => hb q (List.mem_cons_of_mem _ hq)
  cases hg : E.tm.get p with
  | none =>
   rw [hg] at h
   rcases yr r t hb' s x h with h1 | h1
   ·exact .inl ⟨List.mem_cons_of_mem _ h1.1, h1.2⟩
   ·exact .inr h1
  | some a =>
   rw [hg] at h
   rcases yr r _ hb' s x h with h1 | h1
   ·exact .inl ⟨List.mem_cons_of_mem _ h1.1, h1.2⟩
   ·rw [dY _ _ _ _ (hb p (List.mem_cons_self ..))] at h1
    split at h1
    ·rename_i e; subst e; exact .inl ⟨List.mem_cons_self .., by rw [hg]; exact h1⟩
    ·exact .inr h1
theorem kG : ∀ (l : List (Nat × AV)) (t : T AV), (∀ p, p ∈ l → p.1 ≤ 16777213) → ∀ s x, (ja l t).get s = some x → (s, x) ∈ l ∨ t.get s = some x
 | [], t, _, s, x, h => .inr h
 | p :: r, t, hb, s, x, h => by
  unfold ja at h
  rcases kG r _ (fun q hq => hb q (List.mem_cons_of_mem _ hq)) s x h with h1 | h1
  ·exact .inl (List.mem_cons_of_mem _ h1)
  ·rw [dY _ _ _ _ (hb p (List.mem_cons_self ..))] at h1
   split at h1
   ·rename_i e; injection h1 with h1; subst e; subst h1; exact .inl (List.mem_cons_self ..)
   ·exact .inr h1
def kA (C : Cx) (g : Nat) (l : LF) : Prop := ∀ (h : LH) (q : Nat × AV), l.hp = some h → l.post = [q] → ∀ (B : Fz) (ρ : aY) (H : T aS) (w : World) (args : List Value), Fits C h.ng B ρ H w → h.ng ≤ h.n0 → nM h → (∀ v k, (v, k) ∈ h.pre → H.get v = some k) → Free ρ h.n0 h.n1 → aJ C ρ (l.pre.map (·.2)) args →
 Calls C.P g ⟨args⟩ w fun e w' => ∃ x ρ', e = .returned x ∧ Rel C ρ' q.2 x ∧ Fits C h.ng B ρ' (ee h H) w' ∧ Ext ρ ρ' h.n0 h.n1 ∧ Below B w w'
theorem aG4 : ∀ (a : List AV) (l : List (Nat × AV)), uM a l = true → a = l.map (·.2)
 | [], [], _ => rfl
 | a :: l, p :: r, h => by
  simp only [uM, Bool.and_eq_true, Bool.or_eq_true] at h
  have e : a = p.2 := h.1.elim (jV 8 _ _) (oR 8 _ _)
  rw [List.map_cons, ← e, ← aG4 l r h.2]
 | [], _ :: _, h => by cases h
 | _ :: _, [], h => by cases h
theorem aG3 {args : List AV} {x : LH × AV} : ∀ L : List LF, nE args L = some x → ∃ l q, l ∈ L ∧ kM l = true ∧ l.hp = some x.1 ∧ l.post = [q] ∧ q.2 = x.2 ∧ args = l.pre.map (·.2)
 | [], h => by cases h
 | l :: r, h => by
  have next : nE args r = some x → ∃ l' q, l' ∈ l :: r ∧ kM l' = true ∧ l'.hp = some x.1 ∧ l'.post = [q] ∧ q.2 = x.2 ∧ args = l'.pre.map (·.2) := fun hn => by
   obtain ⟨l', q, a, b⟩ := aG3 r hn
   exact ⟨l', q, List.mem_cons_of_mem _ a, b⟩
  unfold nE at h
  split at h
  ·rename_i hh q e1 e2
   cases hc : (kM l && uM args l.pre) with
   | true =>
    rw [hc, cond_true] at h
    injection h with h
    subst h
    rw [Bool.and_eq_true] at hc
    exact ⟨l, q, List.mem_cons_self .., hc.1, e1, e2, rfl, aG4 _ _ hc.2⟩
   | false => rw [hc, cond_false] at h; exact next h
  ·exact next h
structure qp (C : Cx) (tb : Tab) (g : Nat) (fi : FI) (fn : Func) : Prop where
 at_ : C.P.funcs[g]? = some fn
 name : (fn.name == "runtime.NumGoroutine") = false
 body : fn.body = fi.body
 nt : fn.ntmps = fi.ntmps
 res : fn.results.toList = fi.res
 reg : ∀ c, fi.body = some c → codeOk c = true
 sum : ∀ v, fi.sum = some v → fi.body.isSome = true ∧ Gd C g v
 lps : ∀ c, fi.body = some c → bV C fi.lps c
 cfs : ∀ l, l ∈ fi.lps → kM l = true → kA C g l
 ext : fi.body = none → fi.ext = 0 ∨ dP C tb fi.ext fn
structure aq (C : Cx) (tb : Tab) : Prop where
 tab : nL C tb
 met : ui C tb
 fn : ∀ g fi, tb.fn.get g = some fi → ∃ fn, qp C tb g fi fn
 mix : C.P.follows .mixedOrders = true
section
variable {C : Cx} {tb : Tab} {B : Fz}
theorem Fits.kept {ρ : aY} {ng : Nat} {H : T aS} {w w' : World} (h : Fits C ng B ρ H w) (hb : Below (Fz.lt w.heap.size) w w') : Fits C ng B ρ H w' := by
 refine ⟨fun k hk => by have := h.size k hk; have := hb.size; omega, h.glob, fun v k hv => ?_, h.inj, h.low, C.cb w w' (fun b hb' => hb.block b (h.size b (h.low b hb'))) h.inv⟩
 obtain ⟨r, h1, o, h2, h3⟩ := h.blk v k hv
 refine ⟨r, h1, o, ?_, h3⟩
 have hlt : r.blk < w.heap.size := by
  rcases Nat.lt_or_ge r.blk w.heap.size with h | h
  ·exact h
  ·rw [Array.getElem?_eq_none h] at h2; cases h2
 rw [hb.block _ hlt]; exact h2
theorem Below.less {B B' : Fz} {w w' : World} (h : Below B w w') (hle : ∀ k, B' k → B k) : Below B' w w' := ⟨h.os, h.tape, h.output, h.size, fun k hk => h.block k (hle k hk), h.walk⟩
theorem l5 {P : Program} {g : Nat} {fn : Func} {args : Array Value} {w : World} (h1 : P.funcs[g]? = some fn) (h2 : (fn.name == "runtime.NumGoroutine") = false) (h3 : fn.body.isSome = true) : (callFunc g args).run P w = .ok (.enter g args) w := by
 unfold callFunc
 rw [Sem.run_bind]
 have hp : (program).run P w = .ok P w := rfl
 rw [hp]
 simp only [Result.andThen_ok, h1, h2]
 have : fn.body.isNone = false := by cases hb : fn.body with
  | none => rw [hb] at h3; cases h3
  | some c => rfl
 rw [this]; rfl
end
section
variable {C : Cx} {tb : Tab} {B : Fz} {F : Nat} {Φ : Fence} {ν : Nat}
def Post (C : Cx) (tb : Tab) (B : Fz) (ρ : aY) (S : St) (E' : Env) (S' : St) (a : Act) (w : World) (K : Act → World → Prop) : Prop :=
 ∀ ρ' a' w', eV C ρ' E' a' → iT a a' w w' → Fits C tb.ng B ρ' S'.heap w' → Ext ρ ρ' S.next S'.next → Below B w w' → K a' w'
theorem Good.le {α : Type} {m : M α} (h : Good m) {S S' : St} {x : α} (hm : m S = some (x, S')) : S.next ≤ S'.next := h.mono _ _ _ hm
theorem CH (hΦ : eB Φ) (hcall : ∀ g, g < F → qt C tb B (call tb g) (eN tb g)) (ht : nL C tb) (hm : ui C tb) {ops : Array Oper} {Q : Exit → Act → World → Prop} :
 ∀ (f : Nat), f ≤ F → ∀ (r : List Oper) (n : Nat) (E : Env) (S : St) (E' : Env) (S' : St) (ρ : aY) (a : Act) (w : World), (∀ k o, r[k]? = some o → ops[n + k]? = some o) → opsT tb f ops.toList r E S = some (E', S') →
  Fits C tb.ng B ρ S.heap w → tb.ng ≤ S.next → eV C ρ E a → Free ρ S.next S'.next → Post C tb B ρ S E' S' a w (Q .normal) → wpOpsIn Φ ν C.P ops Q (List.range' n r.length) a w
 | 0, _, r, n, E, S, E', S', ρ, a, w, _, h, _, _, _, _, _ => by unfold opsT at h; exact (aU h).elim
 | f + 1, hf, [], n, E, S, E', S', ρ, a, w, _, h, hF, aW, hE, hfree, hP => by
  unfold opsT at h
  obtain ⟨rfl, rfl⟩ := aX h
  exact hP ρ a w hE (.of_eq rfl) hF (Ext.refl _ _ _) (Below.refl _ _)
 | f + 1, hf, o :: r, n, E, S, E', S', ρ, a, w, hr, h, hF, aW, hE, hfree, hP => by
  unfold opsT at h
  obtain ⟨b, hb, h1⟩ := lb h
  have ho : ops[n]? = some o := by simpa using hr 0 o rfl
  have hr' : ∀ k x, r[k]? = some x → ops[n + 1 + k]? = some x := fun k x hk => by
   have := hr (k + 1) x (by simpa using hk)
   rw [show n + 1 + k = n + (k + 1) by omega]; exact this
  have hwant := wanted_ok ht.hyp hE hb
  show wpOpsIn Φ ν C.P ops Q (n :: List.range' (n + 1) r.length) a w
  unfold wpOpsIn
  simp only [ho]
  rw [hwant]
  cases b with
  | true =>
   rw [cond_true] at h1
   simp only [if_true]
   obtain ⟨v, S1, h2, h3⟩ := bZ h1
   obtain ⟨E1, hp, h4⟩ := lb h3
   cases f with
   | zero => unfold oper at h2; exact (aU h2).elim
   | succ g =>
    rw [aS0] at h2
    have l1 := (Good.eE (fq tb g).call (fq tb g).eN o (op tb.ng E.tm)).le h2
    have l2 := ((fq tb (g + 1)).opsT _ _ _).le h4
    refine aK5 (hcall g (by omega)) ht hm h2 hF aW (fun x _ => n6 hF hE x) (hfree.left l2) (fun ρ' x w' r1 r2 r3 r4 => ?_) hΦ
    have hs := r3.sub (hfree.left l2)
    refine CH hΦ hcall ht hm (g + 1) (Nat.le_of_succ_le hf) r (n + 1) E1 S1 E' S' ρ' (a.put o.dst x) w' hr' h4 r2 (by omega) ((hE.mono hs).put hp r1) (hfree.right l1 r3) fun ρ2 a2 w2 p1 p2 p3 p4 p5 => ?_
    exact hP ρ2 a2 w2 p1 (p2.same (CE _ _ _).symm r4.size) p3 (r3.trans p4 l1 l2) (r4.trans p5)
  | false =>
   rw [cond_false] at h1
   simp only [Bool.false_eq_true, if_false]
   obtain ⟨E1, hp, h4⟩ := lb h1
   refine ⟨fun f _ => hΦ.fn f, ?_⟩
   refine CH hΦ hcall ht hm f (Nat.le_of_succ_le hf) r (n + 1) E1 S E' S' ρ (a.put o.dst undef) w hr' h4 hF aW (hE.put hp (by simp only [Rel, aJ]; exact ⟨[], rfl, rfl⟩)) hfree fun ρ2 a2 w2 p1 p2 p3 p4 p5 => ?_
   exact hP ρ2 a2 w2 p1 (p2.same (CE _ _ _).symm (Nat.le_refl _)) p3 p4 p5
theorem rw_of {ρ : aY} {S : St} {w : World} {hi : Nat} {ng : Nat} (hF : Fits C ng B ρ S.heap w) (hfree : Free ρ S.next hi) : Rw S hi := fun v h1 h2 => by
 cases hg : S.heap.get v with
 | none => rfl
 | some k =>
  obtain ⟨r, hr, _⟩ := hF.blk v k hg
  rw [hfree v h1 h2] at hr; cases hr
theorem Below.alloc {w : World} (o : Obj) (h : ∀ k, B k → k < w.heap.size) : Below B w (w.alloc o) := by
 have hk : ∀ k, k < w.heap.size → (w.alloc o).heap[k]? = w.heap[k]? := fun k hk => by
  show (w.heap.push o)[k]? = _
  rw [Array.getElem?_push, if_neg (by omega)]
 exact ⟨rfl, rfl, rfl, by show w.heap.size ≤ (w.heap.push o).size; simp, fun k hk' => hk k (h k hk'), fun k x hx _ => by rw [hk k (tW hx)]; exact hx⟩
theorem Below.putObj {w : World} {g : Nat} {o : Obj} (o' : Obj) (hg : w.heap[g]? = some o) (hr : isRow o = true) (hB : ¬ B g) : Below B w (w.putObj g o') := by
 refine ⟨rfl, rfl, rfl, by simp, fun k hk => World.putObj_heap_other (fun e => hB (e ▸ hk)), fun k x hx hx' => ?_⟩
 by_cases e : k = g
 ·subst e; rw [hg] at hx; injection hx with hx; subst hx; rw [hr] at hx'; cases hx'
 ·rw [World.putObj_heap_other e]; exact hx
theorem rfT_ok (hfn : ∀ g fi, tb.fn.get g = some fi → ∃ fn, qp C tb g fi fn) {g : Nat} {c : List Nat × Code × Code} (h : rfT tb g = some c) : rfP C.P g = some c := by
 unfold rfT at h
 cases hg : tb.fn.get g with
 | none => rw [hg] at h; cases h
 | some fi =>
  rw [hg] at h
  obtain ⟨fn, hf⟩ := hfn g fi hg
  unfold rfP
  rw [hf.at_]
  simp only [hf.body]
  exact h
theorem aE3 (hfn : ∀ g fi, tb.fn.get g = some fi → ∃ fn, qp C tb g fi fn) {ρ : aY} {e : aS} {k : iQ} (hk : iC tb e = some k) {r : R} {L : Loop} : fY C ρ B e r (.loop L) ↔ fH C ρ B k r L := by
 cases e <;> simp only [iC] at hk <;> first | (cases hk; done) | skip
 ·injection hk with hk; subst hk; exact Iff.rfl
 ·rename_i g tm nt st pend
  cases hc : rfT tb g with
  | none => rw [hc] at hk; cases hk
  | some c =>
   rw [hc] at hk; injection hk with hk; subst hk
   have hp := rfT_ok hfn hc
   constructor
   ·intro h
    obtain ⟨h1, h2⟩ := h
    rw [hp] at h1; injection h1 with h1; subst h1; exact h2
   ·intro h
    have e1 := h.ps; have e2 := h.fD; have e3 := h.body
    simp only [] at e1 e2 e3
    refine ⟨?_, ?_⟩
    ·rw [hp, e1, e2, e3]
    ·rw [e1, e2, e3]; exact h
theorem recOf_loop {ρ : aY} {e : aS} {k : iQ} (hk : iC tb e = some k) {r : R} {o : Obj} (h : fY C ρ B e r o) : ∃ L, o = .loop L := by
 cases e <;> simp only [iC] at hk <;> first | (cases hk; done) | skip
 ·cases o <;> first | exact ⟨_, rfl⟩ | exact h.elim
 ·cases o <;> first | exact ⟨_, rfl⟩ | exact h.elim
theorem aE2 {e : aS} {k : iQ} (hk : iC tb e = some k) (st : Nat) (pend : Ex) : iC tb (vT st pend e) = some ⟨k.ps, k.fD, k.body, k.tm, k.nt, st, pend⟩ := by
 cases e <;> simp only [iC] at hk <;> first | (cases hk; done) | skip
 ·injection hk with hk; subst hk; rfl
 ·rename_i g tm nt st' pend'
  cases hc : rfT tb g with
  | none => rw [hc] at hk; cases hk
  | some c =>
   rw [hc] at hk; injection hk with hk; subst hk
   simp only [vT, iC, hc]
theorem Fits.entry (hfn : ∀ g fi, tb.fn.get g = some fi → ∃ fn, qp C tb g fi fn) {ρ : aY} {ng : Nat} {H : T aS} {w : World} {v : Nat} {k : iQ} {r : R} {en : aS} (h : Fits C ng B ρ H w) (hv : H.get v = some en) (hk : iC tb en = some k) (hr : ρ v = some r) : ∃ L, w.heap[r.blk]? = some (.loop L) ∧ fH C ρ B k r L := by
 obtain ⟨r', h1, o, h2, h3⟩ := h.blk v _ hv
 rw [hr] at h1; injection h1 with h1; subst h1
 obtain ⟨L, rfl⟩ := recOf_loop hk h3
 exact ⟨L, h2, (aE3 hfn hk).1 h3⟩
theorem Fits.aW6 {ρ : aY} {ng : Nat} {H : T aS} {w : World} {v : Nat} {en : aS} {r : R} {L : Loop} (h : Fits C ng B ρ H w) (hv : H.get v = some en) (hr : ρ v = some r) (hL : w.heap[r.blk]? = some (.loop L)) : dh en = false := by
 obtain ⟨r', h1, o, h2, h3⟩ := h.blk v en hv
 rw [hr] at h1; injection h1 with h1; subst h1
 rw [hL] at h2; injection h2 with h2; subst h2
 cases en <;> first | rfl | exact h3.elim
theorem Fits.putJ (hfn : ∀ g fi, tb.fn.get g = some fi → ∃ fn, qp C tb g fi fn) {ρ : aY} {ng : Nat} {H : T aS} {w : World} {v : Nat} {en en' : aS} {k' : iQ} {r : R} {L L' : Loop} (h : Fits C ng B ρ H w) (hn : v ≤ 16777213) (hv : H.get v = some en) (hr : ρ v = some r)
 (hL : w.heap[r.blk]? = some (.loop L)) (hk' : iC tb en' = some k') (hk : fH C ρ B k' r L') : Fits C ng B ρ (H.set v en') (w.putObj r.blk (.loop L')) :=
 h.upd hn hv hr (k' := en') (o := .loop L') ((aE3 hfn hk').2 hk) (World.putObj_heap_same (tW hL)) (fun b hb => World.putObj_heap_other hb) (by simp) (fun b hb => World.putObj_heap_other (fun e => hk.own (e ▸ hb))) (h.aW6 hv hr hL)
theorem Fits.drop {ρ : aY} {ng : Nat} {H : T aS} {w : World} {v : Nat} {en : aS} {k : iQ} {r : R} {L : Loop} (o : Obj) (h : Fits C ng B ρ H w) (hn : v ≤ 16777213) (hv : H.get v = some en) (hr : ρ v = some r)
 (hk : fH C ρ B k r L) (hL : w.heap[r.blk]? = some (.loop L)) : Fits C ng B ρ (H.del v) (w.putObj r.blk o) := by
 have hd : ∀ x kx, (H.del v).get x = some kx → x ≠ v ∧ H.get x = some kx := fun x kx hx => by
  rw [lr _ _ _ hn] at hx; split at hx
  ·cases hx
  ·rename_i e; exact ⟨e, hx⟩
 refine ⟨by simpa using h.size, h.glob, fun u ku hu => ?_, fun a b k1 k2 r1 r2 ha hb => h.inj a b k1 k2 r1 r2 (hd _ _ ha).2 (hd _ _ hb).2, h.low, C.cb w _ (fun b hb => World.putObj_heap_other (fun e => hk.own (e ▸ h.low b hb))) h.inv⟩
 obtain ⟨e, hu'⟩ := hd u ku hu
 obtain ⟨r', h1, o', h2, h3⟩ := h.blk u ku hu'
 refine ⟨r', h1, o', ?_, h3⟩
 rw [World.putObj_heap_other (fun e' => e (h.solo hu' hv h1 hr (h.aW6 hv hr hL) e'))]; exact h2
theorem Fits.putD {ρ : aY} {ng : Nat} {H : T aS} {w : World} {D : Nat} {ds : Option (List Deferred)} (o : Obj) (h : Fits C ng B ρ H w) (hD : w.heap[D]? = some (.deferred ds)) (hB : ¬ B D) : Fits C ng B ρ H (w.putObj D o) := by
 refine ⟨by simpa using h.size, h.glob, fun u ku hu => ?_, h.inj, h.low, C.cb w _ (fun b hb => World.putObj_heap_other (fun e => hB (e ▸ h.low b hb))) h.inv⟩
 obtain ⟨r', h1, o', h2, h3⟩ := h.blk u ku hu
 refine ⟨r', h1, o', ?_, h3⟩
 rw [World.putObj_heap_other (fun e => ?_)]
 ·exact h2
 ·subst e; rw [hD] at h2; injection h2 with h2; subst h2; cases ku <;> exact h3
theorem stOf_busy {n : Nat} (h : Nat.beq n 1 = false) : stOf n ≠ .busy := by
 match n with
 | 0 => intro e; cases e
 | 1 => cases h
 | n + 2 => intro e; cases e
theorem aL2 : ∀ {L : List LF} {l : LF}, sc L = some l → l ∈ L ∧ mn l = true
 | [], l, h => by cases h
 | x :: r, l, h => by
  unfold sc at h
  cases hx : mn x with
  | true => rw [hx, cond_true] at h; injection h with h; subst h; exact ⟨List.mem_cons_self .., hx⟩
  | false =>
   rw [hx, cond_false] at h
   obtain ⟨h1, h2⟩ := aL2 h
   exact ⟨List.mem_cons_of_mem _ h1, h2⟩
theorem r8 (t : T AV) : ∀ (l : List Nat) s x, (s, x) ∈ pick t l → t.get s = some x ∧ s ≤ 16777213
 | [], s, x, h => by cases h
 | u :: r, s, x, h => by
  unfold pick at h
  cases hg : t.get u with
  | none => rw [hg] at h; exact r8 t r s x h
  | some a =>
   rw [hg] at h
   simp only [] at h
   cases hb : Nat.ble u 16777213 with
   | false => rw [hb, cond_false] at h; exact r8 t r s x h
   | true =>
    rw [hb, cond_true] at h
    rcases List.mem_cons.1 h with e | h
    ·injection e with e1 e2; subst e1; subst e2; exact ⟨hg, Nat.le_of_ble_eq_true hb⟩
    ·exact r8 t r s x h
theorem pick_get (t : T AV) (l : List Nat) (s : Nat) (x : AV) (h : (ja (pick t l) .leaf).get s = some x) : t.get s = some x := by
 rcases kG _ _ (fun p hp => (r8 t l p.1 p.2 hp).2) s x h with h | h
 ·exact (r8 t l s x h).1
 ·simp [T.dH] at h
theorem aL7 {h : LH} {H : T aS} {n : Nat} (hh : nM h) (hh2 : nM (fg n h)) (hn : n ≤ h.n0) {v : Nat} {k : aS} (hv : (ee (fg n h) H).get v = some k) : (ee h H).get v = some k := by
 have hle := hh.le
 rw [pY hh2] at hv
 rw [pY hh]
 have e1 : (fg n h).post = h.post := rfl
 have e2 : (fg n h).pre = h.pre := rfl
 have e3 : (fg n h).n0 = n := rfl
 have e4 : (fg n h).n1 = h.n1 := rfl
 rw [e1, e2, e3, e4] at hv
 cases hg : eH h.post v with
 | some j => rw [hg] at hv; simpa using hv
 | none =>
  rw [hg] at hv
  simp only [Option.none_or] at hv ⊢
  split at hv
  ·cases hv
  ·rename_i g
   rw [if_neg (by omega)]; exact hv
theorem eJ (hΦ : eB Φ) (hcall : ∀ g, g < F → qt C tb B (call tb g) (eN tb g)) (ht : nL C tb) (hm : ui C tb) (eQ : C.P.follows .mixedOrders = true) (hfn : ∀ g fi, tb.fn.get g = some fi → ∃ fn, qp C tb g fi fn) :
 ∀ (f : Nat), f ≤ F → ∀ (L : List LF) (c : Code) (E : Env) (S : St) (ex : Ex) (E' : Env) (S' : St) (ρ : aY) (a : Act) (w : World) (Q : Exit → Act → World → Prop), fZ Φ c → bV C L c → code tb f L c E S = some ((ex, E'), S') →
  Fits C tb.ng B ρ S.heap w → tb.ng ≤ S.next → eV C ρ E a → Free ρ S.next S'.next → Post C tb B ρ S E' S' a w (Q (oQ ex)) → c.wpIn Φ ν C.P Q a w ∧ ∀ z, c = .loop z → fX Φ ν C.P z Q a w
 | 0, _, L, c, E, S, ex, E', S', ρ, a, w, Q, _, _, h, _, _, _, _, _ => by unfold code at h; exact (aU h).elim
 | f + 1, hf, L, c, E, S, ex, E', S', ρ, a, w, Q, hc, eR, h, hF, aW, hE, hfree, hP => by
  have hf' := Nat.le_of_succ_le hf
  have here : ∀ {x : Ex}, (x, E) = (ex, E') → S' = S → Q (oQ x) a w := fun {x} e1 e2 => by
   injection e1 with e1 e3; subst e1; subst e2; subst e3
   exact hP ρ a w hE (.of_eq rfl) hF (Ext.refl _ _ _) (Below.refl _ _)
  cases c with
  | skip => unfold code at h; obtain ⟨e1, e2⟩ := aX h; refine ⟨?_, fun z e => by cases e⟩; exact wpIn_skip (here e1.symm e2)
  | label l => unfold code at h; obtain ⟨e1, e2⟩ := aX h; refine ⟨?_, fun z e => by cases e⟩; exact wpIn_label (here e1.symm e2)
  | exit id => unfold code at h; obtain ⟨e1, e2⟩ := aX h; refine ⟨?_, fun z e => by cases e⟩; exact wpIn_exit (here e1.symm e2)
  | goto l => unfold code at h; obtain ⟨e1, e2⟩ := aX h; refine ⟨?_, fun z e => by cases e⟩; exact wpIn_goto (here e1.symm e2)
  | ret => unfold code at h; obtain ⟨e1, e2⟩ := aX h; refine ⟨?_, fun z e => by cases e⟩; exact wpIn_ret (here e1.symm e2)
  | seq x y =>
   refine ⟨?_, fun z e => by cases e⟩
   unfold code at h
   have hc := hc.seq
   obtain ⟨p, S1, h1, h2⟩ := bZ h
   obtain ⟨ex1, E1⟩ := p
   have l1 := ((fq tb f).code _ _ _).le h1
   refine wpIn_seq ?_
   cases ex1 with
   | normal =>
    simp only [] at h2
    have l2 := ((fq tb f).code _ _ _).le h2
    refine And.left <| eJ hΦ hcall ht hm eQ hfn f hf' L x E S .normal E1 S1 ρ a w _ hc.1 eR.1 h1 hF aW hE (hfree.left l2) fun ρ1 a1 w1 p1 p2 p3 p4 p5 => ?_
    show y.wpIn Φ ν C.P Q a1 w1
    refine And.left <| eJ hΦ hcall ht hm eQ hfn f hf' L y E1 S1 ex E' S' ρ1 a1 w1 Q hc.2 eR.2 h2 p3 (by omega) p1 (hfree.right l1 p4) fun ρ2 a2 w2 q1 q2 q3 q4 q5 => ?_
    exact hP ρ2 a2 w2 q1 (p2.trans q2 p5 q5) q3 (p4.trans q4 l1 l2) (p5.trans q5)
   | exit id =>
    obtain ⟨e1, rfl⟩ := aX h2
    injection e1 with e1 e2; subst e1; subst e2
    exact And.left <| eJ hΦ hcall ht hm eQ hfn f hf' L x E S _ _ _ ρ a w _ hc.1 eR.1 h1 hF aW hE hfree hP
   | goto l =>
    obtain ⟨e1, rfl⟩ := aX h2
    injection e1 with e1 e2; subst e1; subst e2
    exact And.left <| eJ hΦ hcall ht hm eQ hfn f hf' L x E S _ _ _ ρ a w _ hc.1 eR.1 h1 hF aW hE hfree hP
   | ret =>
    obtain ⟨e1, rfl⟩ := aX h2
    injection e1 with e1 e2; subst e1; subst e2
    exact And.left <| eJ hΦ hcall ht hm eQ hfn f hf' L x E S _ _ _ ρ a w _ hc.1 eR.1 h1 hF aW hE hfree hP
  | cond q x y =>
   refine ⟨?_, fun z e => by cases e⟩
   unfold code at h
   have hc := hc.cond
   have hq := n6 hF hE q
   simp only [] at h
   have hbr : ∀ b : Bool, a.eval q = .bool b → (cond b (code tb f L x E) (code tb f L y E)) S = some ((ex, E'), S') → (Code.cond q x y).wpIn Φ ν C.P Q a w := fun b hq h => by
    refine wpIn_cond hq ?_
    cases b with
    | true => exact And.left <| eJ hΦ hcall ht hm eQ hfn f hf' L x E S ex E' S' ρ a w Q hc.1 eR.1 h hF aW hE hfree hP
    | false => exact And.left <| eJ hΦ hcall ht hm eQ hfn f hf' L y E S ex E' S' ρ a w Q hc.2 eR.2 h hF aW hE hfree hP
   cases hop : op tb.ng E.tm q with
   | b b =>
    rw [hop] at h hq
    simp only [Rel] at hq
    exact hbr b hq (by cases b <;> exact h)
   | x i =>
    rw [hop] at h hq
    simp only [] at h
    obtain ⟨r, S1, h1, h2⟩ := bZ h
    obtain ⟨rfl, h3⟩ := DM h1
    obtain ⟨b, e1, e2⟩ := ht.hyp _ _ (tS h3)
    injection e1 with e1; subst e1
    obtain ⟨p, q', e3, e4, e5⟩ := e2 ρ _ (.bool true) hq (by simp only [Rel])
    injection e4 with e4; subst e4
    have e6 : r = p := by rw [e5]; cases p <;> rfl
    subst e6
    exact hbr _ e3 h2
   | _ => rw [hop] at h; exact (aU h).elim
  | block id x =>
   refine ⟨?_, fun z e => by cases e⟩
   unfold code at h
   have hc := hc.block
   obtain ⟨p, S1, h1, h2⟩ := bZ h
   obtain ⟨ex1, E1⟩ := p
   refine wpIn_block ?_
   cases ex1 with
   | exit j =>
    simp only [] at h2
    cases hj : Nat.beq j id with
    | true =>
     rw [hj, cond_true] at h2
     have hji := Nat.eq_of_beq_eq_true hj
     subst hji
     obtain ⟨e1, rfl⟩ := aX h2
     injection e1 with e1 e2; subst e1; subst e2
     refine And.left <| eJ hΦ hcall ht hm eQ hfn f hf' L x E S (.exit j) _ _ ρ a w _ hc eR h1 hF aW hE hfree fun ρ1 a1 w1 p1 p2 p3 p4 p5 => ?_
     show Exit.inBlock j Q (.exit j) a1 w1
     simp only [Exit.inBlock, if_true]
     exact hP ρ1 a1 w1 p1 p2 p3 p4 p5
    | false =>
     rw [hj, cond_false] at h2
     have hji : j ≠ id := fun e => by rw [e, Nat.beq_refl] at hj; cases hj
     obtain ⟨e1, rfl⟩ := aX h2
     injection e1 with e1 e2; subst e1; subst e2
     refine And.left <| eJ hΦ hcall ht hm eQ hfn f hf' L x E S (.exit j) _ _ ρ a w _ hc eR h1 hF aW hE hfree fun ρ1 a1 w1 p1 p2 p3 p4 p5 => ?_
     show Exit.inBlock id Q (.exit j) a1 w1
     simp only [Exit.inBlock, if_neg hji]
     exact hP ρ1 a1 w1 p1 p2 p3 p4 p5
   | normal =>
    obtain ⟨e1, rfl⟩ := aX h2
    injection e1 with e1 e2; subst e1; subst e2
    exact And.left <| eJ hΦ hcall ht hm eQ hfn f hf' L x E S _ _ _ ρ a w _ hc eR h1 hF aW hE hfree hP
   | goto l =>
    obtain ⟨e1, rfl⟩ := aX h2
    injection e1 with e1 e2; subst e1; subst e2
    exact And.left <| eJ hΦ hcall ht hm eQ hfn f hf' L x E S _ _ _ ρ a w _ hc eR h1 hF aW hE hfree hP
   | ret =>
    obtain ⟨e1, rfl⟩ := aX h2
    injection e1 with e1 e2; subst e1; subst e2
    exact And.left <| eJ hΦ hcall ht hm eQ hfn f hf' L x E S _ _ _ ρ a w _ hc eR h1 hF aW hE hfree hP
  | loop x =>
   unfold code at h
   dsimp only at h
   cases hl : su E (keyOf x) L with
   | some l =>
    rw [hl] at h
    have hA := aF6 hl
    cases hhp : l.hp with
    | some hh =>
     have h : lR tb.ng E l S = some ((ex, E'), S') := h
     unfold lR at h
     rw [hhp] at h
     simp only [] at h
     obtain ⟨u, S1, h1, h2⟩ := bZ h
     obtain ⟨e1, rfl⟩ := aX h2
     obtain ⟨⟨n1, n1g⟩, n2, n2b, n3, n4⟩ := aF1 h1
     have e2 : ex = l.ex := congrArg Prod.fst e1
     have e3 : E' = ⟨ja l.post (oE E l.keep .leaf), E.nt⟩ := congrArg Prod.snd e1
     subst e2; subst e3
     have hnx : S'.next = hh.n1 := by rw [n4]
     have hok := mX n2
     have hx : fX Φ ν C.P x Q a w := (eR.1 l hA.mem hA.key).toH hhp Φ ν Q a w B ρ S.heap hΦ hc (n1g ▸ hF) (by omega) hok (yU n3) (fun v g1 g2 => hfree v (by omega) (by omega)) (by rw [hE.1]; exact hA.nt) (by rw [← hA.nt]; exact hE.2.1)
      (fun s y hs => hE.2.2 s y (hA.pre s y hs))
      fun ρ' a' w' k1 k2 k3 k4 k5 k6 k7 => by
       have k6 : Ext ρ ρ' S.next S'.next := fun v hv => k6 v (by have := hok.le; omega)
       have k5 : Fits C hh.ng B ρ' (ee (fg S.next hh) S.heap) w' := k5.sub fun v k hv => aL7 hok (mX n2b) n1 hv
       refine hP ρ' a' w' ⟨by rw [k1]; exact hE.1, hE.2.1, fun t y hy => ?_⟩ k4 (by rw [n4, n1g]; exact k5) k6 k7
       rcases kG _ _ hA.post t y hy with g | g
       ·exact k3 t y g
       ·rcases yr _ _ hA.keep t y g with g | g
        ·rw [k2 t g.1]; exact Rel.mono (k6.sub hfree) _ _ (hE.2.2 t y g.2)
        ·simp [T.dH] at g
     exact ⟨hx.wp, fun z e => by cases e; exact hx⟩
    | none =>
    have h : lR tb.ng E l S = some ((ex, E'), S') := h
    unfold lR at h
    rw [hhp] at h
    simp only [] at h
    obtain ⟨e1, rfl⟩ := aX h
    have e2 : ex = l.ex := congrArg Prod.fst e1
    have e3 : E' = ⟨ja l.post (oE E l.keep .leaf), E.nt⟩ := congrArg Prod.snd e1
    subst e2; subst e3
    have hx : fX Φ ν C.P x Q a w := (eR.1 l hA.mem hA.key).toN hhp Φ ν Q a w hΦ hc hF.inv hF.nsz (by rw [hE.1]; exact hA.nt) (by rw [← hA.nt]; exact hE.2.1)
     (fun s y hs => yC 8 y (hA.low hhp s y hs) _ (hE.2.2 s y (hA.pre s y hs)))
     fun a' w' k1 k2 k3 k4 k5 => hP ρ a' w' ⟨by rw [k1]; exact hE.1, hE.2.1, fun t y hy => by
      rcases kG _ _ hA.post t y hy with g | g
      ·exact Rel.mono (fun v r hv => by cases hv) _ _ (k3 t y g)
      ·rcases yr _ _ hA.keep t y g with g | g
       ·rw [k2 t g.1]; exact hE.2.2 t y g.2
       ·simp [T.dH] at g⟩ k4 (hF.kept k5) (Ext.refl _ _ _) (Below.less k5 hF.size)
    exact ⟨hx.wp, fun z e => by cases e; exact hx⟩
   | none =>
   rw [hl] at h
   have hc0 := hc
   have hc := hc.loop
   obtain ⟨p, S1, h1, h2⟩ := bZ h
   obtain ⟨ex1, E1⟩ := p
   have l1 := ((fq tb f).code _ _ _).le h1
   refine (fun hr => ⟨hr.wp, fun z e => by cases e; exact hr⟩) (?_ : fX Φ ν C.P x Q a w)
   refine fX.step ?_
   cases ex1 with
   | normal =>
    simp only [] at h2
    have l2 := ((fq tb f).code _ _ _).le h2
    refine And.left <| eJ hΦ hcall ht hm eQ hfn f hf' L x E S .normal E1 S1 ρ a w _ hc eR.2 h1 hF aW hE (hfree.left l2) fun ρ1 a1 w1 p1 p2 p3 p4 p5 => ?_
    show fX Φ ν C.P x Q a1 w1
    refine (eJ hΦ hcall ht hm eQ hfn f hf' L (.loop x) E1 S1 ex E' S' ρ1 a1 w1 Q hc0 eR h2 p3 (by omega) p1 (hfree.right l1 p4) ?_).2 x rfl
    intro ρ2 a2 w2 q1 q2 q3 q4 q5
    exact hP ρ2 a2 w2 q1 (p2.trans q2 p5 q5) q3 (p4.trans q4 l1 l2) (p5.trans q5)
   | exit id =>
    obtain ⟨e1, rfl⟩ := aX h2
    injection e1 with e1 e2; subst e1; subst e2
    exact And.left <| eJ hΦ hcall ht hm eQ hfn f hf' L x E S _ _ _ ρ a w _ hc eR.2 h1 hF aW hE hfree hP
   | goto l =>
    obtain ⟨e1, rfl⟩ := aX h2
    injection e1 with e1 e2; subst e1; subst e2
    exact And.left <| eJ hΦ hcall ht hm eQ hfn f hf' L x E S _ _ _ ρ a w _ hc eR.2 h1 hF aW hE hfree hP
   | ret =>
    obtain ⟨e1, rfl⟩ := aX h2
    injection e1 with e1 e2; subst e1; subst e2
    exact And.left <| eJ hΦ hcall ht hm eQ hfn f hf' L x E S _ _ _ ρ a w _ hc eR.2 h1 hF aW hE hfree hP
  | region id ops draw =>
   refine ⟨?_, fun z e => by cases e⟩
   unfold code at h
   simp only [] at h
   cases draw with
   | false =>
    rw [cond_false] at h
    obtain ⟨E1, S1, h1, h2⟩ := bZ h
    obtain ⟨e1, rfl⟩ := aX h2
    injection e1 with e1 e2; subst e1; subst e2
    refine wpIn_region ?_
    have hlen : List.range ops.size = List.range' 0 ops.toList.length := by rw [List.range_eq_range', Array.length_toList]
    rw [hlen]
    exact CH hΦ hcall ht hm f hf' ops.toList 0 E S _ _ ρ a w (fun k o hk => by rw [Nat.zero_add]; simpa using hk) h1 hF aW hE hfree hP
   | true =>
    rw [cond_true] at h
    obtain ⟨p, S1, h1, h2⟩ := bZ h
    obtain ⟨E1, l1⟩ := p
    obtain ⟨hord, h3⟩ := bT h2
    obtain ⟨e1, rfl⟩ := aX h3
    injection e1 with e1 e2; subst e1; subst e2
    have p9 : pI ops.toList = true := by simpa [codeOk] using hc.1
    obtain ⟨Es, Ss, bs, vs, As, Ws, htr, t1, t2, t3, t4⟩ := tr_of hf' p9 h1 hord (rw_of hF hfree)
    refine wpIn_region_any eQ ?_
    have hF1 : Fits C tb.ng B ρ S.heap { w with drawn := w.drawn + 1 } := ⟨hF.size, hF.glob, hF.blk, hF.inj, hF.low, C.cb w _ (fun _ _ => rfl) hF.inv⟩
    have hb1 : Below B w { w with drawn := w.drawn + 1 } := ⟨rfl, rfl, rfl, Nat.le_refl _, fun _ _ => rfl, fun _ _ h _ => h⟩
    have hrep : ∀ k, (Array.replicate ops.size false).getD k false = false := fun k => by
     rw [Array.getD_eq_getD_getElem?, Array.getElem?_replicate]; split <;> rfl
    have hrw := rw_of hF hfree
    refine any_ok (ρ0 := ρ) (a0 := a) (w0 := { w with drawn := w.drawn + 1 }) htr (by rw [t1]; exact hE.2.1) (fun g hg => hcall g hg) ht hm (by rw [t2]; exact aW) hΦ
     (fun ρ' a' w' q1 q2 q3 q4 q5 => hP ρ' a' w' (by rw [← t3]; exact q1) (.of_eq q2) (by rw [← t4]; exact q3) (by rw [← t2, ← t4]; exact q4) (hb1.trans q5))
     ops.size (Array.replicate ops.size false) ρ S.heap a { w with drawn := w.drawn + 1 } (by simp) ?_ ?_
    ·have : ∀ n, left (fun k => (Array.replicate ops.size false).getD k false) n ≤ n := by
      intro n
      induction n with
      | zero => exact Nat.le_refl _
      | succ n ih => unfold left; rw [hrep, cond_false]; omega
     exact this _
    ·refine ⟨hF1, fun v => ?_, fun t x hx => ?_, fun j hj _ => ?_, Ext.refl _ _ _, by rw [t1]; exact hE.1, rfl, Below.refl _ _, fun i o e hi => by rw [hrep] at hi; cases hi⟩
     ·rw [Ck (X := fun k => (Ss k).heap.get v) _ (fun j _ => hrep j), t2]
     ·rw [Ck (X := fun k => (Es k).tm.get t) _ (fun j _ => hrep j), t1] at hx
      exact hE.2.2 t x hx
     ·intro v hv1 hv2
      have m1 := lN htr.mono 0 j (by omega) (by omega)
      have m2 := lN htr.mono (j + 1) ops.size (by omega) (Nat.le_refl _)
      rw [t2] at m1; rw [t4] at m2
      exact hfree v (by omega) (by omega)
  | rangeFunc g ps x y =>
   refine ⟨?_, fun z e => by cases e⟩
   have hro : Φ.round = none := hc.2.resolve_right fun e => by cases e
   have hcx := hc.1
   simp only [codeOk, Bool.and_eq_true] at hcx
   unfold code at h
   simp only [] at h
   have hg := n6 hF hE g
   cases hop : op tb.ng E.tm g <;> rw [hop] at h hg <;> try exact (aU h).elim
   rename_i gf first cap
   obtain ⟨fi, e1, h1⟩ := lb h
   obtain ⟨hbody, h2⟩ := bT h1
   obtain ⟨n, S1, h3, h4⟩ := bZ h2
   obtain ⟨v, S2, h5, h6⟩ := bZ h4
   obtain ⟨en, k, S3, h7, h7k, h8, h9, h10⟩ := rbR h6
   obtain ⟨hst, h11⟩ := cond_inv' h10
   obtain ⟨u, S4, h12, h13⟩ := bZ h11
   obtain ⟨e2, rfl⟩ := aX h13
   injection e2 with e2 e3; subst e2; subst e3
   obtain ⟨rfl, n1, n2, n3⟩ := im h3
   obtain ⟨k1, k2, k3, k4⟩ := me h12
   simp only [Rel] at hg
   obtain ⟨as, cs, hg, hr1, hr2⟩ := hg
   obtain ⟨fn, tU⟩ := hfn _ _ e1
   have l1 := ((fq tb f).call _ _).le h5
   refine wpIn_rangeFunc fun fid _ => ?_
   have hb0 : Below B w (w.alloc (.deferred (some []))) := Below.alloc _ hF.size
   have hbA : Below (Fz.lt w.heap.size) w (w.alloc (.deferred (some []))) := Below.alloc _ (fun k hk => hk)
   have hsz : (w.alloc (.deferred (some []))).heap.size = w.heap.size + 1 := by simp
   have hentc : (uH L E' ps.toList x y = .j ⟨ps.toList, x, y, E'.tm, E'.nt, 0, .normal⟩) ∨ (∃ gk l, uH L E' ps.toList x y = .k gk (pick E'.tm l) E'.nt 0 .normal ∧ rfP C.P gk = some (ps.toList, x, y)) := by
    unfold uH
    cases hmk : sc L with
    | none => exact .inl rfl
    | some l =>
     obtain ⟨m1, m2⟩ := aL2 hmk
     exact .inr ⟨_, _, rfl, eR l m1 m2⟩
   generalize uH L E' ps.toList x y = en0 at hentc n2
   obtain ⟨L, hL⟩ : ∃ L : Loop, L = { state := .ready, pending := none, fn := fid, tmps := a.tmps, params := ps, assign := x, body := y, defers := w.heap.size } := ⟨_, rfl⟩
   have hb1 : Below B (w.alloc (.deferred (some []))) ((w.alloc (.deferred (some []))).alloc (.loop L)) := Below.alloc _ (fun k hk => by have := hF.size k hk; omega)
   have hfr : ρ S.next = none := hfree _ (Nat.le_refl _) (by omega)
   have hF1 : Fits C tb.ng B (cE ρ S.next ⟨w.heap.size + 1, 0, 0, 0⟩) S1.heap ((w.alloc (.deferred (some []))).alloc (.loop L)) := by
    rw [n2]
    refine (hF.kept hbA).new n1 aW hfr (by rw [hsz]) (o := .loop L) ?_ rfl
    rcases hentc with rfl | ⟨gk, l, rfl, hpk⟩
    rotate_left
    ·refine ⟨by rw [hL]; exact hpk, ?_⟩
     refine ⟨hF.fresh (Nat.le_succ _), rfl, rfl, rfl, by rw [hL]; exact hcx.1, by rw [hL]; exact hcx.2, by rw [hL]; exact hE.1, hE.2.1, fun t z hz => by rw [hL]; exact hE.2.2 t z (pick_get _ _ _ _ hz), by rw [hL]; rfl, by rw [hL]; rfl⟩
    refine ⟨hF.fresh (Nat.le_succ _), by rw [hL], by rw [hL], by rw [hL], hcx.1, hcx.2, by rw [hL]; exact hE.1, hE.2.1, fun t z hz => by rw [hL]; exact hE.2.2 t z hz, by rw [hL]; rfl, by rw [hL]; rfl⟩
   have hsub := r7 (r := ⟨w.heap.size + 1, 0, 0, 0⟩) hfr
   have hext := gY ρ S.next ⟨w.heap.size + 1, 0, 0, 0⟩
   rw [← n3] at hext
   have hown : cE ρ S.next ⟨w.heap.size + 1, 0, 0, 0⟩ S.next = some ⟨w.heap.size + 1, 0, 0, 0⟩ := by simp [cE]
   have hargs : aJ C (cE ρ S.next ⟨w.heap.size + 1, 0, 0, 0⟩) (first ++ (.yl S.next :: cap)) (as ++ (.func (.yield (w.heap.size + 1)) #[] #[] :: cs)) := by
    refine (aJ.mono hsub _ _ hr1).app ?_
    simp only [aJ]
    exact ⟨_, _, rfl, by simp only [Rel]; exact ⟨_, hown, rfl⟩, aJ.mono hsub _ _ hr2⟩
   have hbo : fn.body.isSome = true := by rw [tU.body]; exact hbody
   have harr : (⟨as⟩ ++ #[Value.func (.yield (w.heap.size + 1)) #[] #[]] ++ ⟨cs⟩ : Array Value) = ⟨as ++ (.func (.yield (w.heap.size + 1)) #[] #[] :: cs)⟩ := by
    apply Array.toList_inj.1; simp
   refine ⟨w.heap.size + 1, [mkD w.heap.size], (w.alloc (.deferred (some []))).alloc (.loop L), { target := .fn (.func gf) ⟨cs⟩, args := ⟨as⟩ ++ #[.func (.yield (w.heap.size + 1)) #[] #[]] }, (w.alloc (.deferred (some []))).alloc (.loop L), gf, ⟨as ++ (.func (.yield (w.heap.size + 1)) #[] #[] :: cs)⟩, (w.alloc (.deferred (some []))).alloc (.loop L), ?_, ?_, fun f' _ => hΦ.fn f', ?_, hΦ.deep ν, ?_⟩
   ·rw [hro, run_enterLoop_outer, hL]; rfl
   ·simp only [resolve, hg, Deferred.ofValue]
    rw [Sem.run_pure]
    simp [Act.eval]
   ·simp only [invoke]
    rw [harr]
    exact l5 tU.at_ tU.name hbo
   ·have hcl := (hcall f (by omega)).1 gf _ _ _ _ _ _ _ { dst := none, op := default, type := 0, pos := "", after := #[], guard := none } a (fun _ w3 => rangePost Φ ν C.P (w.heap.size + 1) Q { a with defers := [mkD w.heap.size] ++ a.defers } (.returned undef) w3)
     (fun e _ w3 => Q e { a with defers := [mkD w.heap.size] ++ a.defers } w3) Φ ν hΦ h5 hF1 (by omega) hargs ((hfree.right (by omega) hext).left (by omega)) ?_
    ·rw [l5 tU.at_ tU.name hbo, Oper.uponIn_enter] at hcl
     refine CallsIn.mono hcl.2 fun e w3 he => ?_
     cases e with
     | returned v => exact he
     | panicked chain => exact he
     | outgrown => obtain ⟨_, w4, hq⟩ := he; exact ⟨_, w4, hq⟩
    ·intro ρ2 xv w2 q1 q2 q3 q4
     have hs2 := q3.sub ((hfree.right (by omega) hext).left (by omega))
     have hown2 := hs2 _ _ hown
     obtain ⟨L2, hL2, hk2⟩ := q2.entry hfn h7 h7k hown2
     have hend := run_endLoop (P := C.P) hL2 (by rw [hk2.st]; exact stOf_busy hst)
     have hbB : Below B w2 (w2.putObj (w.heap.size + 1) (.loop { L2 with state := .exhausted })) := Below.putObj _ hL2 rfl hk2.own
     have hbelow : Below B w (w2.putObj (w.heap.size + 1) (.loop { L2 with state := .exhausted })) := ((hb0.trans hb1).trans q4).trans hbB
     have hdat : ((w.alloc (.deferred (some []))).alloc (.loop L)).heap[w.heap.size]? = some (.deferred (some [])) := hb1.walk _ _ (World.alloc_heap_new w _) rfl
     have hq : Q (oQ k.pend) { a with defers := [mkD w.heap.size] ++ a.defers } (w2.putObj (w.heap.size + 1) (.loop { L2 with state := .exhausted })) := by
      refine hP ρ2 _ _ (eV.mono (a := a) hE fun v r hv => hs2 _ _ (hsub _ _ hv)) ⟨[w.heap.size], rfl, by simp, fun D hD => ?_⟩ ?_ (hext.trans (by rw [k4, h9]; exact q3) (by omega) (by omega)) hbelow
      ·rw [List.mem_singleton] at hD; subst hD
       exact ⟨Nat.le_refl _, (q4.trans hbB).walk _ _ hdat rfl⟩
      ·rw [k3, h8]
       exact q2.drop _ n1 h7 hown2 hk2 hL2
     refine ⟨L2.pending, _, hend, ?_⟩
     rw [hk2.pend] at hq ⊢
     generalize k.pend = ex at hq ⊢
     cases ex with
     | normal => exact hq
     | exit id => exact wpIn_exit hq
     | goto l => exact wpIn_goto hq
     | ret => exact wpIn_ret hq
  | _ => unfold code at h; exact (aU h).elim
end
end Go.AX
end
section
namespace Go.AX
section
variable {C : Cx} {tb : Tab} {B : Fz}
theorem aA9 {P : Program} {g : Nat} {fn : Func} {args : Array Value} {w w' : World} {r : Array Value → Sem Value} {x : Value} (h1 : P.funcs[g]? = some fn) (h2 : (fn.name == "runtime.NumGoroutine") = false) (h3 : fn.body = none)
 (h4 : Extern.findNext fn = none) (h5 : Extern.find fn = some r) (h6 : (r args).run P w = .ok x w') : (callFunc g args).run P w = .ok (.value x) w' := by
 unfold callFunc
 rw [Sem.run_bind]
 have hp : (program).run P w = .ok P w := rfl
 rw [hp]
 simp only [Result.andThen_ok, h1, h2, h3, h4, h5, Option.isNone_none]
 simp [h6, Sem.run_bind]
theorem Rel.vg {ρ : aY} {v : AV} {x : Value} (h : Rel C (fun _ => none) v x) : Rel C ρ v x := Rel.mono (fun v r hv => by cases hv) v x h
theorem aE4 {ρ : aY} : ∀ (ps : List Nat) (vs : List AV) (args : List Value) (E E' : Env) (a : Act), nk E ps vs = some E' → aJ C ρ vs args → eV C ρ E a →
 ps.length = args.length ∧ eV C ρ E' { tmps := (ps.zip args).foldl (fun (t : Array Value) (p : Nat × Value) => t.setIfInBounds p.1 p.2) a.tmps, defers := [] }
 | [], [], args, E, E', a, h, hr, hE => by
  simp only [nk, Option.some.injEq] at h; subst h
  simp only [aJ] at hr; subst hr
  exact ⟨rfl, hE⟩
 | [], v :: vs, args, E, E', a, h, hr, hE => by simp [nk] at h
 | d :: ps, [], args, E, E', a, h, hr, hE => by simp [nk] at h
 | d :: ps, v :: vs, args, E, E', a, h, hr, hE => by
  unfold nk at h
  cases hp : E.put (some d) v with
  | none => rw [hp] at h; cases h
  | some E1 =>
   rw [hp] at h
   simp only [aJ] at hr
   obtain ⟨x, xs, rfl, h1, h2⟩ := hr
   obtain ⟨g1, g2⟩ := aE4 ps vs xs E1 E' (a.put (some d) x) h h2 (hE.put hp h1)
   exact ⟨by simp [g1], g2⟩
theorem aB3 {Φ : Fence} {n : Nat} {fn : Func} {tmps : Array Value} {R : Ending → World → Prop} {ρ : aY} {H : T aS} {ng : Nat} {w : World} (hB : ∀ k, B k → k < w.heap.size) :
 ∀ (ms : List Nat) (w1 : World), ms.Nodup → (∀ D ∈ ms, w.heap.size ≤ D ∧ w1.heap[D]? = some (.deferred (some []))) → Fits C ng B ρ H w1 → Below B w w1 →
  (∀ w2, Fits C ng B ρ H w2 → Below B w w2 → LeavesIn Φ n C.P fn tmps R [] .returning w2) → LeavesInM Φ n C.P fn tmps R (ms.map mkD) .returning w1
 | [], w1, _, _, hF, hb, hk => hk w1 hF hb
 | D :: ms, w1, hn, hm, hF, hb, hk => by
  obtain ⟨h1, h2⟩ := hm D (List.mem_cons_self ..)
  rw [List.nodup_cons] at hn
  refine ⟨by simp, .inl ⟨D, w1.putObj D (.deferred none), rfl, run_takeDeferred h2, ?_⟩⟩
  refine aB3 hB ms _ hn.2 (fun D' hD' => ?_) (hF.putD _ h2 (fun hb => by have := hB D hb; omega)) ⟨hb.os, hb.tape, hb.output, by simpa using hb.size, fun k hk => ?_, fun k o hk ho => ?_⟩ hk
  ·obtain ⟨g1, g2⟩ := hm D' (List.mem_cons_of_mem _ hD')
   exact ⟨g1, by rw [World.putObj_heap_other (fun e => hn.1 (by rw [← e]; exact hD'))]; exact g2⟩
  ·rw [World.putObj_heap_other (fun e => by have := hB k hk; omega)]; exact hb.block k hk
  ·rw [World.putObj_heap_other (by have := tW hk; omega)]; exact hb.walk k o hk ho
theorem eB.inRound {Φ : Fence} (h : eB Φ) (l : Nat) : eB (Φ.inRound l) := by
 rcases h with rfl | ⟨l', rfl⟩ <;> exact .inr ⟨l, rfl⟩
theorem aM4 (ex : Ex) : (kK ex).isNone = isN ex := by cases ex <;> rfl
theorem cr_ok (h : aq C tb) : ∀ f, qt C tb B (call tb f) (eN tb f) := by
 intro f
 induction f using Nat.strongRecOn with
 | _ f ih =>
  cases f with
  | zero =>
   refine ⟨?_, ?_⟩
   ·intro g l S v S' ρ w args o a next Q Φ ν hΦ hc; unfold call at hc; exact (aU hc).elim
   ·intro g l S v S' ρ w args o a next Q Φ ν r hΦ hc; unfold eN at hc; exact (aU hc).elim
  | succ f =>
   have qI : ∀ g, g < f + 1 → qt C tb B (call tb g) (eN tb g) := fun g hg => ih g hg
   refine ⟨?_, ?_⟩
   ·intro g l S v S' ρ w args o a next Q Φ ν hΦ hc hF aW hl hfree hk
    unfold call at hc
    obtain ⟨fi, e1, h1⟩ := lb hc
    obtain ⟨fn, hfn⟩ := h.fn g fi e1
    have main : (match fi.body with
     | none => match AX.hl tb.hyp (.ext g l) with
      | some v => AX.ret v
      | none => ext tb fi.ext l
     | some c => match AX.hl tb.hyp (.call g l) with
      | some v => AX.ret v
      | none => match nE l fi.lps with
       | some q => bnd (AX.iw tb.ng q.1) fun _ => AX.ret q.2
       | none => cond (Nat.ble l.length fi.ntmps && Nat.ble fi.ntmps 16777213) (bnd (code tb f fi.lps c ⟨oc l 0 .leaf, fi.ntmps⟩) fun r => match r.1 with
               | .normal | .ret => results tb fi.res r.2
               | _ => AX.fail) AX.fail) S = some (v, S') → o.uponIn Φ ν C.P a next Q ((callFunc g ⟨args⟩).run C.P w) := by
     intro h1
     cases hb : fi.body with
     | none =>
      rw [hb] at h1
      simp only [] at h1
      cases hcl : AX.hl tb.hyp (.ext g l) with
      | some u =>
       rw [hcl] at h1
       obtain ⟨rfl, rfl⟩ := aX h1
       obtain ⟨rr, x1, x2, x3⟩ := b8 h.tab.toHypOk hcl ρ args hl fn hfn.at_
       obtain ⟨x, r1, r2⟩ := x3 w
       rw [aA9 hfn.at_ hfn.name (by rw [hfn.body, hb]) x1 x2 r1]
       exact hk ρ x w r2 hF (Ext.refl _ _ _) (Below.refl _ _)
      | none =>
      rw [hcl] at h1
      simp only [] at h1
      rcases hfn.ext hb with he0 | ⟨x1, r, x2, x3⟩
      ·rw [he0] at h1; simp only [ext] at h1; exact (aU h1).elim
      obtain ⟨ρ', x, w', r1, r2, r3, r4, r5⟩ := x3 B l S v S' ρ w args h1 hF aW hl hfree
      rw [aA9 hfn.at_ hfn.name (by rw [hfn.body, hb]) x1 x2 r1]
      exact hk ρ' x w' r2 r3 r4 r5
     | some c =>
      rw [hb] at h1
      simp only [] at h1
      cases hcl : AX.hl tb.hyp (.call g l) with
      | some u =>
       rw [hcl] at h1
       obtain ⟨rfl, rfl⟩ := aX h1
       rw [l5 hfn.at_ hfn.name (by rw [hfn.body, hb]; rfl), Oper.uponIn_enter]
       refine ⟨hΦ.deep ν, hΦ.calls (Calls.mono (b8 h.tab.toHypOk hcl ρ args hl w hF.inv hF.nsz) fun e w' he => ?_)⟩
       obtain ⟨x, rfl, hx, hb'⟩ := he
       exact hk ρ x w' hx (hF.kept hb') (Ext.refl _ _ _) (Below.less hb' hF.size)
      | none =>
      rw [hcl] at h1
      dsimp only at h1
      cases hcf : nE l fi.lps with
      | some q =>
       rw [hcf] at h1
       dsimp only at h1
       obtain ⟨u, S1, h2, h3⟩ := bZ h1
       obtain ⟨rfl, rfl⟩ := aX h3
       obtain ⟨⟨n1, n1g⟩, n2, n2b, n3, n4⟩ := aF1 h2
       obtain ⟨lf, q', m1, m2, m3, m4, m5, m6⟩ := aG3 _ hcf
       have hok := mX n2
       have hnx : S'.next = q.1.n1 := by rw [n4]
       have hcall := hfn.cfs lf m1 m2 q.1 q' m3 m4 B ρ S.heap w args (n1g ▸ hF) (by omega) hok (yU n3) (fun v g1 g2 => hfree v (by omega) (by omega)) (by rw [← m6]; exact hl)
       rw [l5 hfn.at_ hfn.name (by rw [hfn.body, hb]; rfl), Oper.uponIn_enter]
       refine ⟨hΦ.deep ν, hΦ.calls (Calls.mono hcall fun e w' he => ?_)⟩
       obtain ⟨x, ρ', rfl, k1, k2, k3, k4⟩ := he
       have k3 : Ext ρ ρ' S.next S'.next := fun v hv => k3 v (by have := hok.le; omega)
       have k2 : Fits C q.1.ng B ρ' (ee (fg S.next q.1) S.heap) w' := k2.sub fun v k hv => aL7 hok (mX n2b) n1 hv
       exact hk ρ' x w' (by rw [← m5]; exact k1) (by rw [n4, n1g]; exact k2) k3 k4
      | none =>
      rw [hcf] at h1
      dsimp only at h1
      obtain ⟨hcnd, h2⟩ := bT h1
      rw [Bool.and_eq_true] at hcnd
      obtain ⟨p, S1, h3, h4⟩ := bZ h2
      obtain ⟨ex, E1⟩ := p
      have hbody : fn.body = some c := by rw [hfn.body, hb]
      rw [l5 hfn.at_ hfn.name (by rw [hbody]; rfl)]
      rw [Oper.uponIn_enter]
      refine ⟨hΦ.deep ν, ?_⟩
      have l1 := ((fq tb f).code _ _ _).le h3
      have hend : (ex = .normal ∨ ex = .ret) → results tb fi.res E1 S1 = some (v, S') → CallsIn Φ (ν - 1) C.P g ⟨args⟩ w fun
       | .returned v, w'' => next (a.put o.dst v) w''
       | .panicked chain, w'' => Q (.panic chain) a w''
       | .outgrown, _ => LetsOut Q := fun hex hr => by
       have l2 := (Good.results tb _ _).le hr
       refine hΦ.out (callsIn_of_wp_marks hfn.at_ hbody trivial ?_)
       refine And.left <| eJ u9 qI h.tab h.met h.mix h.fn f (Nat.le_succ f) fi.lps c _ S ex E1 S1 ρ _ w _ ⟨hfn.reg c hb, .inl rfl⟩ (hfn.lps c hb) h3 hF aW
        (by rw [hfn.nt]; exact env0_ok hl (Nat.le_of_ble_eq_true hcnd.1) (Nat.le_of_ble_eq_true hcnd.2)) (hfree.left l2) fun ρ' a' w' q1 q2 q3 q4 q5 => ?_
       rw [← hfn.res] at hr
       obtain ⟨ms, d1, d2, d3⟩ := q2
       have hend : bodyPostM Fence.wide (ν - 1) C.P fn (fun
        | .returned v, w'' => next (a.put o.dst v) w''
        | .panicked chain, w'' => Q (.panic chain) a w''
        | .outgrown, _ => LetsOut Q) .normal a' w' := by
        show LeavesInM Fence.wide (ν - 1) C.P fn a'.tmps _ a'.defers .returning w'
        rw [d1]
        simp only [List.append_nil]
        refine aB3 hF.size ms w' d2 d3 q3 q5 fun w2 k1 k2 => ?_
        obtain ⟨g1, g2, y, g3, g4⟩ := results_ok h.tab.toTyOk q1 k1 hr
        exact ⟨y, g3, hk ρ' y w2 g4 (by rw [g1]; exact k1) (by rw [g2]; exact q4) k2⟩
       rcases hex with hex | hex <;> rw [hex] <;> exact hend
      cases ex with
      | normal => exact hend (.inl rfl) h4
      | ret => exact hend (.inr rfl) h4
      | exit id => exact (aU h4).elim
      | goto l => exact (aU h4).elim
    cases hs : fi.sum with
    | none => rw [hs] at h1; exact main h1
    | some u =>
     rw [hs] at h1
     cases l with
     | cons x l => exact main h1
     | nil =>
      obtain ⟨rfl, rfl⟩ := aX h1
      simp only [aJ] at hl
      subst hl
      obtain ⟨hsome, hsum⟩ := hfn.sum _ hs
      rw [l5 hfn.at_ hfn.name (by rw [hfn.body]; exact hsome), Oper.uponIn_enter]
      refine ⟨hΦ.deep ν, hΦ.calls (Calls.mono (hsum w hF.inv hF.nsz) fun e w' he => ?_)⟩
      obtain ⟨x, rfl, hx, hb⟩ := he
      exact hk ρ x w' hx.vg (hF.kept hb) (Ext.refl _ _ _) (Below.less hb hF.size)
   ·intro n l S v S' ρ w args o a next Q Φ ν r hΦ hc hF aW hl hr hfree hk
    unfold eN at hc
    obtain ⟨en, k, S1, e1, e1k, e2, e3, h1⟩ := rbR hc
    obtain ⟨E, e4, h2⟩ := lb h1
    obtain ⟨p, S2, h3, h4⟩ := bZ h2
    obtain ⟨ex, E2⟩ := p
    have hexn : ex = .normal := by
     cases ex with
     | normal => rfl
     | _ => exact (aU h4).elim
    subst hexn
    obtain ⟨en1, k1, S3, f1, f1k, f2, f3, h5⟩ := rbR h4
    obtain ⟨hst, h6⟩ := bT h5
    obtain ⟨u, S4, h7, h8⟩ := bZ h6
    obtain ⟨q, S5, h9, h10⟩ := bZ h8
    obtain ⟨eq, E5⟩ := q
    obtain ⟨en2, k2, S6, g1, g1k, g2, g3, h11⟩ := rbR h10
    obtain ⟨u2, S7, h12, h13⟩ := bZ h11
    obtain ⟨hv, rfl⟩ := aX h13
    obtain ⟨a1, a2, a3, a4⟩ := qy h7
    obtain ⟨b1, b2, b3, b4⟩ := qy h12
    have l1 := ((fq tb f).code _ _ _).le h3
    have l2 := ((fq tb f).code _ _ _).le h9
    obtain ⟨L, hL, hk0⟩ := hF.entry h.fn e1 e1k hr
    have hE0 : eV C ρ ⟨k.tm, k.nt⟩ { tmps := L.tmps, defers := [] } := ⟨hk0.size, hk0.nt, hk0.tm⟩
    obtain ⟨hlen, hE1⟩ := aE4 k.ps l args _ E _ e4 hl hE0
    have hsz : (⟨args⟩ : Array Value).size = L.params.size := by
     show args.length = _
     rw [← hlen, ← hk0.ps, Array.length_toList]
    have hfold : (L.params.zip (⟨args⟩ : Array Value)).foldl (fun tmps (t, a) => tmps.setIfInBounds t a) L.tmps = (k.ps.zip args).foldl (fun (t : Array Value) (p : Nat × Value) => t.setIfInBounds p.1 p.2) L.tmps := by
     rw [← Array.foldl_toList, Array.toList_zip, hk0.ps]
    rw [run_yield hL hsz, Oper.uponIn_round]
    refine ⟨hΦ.deep ν, roundIn_of_wpIn (hΦ.fn _) ?_⟩
    rw [hfold, hk0.fD, hk0.body]
    rw [← e2] at hF
    refine And.left <| eJ (hΦ.inRound r.blk) qI h.tab h.met h.mix h.fn f (Nat.le_succ f) [] k.fD E S1 .normal E2 S2 ρ _ w _ ⟨hk0.okA.1, .inr hk0.okA.2⟩ (bV.nil _) h3 hF (by omega) hE1
     (by rw [e3]; exact hfree.left (by omega)) fun ρ1 c1 w1 p1 p2 p3 p4 p5 => ?_
    show ∃ w₂, (Instr.beginRound r.blk).run C.P w1 = .ok () w₂ ∧ k.body.wpIn (Φ.inRound r.blk) (ν - 1) C.P (roundPost C.P r.blk _) c1 w₂
    have hs1 : Sub ρ ρ1 := p4.sub (by rw [e3]; exact hfree.left (by omega))
    have hr1 := hs1 _ _ hr
    obtain ⟨L1, hL1, hk1⟩ := p3.entry h.fn f1 f1k hr1
    have hst0 : k1.st = 0 := Nat.eq_of_beq_eq_true hst
    refine ⟨_, run_beginRound hL1 (by rw [hk1.st, hst0]; rfl), ?_⟩
    have hkb : fH C ρ1 B ⟨k1.ps, k1.fD, k1.body, k1.tm, k1.nt, 1, k1.pend⟩ r { L1 with state := .busy } := { hk1 with st := rfl }
    have hF2 : Fits C tb.ng B ρ1 S4.heap (w1.putObj r.blk (.loop { L1 with state := .busy })) := by
     rw [a3, f2]
     exact p3.putJ h.fn a2 f1 hr1 hL1 (aE2 f1k _ _) hkb
    have hb2 : Below B w1 (w1.putObj r.blk (.loop { L1 with state := .busy })) := Below.putObj _ hL1 rfl hk1.own
    have hf1 : Free ρ1 S4.next S5.next := by
     rw [a4, f3]
     exact Free.left (hfree.right (by omega) (by rw [e3] at p4; exact p4)) (by omega)
    refine And.left <| eJ (hΦ.inRound r.blk) qI h.tab h.met h.mix h.fn f (Nat.le_succ f) [] k.body E2 S4 eq E5 S5 ρ1 _ _ _ ⟨hk0.okB.1, .inr hk0.okB.2⟩ (bV.nil _) h9 hF2 (by omega) p1 hf1 fun ρ2 c2 w3 q1 q2 q3 q4 q5 => ?_
    have hs2 : Sub ρ1 ρ2 := q4.sub hf1
    have hr2 := hs2 _ _ hr1
    obtain ⟨L2, hL2, hk2⟩ := q3.entry h.fn g1 g1k hr2
    have hend := run_endRound (P := C.P) (kK eq) hL2
    have hkc : fH C ρ2 B ⟨k2.ps, k2.fD, k2.body, k2.tm, k2.nt, cond (isN eq) 0 2, eq⟩ r { L2 with state := if (kK eq).isNone then .ready else .done, pending := kK eq } :=
     { hk2 with st := (by rw [aM4]; cases isN eq <;> rfl), pend := rfl }
    have hF3 : Fits C tb.ng B ρ2 S'.heap (w3.putObj r.blk (.loop { L2 with state := if (kK eq).isNone then .ready else .done, pending := kK eq })) := by
     rw [b3, g2]
     exact q3.putJ h.fn b2 g1 hr2 hL2 (aE2 g1k _ _) hkc
    have hb3 : Below B w3 (w3.putObj r.blk (.loop { L2 with state := if (kK eq).isNone then .ready else .done, pending := kK eq })) := Below.putObj _ hL2 rfl hk2.own
    have hext : Ext ρ ρ2 S.next S'.next := by
     rw [b4, g3]
     rw [e3] at p4
     rw [a4, f3] at q4
     exact p4.trans q4 (by omega) (by omega)
    have hfin := hk ρ2 (.bool (kK eq).isNone) _ (by rw [hv, aM4]; simp only [Rel]) hF3 hext (((p5.trans hb2).trans q5).trans hb3)
    cases eq with
    | normal => exact ⟨_, _, hend, hfin⟩
    | exit id => exact ⟨_, _, hend, hfin⟩
    | goto l => exact ⟨_, _, hend, hfin⟩
    | ret => exact ⟨_, _, hend, hfin⟩
theorem GM (h : aq C tb) (f : Nat) : CallOk C tb B (call tb f) := (cr_ok h f).1
end
end Go.AX
end
