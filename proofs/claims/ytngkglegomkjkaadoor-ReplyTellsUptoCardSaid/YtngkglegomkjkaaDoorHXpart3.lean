/- A part of the proof: what an interpreter answers on partly known states is what the program answers. No condition. -/
import Derived.Test.YtngkglegomkjkaaDoorHXpart2
import Derived.Orders
import Derived.Calls
import Derived.CallsIn
import Derived.OrdersIn
import Derived.LoopNIn
import Derived.RangeFuncIn
import Derived.LoopN
import Derived.RangeFuncRecord
set_option linter.unusedSimpArgs false
set_option linter.unusedVariables false
section
namespace Go.AX
section
variable {C : Cx} {tb : Tab} {B : Fz} {ρ : ak} {w : World} {S S' : St}
theorem srcR_ok (hF : Fits C tb.ng B ρ S.heap w) {m jd e2 sz : Nat} {ro : Bool} (hg : S.heap.get m = some (.r jd e2 sz ro)) {xv : Value} (hx : Rel C ρ (.sr m) xv) :
 ∃ (news : List Value) (n : Nat), C.nu jd = .tuple ⟨news⟩ ∧ news.length = n * sz ∧ (∀ y ∈ news, y.oneCell' = true) ∧ (∀ w', (Builtin.lenOf xv).run C.P w' = .ok n w') ∧ (∀ w', w'.heap = w.heap → (Builtin.firstCells sz n xv).run C.P w' = .ok news.toArray w') ∧ 1 ≤ sz := by
 simp only [Rel] at hx
 obtain ⟨r, hr, hcap, rfl⟩ := hx
 obtain ⟨arr, tt, fz, hb, htt, hrow⟩ := jl hF hg hr
 obtain ⟨l, hl, hlen, hcell⟩ := hrow.row
 refine ⟨l, r.cap, hl, hlen, fun y hy => ?_, fun w' => by simp [Builtin.lenOf], fun w' hw' => ?_, hrow.pos⟩
 ·obtain ⟨q, hq⟩ := List.getElem?_of_mem hy
  exact (hcell q y hq).2
 ·have := run_loadCells_list (P := C.P) w' ⟨r.blk, r.base, none⟩ l (fun j v hj => by
   have h1 := (hcell j v hj).1
   simp only [World.cell?, Addr.add_lit, hw', hb]
   simpa using h1)
  rw [hlen] at this
  simpa [Builtin.firstCells] using this
theorem appR_ok (ht : TyOk C.P tb) (hh : HypOk C tb) (hF : Fits C tb.ng B ρ S.heap w) (av : tb.ng ≤ S.next) {ats : Array Nat} {st xt ty n : Nat} {x v : AV} {sv xv : Value} (h0 : ats[0]? = some st) (h1 : ats[1]? = some xt) (hs : Rel C ρ (.sr n) sv) (hx : Rel C ρ x xv)
 (h : mz tb st xt n x S = some (v, S')) (hfree : Free ρ S.next S'.next) : ft C tb.ng B ρ w S S' v ats ty sv xv := by
 unfold mz at h
 obtain ⟨ti, e1, h2⟩ := lb h
 obtain ⟨i, hi, rfl⟩ := ht.ty _ _ e1
 rw [cF] at h2
 obtain ⟨e, e2, h3⟩ := lb h2
 have hu := dq (kU e2)
 obtain ⟨te, e3, h4⟩ := lb h3
 obtain ⟨ie, hie, rfl⟩ := ht.ty _ _ e3
 obtain ⟨tx, e4, h5⟩ := lb h4
 obtain ⟨ix, hix, rfl⟩ := ht.ty _ _ e4
 obtain ⟨hc, h6⟩ := bK h5
 simp only [Bool.and_eq_true, Bool.not_eq_true'] at hc
 obtain ⟨⟨c2, c4⟩, c5⟩ := hc
 obtain ⟨z0, hz0, hone, fL⟩ := ia c2
 obtain ⟨en, S1, g1, g2, g3, h7⟩ := ig h6
 cases en with
 | r id e' sz ro =>
  cases ro with
  | true => exact (ar h7).elim
  | false =>
  dsimp only at h7
  obtain ⟨hc2, h8⟩ := bK h7
  simp only [Bool.and_eq_true] at hc2
  have c6 : e' = e := Nat.eq_of_beq_eq_true hc2.1
  subst c6
  have hsz : ie.size = sz := Nat.eq_of_beq_eq_true hc2.2
  subst hsz
  obtain ⟨nn, h9, h10⟩ := lb h8
  obtain ⟨d, S2, h11, h12⟩ := bP h10
  obtain ⟨z, h13, cZ⟩ := lb h12
  obtain ⟨a, h15, h16⟩ := lb cZ
  obtain ⟨q, h17, h18⟩ := lb h16
  obtain ⟨u, S3, h19, h20⟩ := bP h18
  obtain ⟨v', S4, h21, h22⟩ := bP h20
  obtain ⟨rfl, rfl⟩ := ae h22
  have hz : z = .x a := by cases z <;> simp only [dK] at h15 <;> first | (cases h15; done) | (injection h15 with h15; rw [h15])
  subst hz
  simp only [Rel] at hs
  obtain ⟨r, hr, hcap, rfl⟩ := hs
  obtain ⟨arr, tt, fz, hb, htt, hrow⟩ := jl hF g1 hr
  have htt' := htt rfl
  subst tt
  obtain ⟨l, hl, hlen, hcell⟩ := hrow.row
  obtain ⟨hown, hbase, jD, hroom⟩ := hrow.own rfl
  have hpos := hrow.pos
  obtain ⟨s1, s2, s3, s4, news, s5, s6, s7, s8, s9, s10⟩ := src_ok (S := S1) (by rw [g2]; exact hF) hx h9 h11
  have hnl : news.length = nn * ie.size := by rw [s5.len]; exact s4
  obtain ⟨l', e5, e6⟩ := bR hh h13 ρ (C.nu id) news (by simp only [Rel]) s5
  rw [hl] at e5
  have e5 := fv e5
  subst e5
  simp only [Rel] at e6
  obtain ⟨m, n', hm, hml, hf1, hf2⟩ := bR hh h17 ρ (C.nu a) (by simp only [Rel])
  rw [← e6] at hm
  have hm := fv hm
  subst hm
  rw [List.length_append, hlen, hnl, ← Nat.add_mul] at hml
  have hn' : r.cap + nn = n' := Nat.eq_of_mul_eq_mul_right hpos hml
  subst hn'
  obtain ⟨k1, k2, k3, k4⟩ := ki h19
  obtain ⟨rfl, n1, n2, n3⟩ := gh h21
  obtain ⟨dx, fK, hni⟩ := mJ c4 c5
  have hA : gS C.P w ats e' ie xv nn news := ⟨xt, dx, h1, fK, .inl ⟨hni, s7, s8⟩⟩
  have hnext : S3.next = S.next := by rw [k4, s2, g3]
  have hheap : S'.heap = (S.heap.del n).set S3.next (.r a e' ie.size false) := by rw [n2, k3, s1, g2]
  have hf : ρ S3.next = none := by rw [hnext]; exact hfree _ (Nat.le_refl _) (by rw [n3, hnext]; omega)
  have hsum : (r.cap + nn) * ie.size = r.cap * ie.size + nn * ie.size := Nat.add_mul _ _ _
  by_cases hin : r.cap + nn ≤ r.es
  ·have hrun := rq (ty := ty) (a := ⟨r.blk, 0, none⟩) (sLen := r.cap) (sCap := r.es) h0 hu hie hA hin
   have hfits : r.cap * ie.size + nn * ie.size ≤ arr.size := by
    rw [← hsum]; exact Nat.le_trans (Nat.mul_le_mul_right _ hin) hroom
   have jg := lv C.P r.blk e' fz (r.cap * ie.size) news 0 arr w hb (fun x _ hxs => jD x hxs) (by rw [hnl]; omega) s6
   simp only [Nat.add_zero] at jg
   have qx : r.cap * ie.size + news.length ≤ arr.toList.length := by rw [hnl]; simpa using hfits
   have hsz2 : (bd arr.toList (r.cap * ie.size) news).toArray.size = arr.size := by
    simp only [List.size_toArray]; rw [iq _ _ _ qx]; simp
   have hbel : Below B w (w.setRow r.blk (bd arr.toList (r.cap * ie.size) news).toArray) := Below.row hb hown
   have hrow2 : nA C B a ie.size false ⟨r.blk, 0, r.cap + nn, r.es⟩ (bd arr.toList (r.cap * ie.size) news).toArray fz := by
    refine ⟨fun _ => ⟨hown, rfl, by rw [hsz2]; exact jD, by rw [hsz2]; exact hroom⟩, ⟨l ++ news, e6.symm, by rw [List.length_append, hlen, hnl, hsum], fun j y hj => ?_⟩, hin, hpos⟩
    rw [Nat.zero_add, List.getElem?_toArray, fc _ _ _ _ qx]
    rw [List.getElem?_append] at hj
    by_cases h1 : j < r.cap * ie.size
    ·rw [if_pos h1]; rw [if_pos (by omega)] at hj
     have := hcell j y hj
     rw [hbase, Nat.zero_add] at this
     exact ⟨by simpa using this.1, this.2⟩
    ·rw [if_neg h1]
     rw [if_neg (by omega)] at hj
     have hjl : j - l.length < news.length := by
      rcases Nat.lt_or_ge (j - l.length) news.length with h | h
      ·exact h
      ·rw [List.getElem?_eq_none h] at hj; cases hj
     rw [if_pos (by omega), ← hlen]
     exact ⟨hj, s6 y (List.mem_of_getElem? hj)⟩
   refine ⟨bW ρ S3.next ⟨r.blk, 0, r.cap + nn, r.es⟩, .slice (some ⟨r.blk, 0, none⟩) (r.cap + nn) r.es, _, ?_, ?_, ?_, ?_, hbel⟩
   ·rw [hbase, hrun, Addr.add_lit, Nat.zero_add, jg]; rfl
   ·simp only [Rel]; exact ⟨_, by simp [bW]; rfl, hin, rfl⟩
   ·rw [hheap]
    exact hF.move g1 hr k2 n1 hf (o := .cells (bd arr.toList (r.cap * ie.size) news).toArray e' fz) ⟨fun _ => rfl, hrow2⟩ rfl (setRow_heap w _ _ _ _ _ hb) (fun b hb' => setRow_other w _ _ _ hb') (by simp) hbel.block
   ·have := fW ρ S3.next ⟨r.blk, 0, r.cap + nn, r.es⟩
    rw [n3, hnext]; rw [hnext] at this; exact this
  ·have hin : r.es < r.cap + nn := by omega
   have hold : ∀ w', w'.heap = w.heap → (Builtin.firstCells ie.size r.cap (.slice (some ⟨r.blk, 0, none⟩) r.cap r.es)).run C.P w' = .ok l.toArray w' := fun w' hw' => by
    have := run_loadCells_list (P := C.P) w' ⟨r.blk, 0, none⟩ l (fun j v hj => by
     have := (hcell j v hj).1
     rw [hbase, Nat.zero_add] at this
     simp only [World.cell?, Addr.add_lit, hw', hb]
     simpa using this)
    rw [hlen] at this
    simpa [Builtin.firstCells] using this
   have hrun := mr (ty := ty) (z := z0) h0 hu hie hz0 fL hA hin hold hf1 hf2
   have hge := grownCap_ge w (r.cap + nn) r.es e'
   generalize hcp : grownCap w (r.cap + nn) r.es e' = cp at hrun hge
   have hz1 : z0.cells.size = ie.size := by simpa using fL
   have harr : (l.toArray ++ (news.toArray ++ madeCells z0.cells ((cp - (r.cap + nn)) * ie.size))).size = l.length + (news.length + (madeCells z0.cells ((cp - (r.cap + nn)) * ie.size)).size) := by simp
   have hrow2 : nA C B a ie.size false ⟨w.heap.size, 0, r.cap + nn, cp⟩ (l.toArray ++ (news.toArray ++ madeCells z0.cells ((cp - (r.cap + nn)) * ie.size))) (0, 0) := by
    refine ⟨fun _ => ⟨hF.fresh (Nat.le_refl _), rfl, fun x _ => by simp, ?_⟩, ⟨l ++ news, e6.symm, by rw [List.length_append, hlen, hnl, hsum], fun j y hj => ?_⟩, hge, hpos⟩
    ·rw [harr, hlen, hnl, size_madeCells, ← Nat.add_assoc, ← hsum, ← Nat.add_mul]
     show cp * ie.size ≤ _
     exact Nat.mul_le_mul_right _ (by omega)
    ·have hlt : j < (l ++ news).length := by
      rcases Nat.lt_or_ge j (l ++ news).length with h | h
      ·exact h
      ·rw [List.getElem?_eq_none h] at hj; cases hj
     refine ⟨?_, ?_⟩
     ·rw [Nat.zero_add, ← Array.append_assoc, Array.getElem?_append_left (by simpa using hlt)]
      simpa using hj
     ·rcases List.mem_append.mp (List.mem_of_getElem? hj) with h | h
      ·obtain ⟨q, hq⟩ := List.getElem?_of_mem h
       exact (hcell q y hq).2
      ·exact s6 y h
   have hFd := hF.del (v := n) k2
   have hFn := hFd.new (n := S3.next) (k := .r a e' ie.size false) (r := ⟨w.heap.size, 0, r.cap + nn, cp⟩) (w' := w.drew.alloc (.cells (l.toArray ++ (news.toArray ++ madeCells z0.cells ((cp - (r.cap + nn)) * ie.size))) e')) (o := .cells _ e' (0, 0)) n1 (by rw [hnext]; exact av) hf rfl ⟨fun _ => rfl, hrow2⟩ rfl
   refine ⟨bW ρ S3.next ⟨w.heap.size, 0, r.cap + nn, cp⟩, .slice (some ⟨w.heap.size, 0, none⟩) (r.cap + nn) cp, _, by rw [hbase]; exact hrun, ?_, ?_, ?_, ?_⟩
   ·simp only [Rel]; exact ⟨_, by simp [bW]; rfl, hge, rfl⟩
   ·rw [hheap]; exact hFn
   ·have := fW ρ S3.next ⟨w.heap.size, 0, r.cap + nn, cp⟩
    rw [n3, hnext]; rw [hnext] at this; exact this
   ·refine ⟨rfl, rfl, rfl, by simp, fun b hb' => ?_, fun b o hb' _ => ?_⟩
    ·have := hF.size b (by assumption)
     show (w.heap.push _)[b]? = _
     rw [Array.getElem?_push, if_neg (by omega)]
    ·have hlt : b < w.heap.size := oq hb'
     show (w.heap.push _)[b]? = _
     rw [Array.getElem?_push, if_neg (by omega)]; exact hb'
 | _ => exact (ar h7).elim
theorem appRR_ok (ht : TyOk C.P tb) (hh : HypOk C tb) (hF : Fits C tb.ng B ρ S.heap w) (av : tb.ng ≤ S.next) {ats : Array Nat} {st xt ty n m : Nat} {v : AV} {sv xv : Value} (h0 : ats[0]? = some st) (h1 : ats[1]? = some xt) (hs : Rel C ρ (.sr n) sv) (hx : Rel C ρ (.sr m) xv)
 (h : mw tb st xt n m S = some (v, S')) (hfree : Free ρ S.next S'.next) : ft C tb.ng B ρ w S S' v ats ty sv xv := by
 unfold mw at h
 exact (ar h).elim
theorem aB3 {s : AV} (h : jc s = true) : s = .bO := by cases s <;> simp only [jc] at h <;> first | rfl | (exact absurd h (by simp))
theorem nilR_ok (hh : HypOk C tb) {e0 : Nat} {s x : AV} {sv : Value} (h : wi tb s x = some e0) (hs : Rel C ρ s sv) : sv = .slice none 0 0 ∧ C.nu e0 = .tuple ⟨[]⟩ := by
 unfold wi at h
 cases hc : (jc s && xQ x) with
 | false => rw [hc] at h; cases h
 | true =>
 rw [hc, cond_true] at h
 have h1 := h
 simp only [Bool.and_eq_true] at hc
 have hn := aB3 hc.1
 subst hn
 simp only [Rel] at hs
 rw [oo] at h1
 cases hq : hl tb.hyp .rn with
 | none => rw [hq] at h1; cases h1
 | some z =>
  rw [hq] at h1
  have hz : z = .x e0 := by cases z <;> simp only [kO] at h1 <;> first | (cases h1; done) | (injection h1 with h1; rw [h1])
  subst hz
  have := bR hh hq ρ
  simp only [Rel] at this
  exact ⟨hs, this.symm⟩
theorem appRN_ok (ht : TyOk C.P tb) (hh : HypOk C tb) (hF : Fits C tb.ng B ρ S.heap w) (av : tb.ng ≤ S.next) {ats : Array Nat} {st xt ty e0 : Nat} {x v : AV} {sv xv : Value} (h0 : ats[0]? = some st) (h1 : ats[1]? = some xt) (hs : sv = .slice none 0 0) (he0 : C.nu e0 = .tuple ⟨[]⟩) (hx : Rel C ρ x xv)
 (h : my tb st xt e0 x S = some (v, S')) (hfree : Free ρ S.next S'.next) : ft C tb.ng B ρ w S S' v ats ty sv xv := by
 unfold my at h
 obtain ⟨ti, e1, h2⟩ := lb h
 obtain ⟨i, hi, rfl⟩ := ht.ty _ _ e1
 rw [cF] at h2
 obtain ⟨e, e2, h3⟩ := lb h2
 have hu := dq (kU e2)
 obtain ⟨te, e3, h4⟩ := lb h3
 obtain ⟨ie, hie, rfl⟩ := ht.ty _ _ e3
 obtain ⟨tx, e4, h5⟩ := lb h4
 obtain ⟨ix, hix, rfl⟩ := ht.ty _ _ e4
 obtain ⟨hc, h6⟩ := bK h5
 rw [fY] at hc h6
 simp only [Bool.and_eq_true, Bool.not_eq_true'] at hc
 obtain ⟨⟨⟨c2, c4⟩, c5⟩, c7⟩ := hc
 have hpos : 1 ≤ ie.size := Nat.le_of_ble_eq_true c7
 obtain ⟨z0, hz0, hone, fL⟩ := ia c2
 obtain ⟨nn, h9, h10⟩ := lb h6
 obtain ⟨hn1, h11⟩ := bK h10
 have hn1 : 1 ≤ nn := Nat.le_of_ble_eq_true hn1
 obtain ⟨d, S2, h12, h13⟩ := bP h11
 obtain ⟨z, cZ, h15⟩ := lb h13
 obtain ⟨a, h16, h17⟩ := lb h15
 obtain ⟨q, h18, h19⟩ := lb h17
 obtain ⟨v', S4, h21, h22⟩ := bP h19
 obtain ⟨rfl, rfl⟩ := ae h22
 have hz : z = .x a := by cases z <;> simp only [dK] at h16 <;> first | (cases h16; done) | (injection h16 with h16; rw [h16])
 subst hz
 subst hs
 obtain ⟨s1, s2, s3, s4, news, s5, s6, s7, s8, s9, s10⟩ := src_ok hF hx h9 h12
 have hnl : news.length = nn * ie.size := by rw [s5.len]; exact s4
 obtain ⟨l', e5, e6⟩ := bR hh cZ ρ (C.nu e0) news (by simp only [Rel]) s5
 rw [he0] at e5
 have e5 := fv e5
 subst e5
 simp only [Rel, List.nil_append] at e6
 obtain ⟨m, n', hm, hml, hf1, hf2⟩ := bR hh h18 ρ (C.nu a) (by simp only [Rel])
 rw [← e6] at hm
 have hm := fv hm
 subst hm
 rw [hnl] at hml
 have hn' : nn = n' := Nat.eq_of_mul_eq_mul_right hpos hml
 subst hn'
 obtain ⟨rfl, n1, n2, n3⟩ := gh h21
 obtain ⟨dx, fK, hni⟩ := mJ c4 c5
 have hA : gS C.P w ats e ie xv nn news := ⟨xt, dx, h1, fK, .inl ⟨hni, s7, s8⟩⟩
 have hf : ρ S.next = none := hfree _ (Nat.le_refl _) (by rw [n3, s2]; omega)
 have hold : ∀ w', w'.heap = w.heap → (Builtin.firstCells ie.size 0 (.slice none 0 0)).run C.P w' = .ok ([] : List Value).toArray w' := fun w' hw' => by
  simp [Builtin.firstCells]
 have hrun := mr (ty := ty) (z := z0) (base := none) (sLen := 0) (sCap := 0) (olds := []) h0 hu hie hz0 fL hA (by omega) hold (by rw [Nat.zero_add]; exact hf1) (by omega)
 have hge := grownCap_ge w (0 + nn) 0 e
 generalize hcp : grownCap w (0 + nn) 0 e = cp at hrun hge
 have harr : (([] : List Value).toArray ++ (news.toArray ++ madeCells z0.cells ((cp - (0 + nn)) * ie.size))).size = news.length + (madeCells z0.cells ((cp - (0 + nn)) * ie.size)).size := by simp
 have hrow2 : nA C B a ie.size false ⟨w.heap.size, 0, 0 + nn, cp⟩ (([] : List Value).toArray ++ (news.toArray ++ madeCells z0.cells ((cp - (0 + nn)) * ie.size))) (0, 0) := by
  refine ⟨fun _ => ⟨hF.fresh (Nat.le_refl _), rfl, fun x _ => by simp, ?_⟩, ⟨news, e6.symm, by rw [hnl]; simp, fun j y hj => ?_⟩, hge, hpos⟩
  ·rw [harr, hnl, size_madeCells, ← Nat.add_mul]
   show cp * ie.size ≤ _
   exact Nat.mul_le_mul_right _ (by omega)
  ·have hlt : j < news.length := by
    rcases Nat.lt_or_ge j news.length with h | h
    ·exact h
    ·rw [List.getElem?_eq_none h] at hj; cases hj
   refine ⟨?_, s6 y (List.mem_of_getElem? hj)⟩
   rw [Nat.zero_add, ← Array.append_assoc, Array.getElem?_append_left (by simpa using hlt)]
   simpa using hj
 have hFn := (s1 ▸ hF : Fits C tb.ng B ρ S2.heap w).new (n := S.next) (k := .r a e ie.size false) (r := ⟨w.heap.size, 0, 0 + nn, cp⟩) (w' := w.drew.alloc (.cells (([] : List Value).toArray ++ (news.toArray ++ madeCells z0.cells ((cp - (0 + nn)) * ie.size))) e)) (o := .cells _ e (0, 0)) (s2 ▸ n1) av hf rfl ⟨fun _ => rfl, hrow2⟩ rfl
 refine ⟨bW ρ S.next ⟨w.heap.size, 0, 0 + nn, cp⟩, .slice (some ⟨w.heap.size, 0, none⟩) (0 + nn) cp, _, hrun, ?_, ?_, ?_, ?_⟩
 ·simp only [Rel]; exact ⟨⟨w.heap.size, 0, 0 + nn, cp⟩, by simp [bW, s2], hge, rfl⟩
 ·rw [n2, s2]; exact hFn
 ·have := fW ρ S.next ⟨w.heap.size, 0, 0 + nn, cp⟩
  rw [n3, s2]; exact this
 ·refine ⟨rfl, rfl, rfl, by simp, fun b hb' => ?_, fun b o hb' _ => ?_⟩
  ·have := hF.size b (by assumption)
   show (w.heap.push _)[b]? = _
   rw [Array.getElem?_push, if_neg (by omega)]
  ·have hlt : b < w.heap.size := oq hb'
   show (w.heap.push _)[b]? = _
   rw [Array.getElem?_push, if_neg (by omega)]; exact hb'
theorem nilRR_ok (hh : HypOk C tb) {e0 m : Nat} {s x : AV} {sv : Value} (h : wh tb s x = some (e0, m)) (hs : Rel C ρ s sv) : sv = .slice none 0 0 ∧ C.nu e0 = .tuple ⟨[]⟩ ∧ x = .sr m := by
 unfold wh at h
 cases hc : jc s with
 | false => rw [hc] at h; cases h
 | true =>
 rw [hc, cond_true] at h
 have hn := aB3 hc
 subst hn
 simp only [Rel] at hs
 rw [oo] at h
 cases hx : gX x with
 | none => rw [hx] at h; cases h
 | some mm =>
  rw [hx] at h
  have hx' : x = .sr mm := by cases x <;> simp only [gX] at hx <;> first | (cases hx; done) | (injection hx with hx; rw [hx])
  cases hq : hl tb.hyp .rn with
  | none => rw [hq] at h; cases h
  | some z =>
   rw [hq] at h
   cases z <;> simp only [kO] at h <;> try (cases h; done)
   injection h with h
   injection h with h1 h2
   subst h1; subst h2
   have := bR hh hq ρ
   simp only [Rel] at this
   exact ⟨hs, this.symm, hx'⟩
theorem appRR0_ok (ht : TyOk C.P tb) (hh : HypOk C tb) (hF : Fits C tb.ng B ρ S.heap w) (av : tb.ng ≤ S.next) {ats : Array Nat} {st xt ty e0 m : Nat} {v : AV} {sv xv : Value} (h0 : ats[0]? = some st) (h1 : ats[1]? = some xt) (hs : sv = .slice none 0 0) (he0 : C.nu e0 = .tuple ⟨[]⟩) (hx : Rel C ρ (.sr m) xv)
 (h : mv tb st xt e0 m S = some (v, S')) (hfree : Free ρ S.next S'.next) : ft C tb.ng B ρ w S S' v ats ty sv xv := by
 unfold mv at h
 exact (ar h).elim
theorem fullSl_spec {s x : AV} {m : Nat} (h : zp s x = some m) : ∃ v o n, s = .sl v o n n false ∧ x = .sr m := by
 cases s <;> try (cases h; done)
 rename_i v o n c r
 cases r with
 | true => cases h
 | false =>
 cases x <;> try (cases h; done)
 simp only [zp] at h
 cases hb : Nat.beq n c with
 | false => rw [hb] at h; cases h
 | true =>
  rw [hb] at h
  injection h with h
  have := Nat.eq_of_beq_eq_true hb
  subst this; subst h
  exact ⟨_, _, _, rfl, rfl⟩
theorem aR6 {sb so sn : Nat} {sv : Value} (h : Rel C ρ (.sl sb so sn sn false) sv) : Rel C ρ (sl0 (.sl sb so sn sn false)) sv ∧ hU (sl0 (.sl sb so sn sn false)) = some sn := by
 unfold sl0
 cases hb : Nat.beq sn 0 with
 | true =>
  have := Nat.eq_of_beq_eq_true hb
  subst this
  simp only [Rel] at h
  obtain ⟨r, hr, _, rfl⟩ := h
  exact ⟨by simp only [cond_true, Rel, Nat.beq_refl]; exact ⟨_, _, rfl⟩, rfl⟩
 | false => exact ⟨by simp only [hb, cond_false]; exact h, by simp only [hb, cond_false]; rfl⟩
theorem appSR_ok (ht : TyOk C.P tb) (hh : HypOk C tb) (hF : Fits C tb.ng B ρ S.heap w) (av : tb.ng ≤ S.next) {ats : Array Nat} {st xt ty m sb so sn : Nat} {v : AV} {sv xv : Value} (h0 : ats[0]? = some st) (h1 : ats[1]? = some xt) (hs : Rel C ρ (.sl sb so sn sn false) sv) (hx : Rel C ρ (.sr m) xv)
 (h : mu tb st xt (.sl sb so sn sn false) m S = some (v, S')) (hfree : Free ρ S.next S'.next) : ft C tb.ng B ρ w S S' v ats ty sv xv := by
 unfold mu at h
 obtain ⟨ti, e1, h2⟩ := lb h
 obtain ⟨i, hi, rfl⟩ := ht.ty _ _ e1
 rw [cF] at h2
 obtain ⟨e, e2, h3⟩ := lb h2
 have hu := dq (kU e2)
 obtain ⟨te, e3, h4⟩ := lb h3
 obtain ⟨ie, hie, rfl⟩ := ht.ty _ _ e3
 obtain ⟨tx, e4, h5⟩ := lb h4
 obtain ⟨ix, hix, rfl⟩ := ht.ty _ _ e4
 obtain ⟨hc, h6⟩ := bK h5
 rw [fY] at hc h6
 simp only [Bool.and_eq_true, Bool.not_eq_true'] at hc
 obtain ⟨⟨⟨c2, c4⟩, c5⟩, c7⟩ := hc
 have hpos : 1 ≤ ie.size := Nat.le_of_ble_eq_true c7
 obtain ⟨z0, hz0, hone, fL⟩ := ia c2
 obtain ⟨en2, S2, gg1, s1, s2, h7'⟩ := ig h6
 obtain ⟨dx, fK, hni⟩ := mJ c4 c5
 obtain ⟨jd, e2, sz2, ro2, rfl⟩ : ∃ a b c d, en2 = .r a b c d := by cases en2 <;> first | exact ⟨_, _, _, _, rfl⟩ | exact (ar h7').elim
 dsimp only at h7'
 obtain ⟨hc2, h8⟩ := bK h7'
 have hsz2 : sz2 = ie.size := Nat.eq_of_beq_eq_true hc2
 subst hsz2
 obtain ⟨mm, h9, h10⟩ := lb h8
 obtain ⟨g, h11, h12⟩ := lb h10
 obtain ⟨news, nn, hjd, hnl, s6, s7, s8, _⟩ := srcR_ok (S := S) hF gg1 hx
 obtain ⟨cs, n0, hcs, hcl, hm0⟩ := bR hh h9 ρ (C.nu jd) (by simp only [Rel])
 rw [hjd] at hcs
 have hcs := fv hcs
 subst hcs
 rw [hnl] at hcl
 have hn0 : nn = n0 := Nat.eq_of_mul_eq_mul_right hpos hcl
 subst hn0
 obtain ⟨_, gv, hgv, hgr⟩ := bR hh h11 ρ (.int .i64 (nn : Int)) (.int .i64 0) hm0 (by simp only [Rel]; rfl)
 have hgd : gv = .bool (decide ((0 : Int) < nn)) := by
  have h1 := hgr 0 w
  have h2 : (binOp .gtr 0 (.int .i64 (nn : Int)) (.int .i64 0)).run C.P w = .ok (.bool (decide ((0 : Int) < nn))) w := by simp [binOp, Op.intCmp]
  rw [h2] at h1; injection h1 with h1; exact h1.symm
 cases g <;> try exact (ar h12).elim
 rename_i gb
 simp only [Rel] at hgv
 rw [hgd] at hgv
 injection hgv with hgv
 cases gb with
 | false => exact (ar h12).elim
 | true =>
 have hn1 : 1 ≤ nn := by have := of_decide_eq_true hgv; omega
 obtain ⟨n0', hn0', h13⟩ := lb h12
 simp only [hU, Option.some.injEq] at hn0'
 subst hn0'
 obtain ⟨d, S3, cZ, h15⟩ := bP h13
 obtain ⟨y0, h16, h17⟩ := lb h15
 obtain ⟨e0, h18, h19⟩ := lb h17
 obtain ⟨z1, h20, h21⟩ := lb h19
 obtain ⟨a1, h22, h23⟩ := lb h21
 obtain ⟨z, h24, h25⟩ := lb h23
 obtain ⟨a, h26, h27⟩ := lb h25
 obtain ⟨q, h28, h29⟩ := lb h27
 obtain ⟨v', S4, h30, h31⟩ := bP h29
 obtain ⟨rfl, rfl⟩ := ae h31
 have hsym : ∀ {z : AV} {a : Nat}, dK z = some a → z = .x a := fun {z a} h => by cases z <;> simp only [dK] at h <;> first | (cases h; done) | (injection h with h; rw [h])
 have := hsym h18; subst this
 have := hsym h22; subst this
 have := hsym h26; subst this
 obtain ⟨k1, k2, k3, k4, olds, k5, k6, k7, k8, k9, k10⟩ := src_ok (s1 ▸ hF : Fits C tb.ng B ρ S2.heap w) (aR6 hs).1 (aR6 hs).2 cZ
 have hol : olds.length = sn * ie.size := by rw [k5.len]; exact k4
 simp only [Rel] at hs
 obtain ⟨rr, hrr, _, rfl⟩ := hs
 have h16 := bR hh h16 ρ
 simp only [Rel] at h16
 obtain ⟨l', e5, e6⟩ := bR hh h20 ρ (C.nu e0) olds (by simp only [Rel]) k5
 rw [← h16] at e5
 have e5 := fv e5
 subst e5
 simp only [Rel, List.nil_append] at e6
 obtain ⟨l'', ds, e7, e7', e8⟩ := bR hh h24 ρ (C.nu a1) (C.nu jd) (by simp only [Rel]) (by simp only [Rel])
 rw [← e6] at e7
 have e7 := fv e7
 subst e7
 rw [hjd] at e7'
 have e7' := fv e7'
 subst e7'
 simp only [Rel] at e8
 obtain ⟨m', n', hm, hml, hf1, hf2⟩ := bR hh h28 ρ (C.nu a) (by simp only [Rel])
 rw [← e8] at hm
 have hm := fv hm
 subst hm
 rw [List.length_append, hol, hnl, ← Nat.add_mul] at hml
 have hn' : sn + nn = n' := Nat.eq_of_mul_eq_mul_right hpos hml
 subst hn'
 obtain ⟨rfl, n1, n2, n3⟩ := gh h30
 have hA : gS C.P w ats e ie xv nn news := ⟨xt, dx, h1, fK, .inl ⟨hni, s7, s8⟩⟩
 have hf : ρ S.next = none := hfree _ (Nat.le_refl _) (by rw [n3, k2, s2]; omega)
 have hrun := mr (ty := ty) (z := z0) (base := some ⟨rr.blk, rr.base + so, none⟩) (sLen := sn) (sCap := sn) (olds := olds) h0 hu hie hz0 fL hA (by omega) k8 hf1 (by omega)
 have hge := grownCap_ge w (sn + nn) sn e
 generalize hcp : grownCap w (sn + nn) sn e = cp at hrun hge
 have harr : (olds.toArray ++ (news.toArray ++ madeCells z0.cells ((cp - (sn + nn)) * ie.size))).size = olds.length + news.length + (madeCells z0.cells ((cp - (sn + nn)) * ie.size)).size := by simp [Nat.add_assoc]
 have hrow2 : nA C B a ie.size false ⟨w.heap.size, 0, sn + nn, cp⟩ (olds.toArray ++ (news.toArray ++ madeCells z0.cells ((cp - (sn + nn)) * ie.size))) (0, 0) := by
  refine ⟨fun _ => ⟨hF.fresh (Nat.le_refl _), rfl, fun x _ => by simp, ?_⟩, ⟨olds ++ news, e8.symm, by rw [List.length_append, hol, hnl, ← Nat.add_mul], fun j y hj => ?_⟩, hge, hpos⟩
  ·rw [harr, hol, hnl, size_madeCells, ← Nat.add_mul, ← Nat.add_mul]
   show cp * ie.size ≤ _
   exact Nat.mul_le_mul_right _ (by omega)
  ·have hlt : j < (olds ++ news).length := by
    rcases Nat.lt_or_ge j (olds ++ news).length with h | h
    ·exact h
    ·rw [List.getElem?_eq_none h] at hj; cases hj
   refine ⟨?_, ?_⟩
   ·rw [Nat.zero_add, ← Array.append_assoc, Array.getElem?_append_left (by simpa using hlt)]
    simpa using hj
   ·rcases List.mem_append.1 (List.mem_of_getElem? hj) with h | h
    ·exact k6 y h
    ·exact s6 y h
 have hFn := (k1 ▸ s1 ▸ hF : Fits C tb.ng B ρ S3.heap w).new (n := S.next) (k := .r a e ie.size false) (r := ⟨w.heap.size, 0, sn + nn, cp⟩) (w' := w.drew.alloc (.cells (olds.toArray ++ (news.toArray ++ madeCells z0.cells ((cp - (sn + nn)) * ie.size))) e)) (o := .cells _ e (0, 0)) (s2 ▸ k2 ▸ n1) av hf rfl ⟨fun _ => rfl, hrow2⟩ rfl
 refine ⟨bW ρ S.next ⟨w.heap.size, 0, sn + nn, cp⟩, .slice (some ⟨w.heap.size, 0, none⟩) (sn + nn) cp, _, hrun, ?_, ?_, ?_, ?_⟩
 ·simp only [Rel]; exact ⟨⟨w.heap.size, 0, sn + nn, cp⟩, by simp [bW, s2, k2], hge, rfl⟩
 ·rw [n2, k2, s2]; exact hFn
 ·have := fW ρ S.next ⟨w.heap.size, 0, sn + nn, cp⟩
  rw [n3, k2, s2]; exact this
 ·refine ⟨rfl, rfl, rfl, by simp, fun b hb' => ?_, fun b o hb' _ => ?_⟩
  ·have := hF.size b (by assumption)
   show (w.heap.push _)[b]? = _
   rw [Array.getElem?_push, if_neg (by omega)]
  ·have hlt : b < w.heap.size := oq hb'
   show (w.heap.push _)[b]? = _
   rw [Array.getElem?_push, if_neg (by omega)]; exact hb'
theorem appGN_ok (ht : TyOk C.P tb) (hh : HypOk C tb) (hF : Fits C tb.ng B ρ S.heap w) (av : tb.ng ≤ S.next) {ats : Array Nat} {st xt ty a : Nat} {v : AV} {sv xv : Value} (h0 : ats[0]? = some st) (h1 : ats[1]? = some xt) (hs : sv = .slice none 0 0) (hx : xv = C.nu a)
 (h : A1 tb st xt a S = some (v, S')) (hfree : Free ρ S.next S'.next) : ft C tb.ng B ρ w S S' v ats ty sv xv := by
 unfold A1 at h
 exact (ar h).elim
theorem appNG_ok (ht : TyOk C.P tb) (hh : HypOk C tb) (hF : Fits C tb.ng B ρ S.heap w) (av : tb.ng ≤ S.next) {ats : Array Nat} {st xt ty a : Nat} {v : AV} {sv xv : Value} (h0 : ats[0]? = some st) (h1 : ats[1]? = some xt) (hs : sv = .slice none 0 0) (hx : xv = C.nu a)
 (h : Az tb st xt a S = some (v, S')) (hfree : Free ρ S.next S'.next) : ft C tb.ng B ρ w S S' v ats ty sv xv := by
 unfold Az at h
 cases hc : intTt tb xt with
 | true => rw [hc] at h; exact appGN_ok ht hh hF av h0 h1 hs hx h hfree
 | false => rw [hc] at h; exact appN_ok ht hh hF av h0 h1 hs hx h hfree
end
end Go.AX
end
section
namespace Go.AX
section
variable {C : Cx} {tb : Tab} {B : Fz} {ρ : ak} {w : World} {S S' : St}
theorem clear_ok (ht : TyOk C.P tb) (hh : HypOk C tb) (hF : Fits C tb.ng B ρ S.heap w) {ats : Array Nat} {t ty : Nat} (h0 : ats[0]? = some t) {x v : AV} {xv : Value} (hx : Rel C ρ x xv) (h : mf tb t x S = some (v, S')) :
 S'.next = S.next ∧ ∃ y w', (Builtin.clear_ ats ty #[xv]).run C.P w = .ok y w' ∧ Rel C ρ v y ∧ Fits C tb.ng B ρ S'.heap w' ∧ Below B w w' := by
 have wg : Rel C ρ (.tu []) (.tuple #[]) := by simp only [Rel, aH]; exact ⟨[], rfl, rfl⟩
 unfold mf at h
 obtain ⟨ti, e1, h1⟩ := lb h
 obtain ⟨i, hi, rfl⟩ := ht.ty _ _ e1
 rw [cF] at h1
 cases hk : a6 C.P t <;> rw [hk] at h1 <;> try exact (ar h1).elim
 rename_i e
 have hu := dq hk
 cases x <;> try exact (ar h1).elim
 case bO =>
  obtain ⟨rfl, rfl⟩ := ae h1
  simp only [Rel] at hx; subst hx
  exact ⟨rfl, .tuple #[], w, by simp [Builtin.clear_, h0, run_underlying hu], wg, hF, Below.refl _ _⟩
 case sl b o n c q =>
  obtain ⟨rr, a, c', hr, rfl, hlc, ha⟩ := nr hx
  have h1 : (cond (Nat.beq n 0) (ret (.tu [])) (bnd (aK (tb.ty.get e)) fun te => bnd (rd b) fun k =>
   cond (te.zs && Nat.ble k.fr o && Nat.ble (Nat.add o (Nat.mul n te.size)) k.c.len) (bnd (aK (k.c.put o (jT te.zc n))) fun c => bnd (upd b { k with c := c }) fun _ => ret (.tu [])) fail)) S = some (v, S') := h1
  cases hn : Nat.beq n 0 with
  | true =>
   rw [hn, cond_true] at h1
   have hn := cH hn
   subst hn
   obtain ⟨rfl, rfl⟩ := ae h1
   exact ⟨rfl, .tuple #[], w, by simp [Builtin.clear_, h0, run_underlying hu], wg, hF, Below.refl _ _⟩
  | false =>
   rw [hn, cond_false] at h1
   have hn := gN hn
   obtain ⟨te, e2, h2⟩ := lb h1
   obtain ⟨ie, hie, rfl⟩ := ht.ty _ _ e2
   obtain ⟨k, S1, k1, k2, k3, h3⟩ := rb h2
   obtain ⟨hc, h4⟩ := bK h3
   simp only [Bool.and_eq_true] at hc
   obtain ⟨⟨c1, c2⟩, c3⟩ := hc
   have c2 : k.fr ≤ o := Nat.le_of_ble_eq_true c2
   have c3 : o + n * ie.size ≤ k.c.len := Nat.le_of_ble_eq_true c3
   obtain ⟨cc, h5, h6⟩ := lb h4
   obtain ⟨u, S2, h7, h8⟩ := bP h6
   obtain ⟨rfl, rfl⟩ := ae h8
   obtain ⟨u1, u2, u3, u4⟩ := nb h7
   obtain ⟨arr, fz, hbk, hk2⟩ := fm hF k1 hr
   obtain ⟨z, hz, hone, hlen⟩ := ia c1
   obtain ⟨hrel, hcw⟩ := CH (P := C.P) (t := e) (n := n) hz hlen ρ C
   obtain ⟨p1, p2, p3⟩ := Cells.CM hk2.cells.1 hcw h5
   have hmz := na z.cells n ie.size hlen
   have hml : (madeCells z.cells (n * ie.size)).toList.length = n * ie.size := by rw [mD _ _ _ hlen]; simp [hlen]
   have hroom := hk2.room
   obtain ⟨w', g1, g2, g3⟩ := Bi hF k1 u2 hr hbk hk2 hrel (by rw [mD _ _ _ hlen]; exact aO4 hone n) c2 (by omega) (by rw [hml]; omega) (fun hg => by have := (hk2.grown hg).2.2.1; rw [hml]; omega)
    (fun hB => by have := (hk2.old hB).1; exact List.eq_nil_of_length_eq_zero (by rw [hml]; omega)) p2 p3
   have ha : a = ⟨rr.blk, rr.base + o, none⟩ := ha.resolve_right hn
   subst ha
   refine ⟨by rw [u4, k3], .tuple #[], w', ?_, wg, by rw [u3, k2]; exact g2, g3⟩
   have hzv : (zeroValue e).run C.P w = .ok z w := by simp [zeroValue, dh hie, hz]
   obtain ⟨n, rfl⟩ : ∃ m, n = m + 1 := ⟨n - 1, by omega⟩
   rw [← hmz] at g1
   simp [Builtin.clear_, h0, run_underlying hu, hzv, g1]
 case tl vv i sz =>
  have h1 : (bnd (aK (tb.ty.get e)) fun te => bnd (rdA vv) fun k => jt tb e vv i sz te.size k) S = some (v, S') := h1
  obtain ⟨te, e2, h2⟩ := lb h1
  obtain ⟨ie, hie, rfl⟩ := ht.ty _ _ e2
  obtain ⟨k0, S1, g1, g2, g3, h3⟩ := ig h2
  simp only [Rel] at hx
  obtain ⟨r, kk, j, a, hr, hi, hjc, hcap, rfl, ha⟩ := hx
  cases k0 with
  | r id e' sz' ro =>
   cases ro with
   | true => exact (ar (by unfold jt at h3; exact h3)).elim
   | false =>
   unfold jt at h3
   obtain ⟨hc, h4⟩ := bK h3
   simp only [Bool.and_eq_true] at hc
   have c1 : sz = sz' := Nat.eq_of_beq_eq_true hc.1
   have c2 : ie.size = sz := Nat.eq_of_beq_eq_true hc.2
   subst c1; subst c2
   obtain ⟨z, h5, h6⟩ := lb h4
   obtain ⟨a', h7, h8⟩ := lb h6
   obtain ⟨u, S2, h9, h10⟩ := bP h8
   obtain ⟨rfl, rfl⟩ := ae h10
   obtain ⟨u1, u2, u3, u4⟩ := lr h9
   have hz : z = .x a' := by cases z <;> simp only [dK] at h7 <;> first | (cases h7; done) | (injection h7 with h7; rw [h7])
   subst hz
   obtain ⟨arr, tt, fz, hb, htt, hrow⟩ := jl hF g1 hr
   have htt' := htt rfl
   subst tt
   obtain ⟨l0, hl, hlen, hcell⟩ := hrow.row
   obtain ⟨hown, hbase, jD, hroom⟩ := hrow.own rfl
   obtain ⟨cs, k', j', m, ti', zv, e1, e3, e4, e5, e6, e7, e8, e9⟩ := bR hh h5 ρ (C.nu id) _ (by simp only [Rel]) hi
   rw [hl] at e1
   have e1 : l0 = cs := by injection e1 with e1; injection e1
   subst e1
   injection e3 with e3 e10
   injection e10 with e10; subst e10
   rw [hie] at e4; injection e4 with e4; subst e4
   simp only [Rel] at e9
   have hpos := hrow.pos
   have hm : r.cap = j + m := by
    rw [hlen] at e8
    exact Nat.eq_of_mul_eq_mul_right hpos e8
   have hzv : (zeroValue e).run C.P w = .ok zv w := by simp [zeroValue, dh hie, e5]
   have hmz := na zv.cells m ie.size e6
   have hml : (madeCells zv.cells (m * ie.size)).toList.length = m * ie.size := by rw [mD _ _ _ e6]; simp [e6]
   have hme : (madeCells zv.cells (m * ie.size)).toList = (List.replicate m zv.cells.toList).flatten := mD _ _ _ e6
   have hcm : r.cap * ie.size = j * ie.size + m * ie.size := by rw [hm, Nat.add_mul]
   have hcm2 := Nat.mul_le_mul_right ie.size hcap
   have hja : j * ie.size + m * ie.size ≤ arr.size := by omega
   have h1c : ∀ x ∈ (List.replicate m zv.cells.toList).flatten, x.oneCell' = true := fun x hx => by
    obtain ⟨q, hq, hxq⟩ := List.mem_flatten.1 hx
    rw [List.eq_of_mem_replicate hq] at hxq
    exact e7 x hxq
   have hrun := lv C.P r.blk e' fz (j * ie.size) (List.replicate m zv.cells.toList).flatten 0 arr w hb (fun x _ hxs => jD x hxs) (by rw [← hme, hml]; omega) h1c
   simp only [Nat.add_zero] at hrun
   have hfl : (List.replicate m zv.cells.toList).flatten.length = m * ie.size := by rw [← hme, hml]
   have hfit : j * ie.size + (List.replicate m zv.cells.toList).flatten.length ≤ arr.toList.length := by rw [hfl]; simp; omega
   have hsz' : (bd arr.toList (j * ie.size) (List.replicate m zv.cells.toList).flatten).toArray.size = arr.size := by
    simp only [List.size_toArray]; rw [iq _ _ _ hfit]; simp
   have hbel : Below B w (w.setRow r.blk (bd arr.toList (j * ie.size) (List.replicate m zv.cells.toList).flatten).toArray) := Below.row hb hown
   have hlz : bd l0 (j * ie.size) (List.replicate m zv.cells.toList).flatten = l0.take (j * ie.size) ++ (List.replicate m zv.cells.toList).flatten := by
    unfold bd
    rw [List.drop_eq_nil_of_le (by rw [hfl]; omega), List.append_nil]
   refine ⟨by rw [u4, g3], .tuple #[], w.setRow r.blk (bd arr.toList (j * ie.size) (List.replicate m zv.cells.toList).flatten).toArray, ?_, wg, ?_, hbel⟩
   ·rw [hm, Nat.add_sub_cancel_left]
    rcases Nat.eq_zero_or_pos m with rfl | hmp
    ·have hself : w.setRow r.blk (bd arr.toList (j * ie.size) (List.replicate 0 zv.cells.toList).flatten).toArray = w := by
      have : (bd arr.toList (j * ie.size) (List.replicate 0 zv.cells.toList).flatten).toArray = arr := by simp [bd]
      rw [this, setRow_self w _ _ _ _ hb]
     rw [hself]
     simp [Builtin.clear_, h0, run_underlying hu]
    ·have ha : a = ⟨r.blk, r.base + j * ie.size, none⟩ := ha.resolve_right (by omega)
     subst ha
     rw [hbase, Nat.zero_add]
     obtain ⟨n, rfl⟩ : ∃ q, m = q + 1 := ⟨m - 1, by omega⟩
     rw [← hme, ← hmz] at hrun
     rw [← hme, ← hmz]
     simp [Builtin.clear_, h0, run_underlying hu, hzv, hrun]
   ·rw [u3, g2]
    refine hF.upd u2 g1 hr (k' := .r a' e' ie.size false) (o := .cells (bd arr.toList (j * ie.size) (List.replicate m zv.cells.toList).flatten).toArray e' fz) ⟨fun _ => rfl, ?_⟩ (setRow_heap w _ _ _ _ _ hb) (fun b hb' => setRow_other w _ _ _ hb') (by simp) hbel.block
    refine ⟨fun _ => ⟨hown, hbase, by rw [hsz']; exact jD, by rw [hsz']; exact hroom⟩, ⟨bd l0 (j * ie.size) (List.replicate m zv.cells.toList).flatten, by rw [hlz]; exact e9.symm, by rw [iq _ _ _ (by rw [hfl]; omega)]; exact hlen, fun q c hq => ?_⟩, hcap, hpos⟩
    rw [List.getElem?_toArray, fc _ _ _ _ hfit, hbase, Nat.zero_add]
    rw [fc _ _ _ _ (by rw [hfl]; omega)] at hq
    by_cases h1 : q < j * ie.size
    ·rw [if_pos h1] at hq ⊢
     have := hcell q c hq
     rw [hbase, Nat.zero_add] at this
     simpa using this
    ·rw [if_neg h1] at hq ⊢
     by_cases h2 : q < j * ie.size + (List.replicate m zv.cells.toList).flatten.length
     ·rw [if_pos h2] at hq ⊢
      exact ⟨hq, h1c c (List.mem_of_getElem? hq)⟩
     ·rw [if_neg h2] at hq ⊢
      have := hcell q c hq
      rw [hbase, Nat.zero_add] at this
      simpa using this
  | _ => exact (ar (by unfold jt at h3; exact h3)).elim
end
end Go.AX
end
section
namespace Go.AX
section
variable {C : Cx} {tb : Tab} {B : Fz} {ρ : ak} {w : World} {S S' : St}
variable {f : Operand → AV} {g : Operand → Value}
theorem Ax (hf : ∀ x, Rel C ρ (f x) (g x)) (l : List Operand) : aH C ρ (l.map f) (l.map g) := aH.map f g hf l
theorem s_builtin (ht : ld C tb) (hF : Fits C tb.ng B ρ S.heap w) (av : tb.ng ≤ S.next) (hf : ∀ x, Rel C ρ (f x) (g x)) {c : Call} {bi : Builtin} {o : Oper} (ho : o.op = .call c) (hc : c.callee = .builtin bi) {v : AV}
 (h : builtin tb bi c.argTypes.toList (c.args.toList.map f) S = some (v, S')) (hfree : Free ρ S.next S'.next) : bX C tb.ng B ρ w S S' v ((execOp g o).run C.P w) := by
 have hargs := Ax hf c.args.toList
 have hga : c.args.map g = (c.args.toList.map g).toArray := by rw [← List.map_toArray, Array.toArray_toList]
 have hex : (execOp g o).run C.P w = (Go.builtin bi c.argTypes o.type (c.args.map fun | .const _ => true | _ => false) (c.args.toList.map g).toArray).run C.P w := by
  simp only [execOp, ho, resolve, hc, hga]; rfl
 rw [hex]
 generalize (c.args.map fun | .const _ => true | _ => false) = consts
 generalize c.args.toList.map f = l at h hargs
 generalize c.args.toList.map g = vs at hargs
 have fe : ∀ (t : Nat) r, c.argTypes.toList = t :: r → c.argTypes[0]? = some t := fun t r e => by
  rw [← Array.getElem?_toList, e]; rfl
 have ji : ∀ (t u : Nat) r, c.argTypes.toList = t :: u :: r → c.argTypes[1]? = some u := fun t u r e => by
  rw [← Array.getElem?_toList, e]; rfl
 have two : ∀ {a b : AV} {vs : List Value}, aH C ρ [a, b] vs → ∃ x y, vs = [x, y] ∧ Rel C ρ a x ∧ Rel C ρ b y := by
  intro a b vs h; simp only [aH] at h
  obtain ⟨x, vt, rfl, h1, y, vt2, rfl, h2, rfl⟩ := h; exact ⟨x, y, rfl, h1, h2⟩
 have one : ∀ {a : AV} {vs : List Value}, aH C ρ [a] vs → ∃ x, vs = [x] ∧ Rel C ρ a x := by
  intro a vs h; simp only [aH] at h
  obtain ⟨x, vt, rfl, h1, rfl⟩ := h; exact ⟨x, rfl, h1⟩
 generalize hts : c.argTypes.toList = ts at h
 unfold builtin at h
 split at h
 ·rename_i t r x
  obtain ⟨x', rfl, hx⟩ := one hargs
  obtain ⟨ti, e1, h1⟩ := lb h
  obtain ⟨i, hi, rfl⟩ := ht.ty _ _ e1
  rw [cF] at h1
  obtain ⟨eh, y, h2, h3⟩ := lenK_ok (w := w) (ty := o.type) hF ht.toHypOk hx h1
  have h2' : (Builtin.len_ c.argTypes o.type #[x']).run C.P w = .ok y w := by
   have : Builtin.len_ c.argTypes o.type #[x'] = Builtin.len_ #[t] o.type #[x'] := by simp [Builtin.len_, fe _ _ hts]
   rw [this]; exact h2
  exact bX.of (.same hF eh h2' h3)
 ·rename_i t r x
  obtain ⟨x', rfl, hx⟩ := one hargs
  obtain ⟨ti, e1, h1⟩ := lb h
  obtain ⟨i, hi, rfl⟩ := ht.ty _ _ e1
  rw [cF] at h1
  obtain ⟨rfl, y, h2, h3⟩ := capK_ok (C := C) (w := w) (ty := o.type) hx h1
  have h2' : (Builtin.cap_ c.argTypes o.type #[x']).run C.P w = .ok y w := by
   have : Builtin.cap_ c.argTypes o.type #[x'] = Builtin.cap_ #[t] o.type #[x'] := by simp [Builtin.cap_, fe _ _ hts]
   rw [this]; exact h2
  exact bX.of (.same hF rfl h2' h3)
 ·rename_i x l'
  obtain ⟨h1, rfl⟩ := cS h
  simp only [aH] at hargs
  obtain ⟨x', vt, rfl, hx, hl⟩ := hargs
  obtain ⟨y, h2, h3⟩ := aO3 (C := C) (w := w) (gg := Builtin.max2) (fun hx hy h => mm_ok (mx := true) ht.toHypOk hx hy h) l' vt x v x' hl hx h1
  exact bX.of (s := Builtin.max_ c.argTypes o.type (x' :: vt).toArray) (.same hF rfl (by simpa [Builtin.max_] using h2) h3)
 ·rename_i x l'
  obtain ⟨h1, rfl⟩ := cS h
  simp only [aH] at hargs
  obtain ⟨x', vt, rfl, hx, hl⟩ := hargs
  obtain ⟨y, h2, h3⟩ := aO3 (C := C) (w := w) (gg := Builtin.min2) (fun hx hy h => mm_ok (mx := false) ht.toHypOk hx hy h) l' vt x v x' hl hx h1
  exact bX.of (s := Builtin.min_ c.argTypes o.type (x' :: vt).toArray) (.same hF rfl (by simpa [Builtin.min_] using h2) h3)
 ·rename_i st xt r s x
  obtain ⟨s', x', rfl, hs, hx⟩ := two hargs
  unfold pH at h
  cases hsy : jQ s with
  | none =>
   rw [hsy] at h
   simp only [] at h
   cases hnx : we tb.hyp s x with
   | some a => rw [hnx] at h; obtain ⟨g1, g2⟩ := nilX_ok ht.toHypOk w hnx hs hx; exact bX.of (appNG_ok (ty := o.type) ht.toTyOk ht.toHypOk hF av (fe _ _ hts) (ji _ _ _ hts) g1 g2 h hfree)
   | none =>
    rw [hnx] at h
    dsimp only at h
    cases hne : wj tb st s x with
    | some e0 =>
     rw [hne] at h
     obtain ⟨g1, g2⟩ := nilE_ok ht.toHypOk hne hs
     exact bX.of (appE_ok (ty := o.type) ht.toTyOk ht.toHypOk hF av (fe _ _ hts) (ji _ _ _ hts) g1 g2 hx h hfree)
    | none =>
     rw [hne] at h
     dsimp only at h
     cases hsr : gX s with
     | some v =>
      rw [hsr] at h
      have := B4 hsr
      subst this
      dsimp only at h
      cases hsx : gX x with
      | some m =>
       rw [hsx] at h
       have := B4 hsx
       subst this
       exact bX.of (appRR_ok (ty := o.type) ht.toTyOk ht.toHypOk hF av (fe _ _ hts) (ji _ _ _ hts) hs hx h hfree)
      | none =>
       rw [hsx] at h
       exact bX.of (appR_ok (ty := o.type) ht.toTyOk ht.toHypOk hF av (fe _ _ hts) (ji _ _ _ hts) hs hx h hfree)
     | none =>
      rw [hsr] at h
      dsimp only at h
      cases hnr : wi tb s x with
      | some e0 =>
       rw [hnr] at h
       obtain ⟨g1, g2⟩ := nilR_ok ht.toHypOk hnr hs
       exact bX.of (appRN_ok (ty := o.type) ht.toTyOk ht.toHypOk hF av (fe _ _ hts) (ji _ _ _ hts) g1 g2 hx h hfree)
      | none =>
       rw [hnr] at h
       dsimp only at h
       cases hrr : wh tb s x with
       | some q =>
        rw [hrr] at h
        obtain ⟨q1, q2⟩ := q
        obtain ⟨g1, g2, g3⟩ := nilRR_ok ht.toHypOk hrr hs
        subst g3
        exact bX.of (appRR0_ok (ty := o.type) ht.toTyOk ht.toHypOk hF av (fe _ _ hts) (ji _ _ _ hts) g1 g2 hx h hfree)
       | none =>
        rw [hrr] at h
        dsimp only at h
        cases hfs : zp s x with
        | some m =>
         rw [hfs] at h
         obtain ⟨_, _, _, rfl, rfl⟩ := fullSl_spec hfs
         exact bX.of (appSR_ok (ty := o.type) ht.toTyOk ht.toHypOk hF av (fe _ _ hts) (ji _ _ _ hts) hs hx h hfree)
        | none => rw [hfs] at h; exact bX.of (appK_ok (ty := o.type) ht.toTyOk hF av (fe _ _ hts) (ji _ _ _ hts) hs hx h hfree)
  | some n => rw [hsy] at h; exact bX.of (appY_ok (ty := o.type) ht.toTyOk ht.toHypOk hF av (fe _ _ hts) (ji _ _ _ hts) (Bx hsy hs) hx h hfree)
 ·rename_i st r d x
  obtain ⟨d', x', rfl, hd, hx⟩ := two hargs
  obtain ⟨h1, y, w', h2, h3, h4, h5⟩ := copyK_ok (ty := o.type) ht.toTyOk hF (fe _ _ hts) hd hx h
  exact bX.of (s := Builtin.copy_ c.argTypes o.type #[d', x']) ⟨ρ, y, w', h2, h3, h4, Ext.refl _ _ _, h5⟩
 ·rename_i t r x
  obtain ⟨x', rfl, hx⟩ := one hargs
  obtain ⟨h1, y, w', h2, h3, h4, h5⟩ := clear_ok (ty := o.type) ht.toTyOk ht.toHypOk hF (fe _ _ hts) hx h
  exact bX.of (s := Builtin.clear_ c.argTypes o.type #[x']) ⟨ρ, y, w', h2, h3, h4, by rw [h1]; exact Ext.refl _ _ _, h5⟩
 ·rename_i x
  obtain ⟨x', rfl, hx⟩ := one hargs
  obtain ⟨h1, h2, y, h3, h4⟩ := dataU_ok (ats := c.argTypes) (ty := o.type) ht.toTyOk ht.toHypOk hF hx h
  exact bX.of (s := Builtin.unsafeSliceData_ c.argTypes o.type #[x']) (.same hF h1 h3 h4)
 ·rename_i pt r x n
  obtain ⟨x', n', rfl, hx, hn⟩ := two hargs
  obtain ⟨h1, y, w', h2, h3, h4, h5⟩ := ustrU_ok (ty := o.type) ht.toTyOk ht.toHypOk hF (fe _ _ hts) hx hn h
  exact bX.of (s := Builtin.unsafeString_ c.argTypes o.type #[x', n']) ⟨ρ, y, w', h2, h3, h4, Ext.refl _ _ _, h5⟩
 ·exact (ar h).elim
end
end Go.AX
end
section
namespace Go.AX
def Rw (S : St) (hi : Nat) : Prop := ∀ v, S.next ≤ v → v < hi → S.heap.get v = none
structure Fr {α : Type} (m : M α) (S : St) (x : α) (S' : St) (A W : Nat) : Prop where
 acc : S'.acc = Nat.lor S.acc A
 wr : S'.wr = Nat.lor S.wr W
 sub : ∀ v, W.testBit v = true → A.testBit v = true
 lt : ∀ v, W.testBit v = true → v < S'.next
 ex : ∀ v, A.testBit v = true → S'.next ≤ v → S.heap.get v ≠ none
 al : ∀ v, S.next ≤ v → v < S'.next → W.testBit v = true
 keep : ∀ v, W.testBit v = false → S'.heap.get v = S.heap.get v
 fr : ∀ T : St, T.next = S.next → (∀ v, A.testBit v = true → ¬ (S.next ≤ v ∧ v < S'.next) → T.heap.get v = S.heap.get v) →
  ∃ T', m T = some (x, T') ∧ T'.next = S'.next ∧ T'.acc = Nat.lor T.acc A ∧ T'.wr = Nat.lor T.wr W ∧ ∀ v, T'.heap.get v = if W.testBit v then S'.heap.get v else T.heap.get v
structure Good {α : Type} (m : M α) : Prop where
 mono : ∀ S x S', m S = some (x, S') → S.next ≤ S'.next
 ok : ∀ S x S', Rw S S'.next → m S = some (x, S') → ∃ A W, Fr m S x S' A W
theorem fZ (n : Nat) : Nat.lor n 0 = n := Nat.or_zero n
theorem w6 (a b c : Nat) : Nat.lor (Nat.lor a b) c = Nat.lor a (Nat.lor b c) := Nat.or_assoc a b c
theorem fw (a b v : Nat) : (Nat.lor a b).testBit v = (a.testBit v || b.testBit v) := Nat.testBit_or a b v
theorem c9 (u v : Nat) : (bit u).testBit v = decide (u = v) := by
 show (1 <<< u).testBit v = _
 rw [Nat.one_shiftLeft, Nat.testBit_two_pow]
theorem Fr.none {α : Type} {m : M α} {S : St} {x : α} (h : ∀ T, m T = some (x, T)) : Fr m S x S 0 0 :=
 ⟨(fZ _).symm, (fZ _).symm, fun v h => by simp at h, fun v h => by simp at h, fun v h => by simp at h, fun v h1 h2 => by omega, fun _ _ => rfl,
   fun T hT _ => ⟨T, h T, hT, (fZ _).symm, (fZ _).symm, fun v => by simp⟩⟩
theorem Good.ret {α : Type} (a : α) : Good (AX.ret a) := ⟨fun S x S' h => by obtain ⟨rfl, rfl⟩ := ae h; exact Nat.le_refl _, fun S x S' hw h => by
 obtain ⟨rfl, rfl⟩ := ae h
 exact ⟨0, 0, .none fun T => rfl⟩⟩
theorem Good.fail {α : Type} : Good (AX.fail : M α) := ⟨fun S x S' h => (ar h).elim, fun S x S' hw h => (ar h).elim⟩
theorem Good.aK {α : Type} (o : Option α) : Good (AX.aK o) := ⟨fun S x S' h => by obtain ⟨_, rfl⟩ := cS h; exact Nat.le_refl _, fun S x S' hw h => by
 obtain ⟨h1, rfl⟩ := cS h
 exact ⟨0, 0, .none fun T => by rw [h1]; rfl⟩⟩
theorem Fr.rw {α : Type} {m : M α} {S : St} {x : α} {S' : St} {A W hi : Nat} (q : Fr m S x S' A W) (h : Rw S hi) (hle : S.next ≤ S'.next) : Rw S' hi := fun v h1 h2 => by
 cases hW : W.testBit v with
 | true => have := q.lt v hW; omega
 | false => rw [q.keep v hW]; exact h v (by omega) h2
theorem Good.bnd {α β : Type} {m : M α} {f : α → M β} (hm : Good m) (hf : ∀ a, Good (f a)) : Good (AX.bnd m f) := ⟨fun S x S' h => by
 obtain ⟨a, S1, h1, h2⟩ := bP h
 exact Nat.le_trans (hm.mono _ _ _ h1) ((hf a).mono _ _ _ h2), fun S x S' hw h => by
 obtain ⟨a, S1, h1, h2⟩ := bP h
 have l1 := hm.mono _ _ _ h1
 have l2 := (hf a).mono _ _ _ h2
 obtain ⟨A, W, q⟩ := hm.ok _ _ _ (fun v a b => hw v a (by omega)) h1
 obtain ⟨A2, W2, r⟩ := (hf a).ok _ _ _ (q.rw hw l1) h2
 refine ⟨Nat.lor A A2, Nat.lor W W2, by rw [r.acc, q.acc, w6], by rw [r.wr, q.wr, w6], fun v hv => ?_, fun v hv => ?_, fun v hv hge => ?_, fun v h1 h2 => ?_, fun v hv => ?_, fun T hT hag => ?_⟩
 ·rw [fw, Bool.or_eq_true] at hv ⊢; exact hv.imp (q.sub v) (r.sub v)
 ·rw [fw, Bool.or_eq_true] at hv
  rcases hv with hv | hv
  ·exact Nat.lt_of_lt_of_le (q.lt v hv) l2
  ·exact r.lt v hv
 ·rw [fw, Bool.or_eq_true] at hv
  rcases hv with hv | hv
  ·exact q.ex v hv (by omega)
  ·have := r.ex v hv hge
   cases hW : W.testBit v with
   | true => have := q.lt v hW; omega
   | false => rwa [q.keep v hW] at this
 ·rw [fw, Bool.or_eq_true]
  rcases Nat.lt_or_ge v S1.next with h | h
  ·exact .inl (q.al v h1 h)
  ·exact .inr (r.al v h h2)
 ·rw [fw, Bool.or_eq_false_iff] at hv
  rw [r.keep v hv.2, q.keep v hv.1]
 ·obtain ⟨T1, t1, t2, t3, t4, t5⟩ := q.fr T hT fun v hv hno => by
   by_cases hin : S.next ≤ v ∧ v < S'.next
   ·exact absurd (hw v hin.1 hin.2) (q.ex v hv (by omega))
   ·exact hag v (by rw [fw, hv, Bool.true_or]) hin
  have hag2 : ∀ v, A2.testBit v = true → ¬ (S1.next ≤ v ∧ v < S'.next) → T1.heap.get v = S1.heap.get v := fun v hv hno => by
   rw [t5 v]
   by_cases hw : W.testBit v = true
   ·rw [if_pos hw]
   ·rw [if_neg hw]
    have hw : W.testBit v = false := by simpa using hw
    rw [q.keep v hw]
    refine hag v (by rw [fw, hv, Bool.or_true]) fun hin => ?_
    rcases Nat.lt_or_ge v S1.next with h | h
    ·have := q.al v hin.1 h; rw [hw] at this; cases this
    ·exact hno ⟨h, hin.2⟩
  obtain ⟨T2, u1, u2, u3, u4, u5⟩ := r.fr T1 t2 hag2
  refine ⟨T2, by unfold AX.bnd; rw [t1]; exact u1, u2, by rw [u3, t3, w6], by rw [u4, t4, w6], fun v => ?_⟩
  rw [u5 v, t5 v, fw]
  cases hW2 : W2.testBit v with
  | true => simp
  | false =>
   cases hW : W.testBit v with
   | true => simp [r.keep v hW2]
   | false => simp⟩
theorem Good.cond {α : Type} {b : Bool} {m n : M α} (hm : Good m) (hn : Good n) : Good (_root_.cond b m n) := by cases b <;> assumption
theorem Good.rd (v : Nat) : Good (AX.rd v) := ⟨fun S k S' h => by have := (CI h).2.2; omega, fun S k S' hw h => by
 obtain ⟨hg, _, _⟩ := CI h
 unfold AX.rd at h
 rw [hg] at h; injection h with h; injection h with h1 h2; subst h2
 refine ⟨bit v, 0, rfl, (fZ _).symm, fun u hu => by simp at hu, fun u hu => by simp at hu, fun u hu hge => ?_, fun u h1 h2 => by simp only [] at h2; omega, fun _ _ => rfl, fun T hT hag => ?_⟩
 ·rw [c9] at hu; simp at hu; subst hu; rw [hg]; simp
 ·refine ⟨⟨T.heap, T.next, Nat.lor T.acc (bit v), T.wr⟩, ?_, hT, rfl, (fZ _).symm, fun u => by simp⟩
  unfold AX.rd
  rw [hag v (by rw [c9]; simp) (by simp only []; omega), hg]⟩
theorem Good.kX (v : Nat) : Good (AX.kX v) := ⟨fun S k S' h => by have := (aT6 h).2.2; omega, fun S k S' hw h => by
 obtain ⟨hg, _, _⟩ := aT6 h
 unfold AX.kX at h
 rw [hg] at h; injection h with h; injection h with h1 h2; subst h2
 refine ⟨bit v, 0, rfl, (fZ _).symm, fun u hu => by simp at hu, fun u hu => by simp at hu, fun u hu hge => ?_, fun u h1 h2 => by simp only [] at h2; omega, fun _ _ => rfl, fun T hT hag => ?_⟩
 ·rw [c9] at hu; simp at hu; subst hu; rw [hg]; simp
 ·refine ⟨⟨T.heap, T.next, Nat.lor T.acc (bit v), T.wr⟩, ?_, hT, rfl, (fZ _).symm, fun u => by simp⟩
  unfold AX.kX
  rw [hag v (by rw [c9]; simp) (by simp only []; omega), hg]⟩
theorem Good.kY (v : Nat) : Good (AX.kY v) := ⟨fun S k S' h => by have := (aT7 h).2.2; omega, fun S k S' hw h => by
 obtain ⟨hg, _, _⟩ := aT7 h
 unfold AX.kY at h
 rw [hg] at h; injection h with h; injection h with h1 h2; subst h2
 refine ⟨bit v, 0, rfl, (fZ _).symm, fun u hu => by simp at hu, fun u hu => by simp at hu, fun u hu hge => ?_, fun u h1 h2 => by simp only [] at h2; omega, fun _ _ => rfl, fun T hT hag => ?_⟩
 ·rw [c9] at hu; simp at hu; subst hu; rw [hg]; simp
 ·refine ⟨⟨T.heap, T.next, Nat.lor T.acc (bit v), T.wr⟩, ?_, hT, rfl, (fZ _).symm, fun u => by simp⟩
  unfold AX.kY
  rw [hag v (by rw [c9]; simp) (by simp only []; omega), hg]⟩
theorem setW {H H' : T aZ} {u v : Nat} {k : aZ} (hn : u ≤ 16777213) (x : Nat) : (H'.set u k).get x = if (bit u).testBit x then (H.set u k).get x else H'.get x := by
 rw [cm _ _ _ _ hn, cm _ _ _ _ hn, c9]
 by_cases e : x = u
 ·subst e; simp
 ·have : decide (u = x) = false := by simpa using fun h => e h.symm
  rw [if_neg e, this]; simp
theorem Good.eE (v : Nat) (k : aZ) : Good (AX.eE v k) := ⟨fun S x S' h => by have := (lr h).2.2.2; omega, fun S x S' hw h => by
 unfold AX.eE at h
 cases hc : (Nat.blt v S.next && Nat.ble v 16777213) with
 | false => rw [hc] at h; cases h
 | true =>
  rw [hc] at h; injection h with h; injection h with h1 h2; subst h2
  have hcc := hc
  rw [Bool.and_eq_true] at hc
  have hlt : v < S.next := Nat.le_of_ble_eq_true hc.1
  have hle := Nat.le_of_ble_eq_true hc.2
  refine ⟨bit v, bit v, rfl, rfl, fun u hu => hu, fun u hu => ?_, fun u hu hge => ?_, fun u h1 h2 => by simp only [] at h2; omega, fun u hu => ?_, fun T hT hag => ?_⟩
  ·rw [c9] at hu; simp at hu; subst hu; exact hlt
  ·rw [c9] at hu; simp at hu; subst hu; simp only [] at hge; omega
  ·rw [c9] at hu; simp at hu; rw [cm _ _ _ _ hle, if_neg (fun e => hu e.symm)]
  ·refine ⟨⟨T.heap.set v k, T.next, Nat.lor T.acc (bit v), Nat.lor T.wr (bit v)⟩, ?_, hT, rfl, rfl, fun u => setW (v := v) hle u⟩
   unfold AX.eE; rw [hT, hcc]; rfl⟩
theorem Good.upd (v : Nat) (k : eB) : Good (AX.upd v k) := Good.eE v (.b k)
theorem Good.kill (v : Nat) : Good (AX.kill v) := ⟨fun S x S' h => by have := (ki h).2.2.2; omega, fun S x S' hw h => by
 unfold AX.kill at h
 cases hc : (Nat.blt v S.next && Nat.ble v 16777213) with
 | false => rw [hc] at h; cases h
 | true =>
  rw [hc] at h; injection h with h; injection h with h1 h2; subst h2
  have hcc := hc
  rw [Bool.and_eq_true] at hc
  have hlt : v < S.next := Nat.le_of_ble_eq_true hc.1
  have hle := Nat.le_of_ble_eq_true hc.2
  refine ⟨bit v, bit v, rfl, rfl, fun u hu => hu, fun u hu => ?_, fun u hu hge => ?_, fun u h1 h2 => by simp only [] at h2; omega, fun u hu => ?_, fun T hT hag => ?_⟩
  ·rw [c9] at hu; simp at hu; subst hu; exact hlt
  ·rw [c9] at hu; simp at hu; subst hu; simp only [] at hge; omega
  ·rw [c9] at hu; simp at hu; rw [jo _ _ _ hle, if_neg (fun e => hu e.symm)]
  ·refine ⟨⟨T.heap.del v, T.next, Nat.lor T.acc (bit v), Nat.lor T.wr (bit v)⟩, ?_, hT, rfl, rfl, fun u => ?_⟩
   ·unfold AX.kill; rw [hT, hcc]; rfl
   ·simp only []
    rw [jo _ _ _ hle, jo _ _ _ hle, c9]
    by_cases e : u = v
    ·subst e; simp
    ·have : decide (v = u) = false := by simpa using fun h => e h.symm
     rw [if_neg e, this]; simp⟩
theorem Good.newE (k : aZ) : Good (AX.newE k) := ⟨fun S x S' h => by have := (gh h).2.2.2; omega, fun S x S' hw h => by
 unfold AX.newE at h
 cases hc : Nat.ble S.next 16777213 with
 | false => rw [hc] at h; cases h
 | true =>
  rw [hc] at h; injection h with h; injection h with h1 h2; subst h2; subst h1
  have hle := Nat.le_of_ble_eq_true hc
  refine ⟨bit S.next, bit S.next, rfl, rfl, fun u hu => hu, fun u hu => ?_, fun u hu hge => ?_, fun u h1 h2 => ?_, fun u hu => ?_, fun T hT hag => ?_⟩
  ·rw [c9] at hu; simp at hu; subst hu; exact Nat.lt_succ_self _
  ·rw [c9] at hu; simp at hu; subst hu; simp only [] at hge; omega
  ·simp only [] at h2; rw [c9]; simp; omega
  ·rw [c9] at hu; simp at hu; rw [cm _ _ _ _ hle, if_neg (fun e => hu e.symm)]
  ·refine ⟨⟨T.heap.set S.next k, Nat.succ T.next, Nat.lor T.acc (bit S.next), Nat.lor T.wr (bit S.next)⟩, ?_, by simp only []; rw [hT], rfl, rfl, fun u => setW (v := 0) hle u⟩
   unfold AX.newE; rw [hT, hc]; rfl⟩
theorem Good.new (k : eB) : Good (AX.new k) := Good.newE (.b k)
theorem aC2 {α : Type} {m : M α} {S S2 : St} {p : α × Nat × Nat} (h : AX.ka m S = some (p, S2)) : ∃ S1, m ⟨S.heap, S.next, 0, 0⟩ = some (p.1, S1) ∧ p.2.1 = S1.acc ∧ p.2.2 = S1.wr ∧ S2.heap = S1.heap ∧ S2.next = S1.next := by
 unfold AX.ka at h
 cases hm0 : m ⟨S.heap, S.next, 0, 0⟩ with
 | none => rw [hm0] at h; cases h
 | some r =>
  obtain ⟨a, S1⟩ := r
  rw [hm0] at h
  injection h with h; injection h with e1 e2; subst e1; subst e2
  exact ⟨S1, rfl, rfl, rfl, rfl, rfl⟩
theorem Good.ka {α : Type} {m : M α} (hm : Good m) : Good (AX.ka m) := ⟨fun S y S2 h => by
 obtain ⟨S1, h1, _, _, _, h2⟩ := aC2 h
 have := hm.mono _ _ _ h1
 simp only [] at this; omega, fun S y S2 hw h => by
 unfold AX.ka at h
 cases hm0 : m ⟨S.heap, S.next, 0, 0⟩ with
 | none => rw [hm0] at h; cases h
 | some r =>
  obtain ⟨a, S1⟩ := r
  rw [hm0] at h
  injection h with h; injection h with e1 e2; subst e1; subst e2
  obtain ⟨A, W, q⟩ := hm.ok ⟨S.heap, S.next, 0, 0⟩ a S1 (fun v h1 h2 => hw v h1 h2) hm0
  have hz : ∀ n, Nat.lor 0 n = n := fun n => Nat.zero_or n
  have ha : S1.acc = A := by rw [q.acc]; exact hz A
  have hwr : S1.wr = W := by rw [q.wr]; exact hz W
  rw [ha, hwr]
  refine ⟨A, W, rfl, rfl, q.sub, q.lt, q.ex, q.al, q.keep, fun T hT hag => ?_⟩
  obtain ⟨T', t1, t2, t3, t4, t5⟩ := q.fr ⟨T.heap, T.next, 0, 0⟩ hT hag
  have ta : T'.acc = A := by rw [t3]; exact hz A
  have tw : T'.wr = W := by rw [t4]; exact hz W
  refine ⟨⟨T'.heap, T'.next, Nat.lor T.acc A, Nat.lor T.wr W⟩, ?_, t2, rfl, rfl, t5⟩
  unfold AX.ka
  simp only [t1, ta, tw]⟩
theorem Good.load (tb : Tab) (t : Nat) (x : AV) : Good (AX.load tb t x) := by
 unfold AX.load
 split
 ·repeat (first | exact Good.ret _ | exact Good.fail | exact Good.aK _ | exact Good.rd _ | apply Good.cond | apply Good.bnd | intro _)
 ·exact Good.fail
theorem Good.store (tb : Tab) (t : Nat) (x y : AV) : Good (AX.store tb t x y) := by
 unfold AX.store
 split
 ·repeat (first | exact Good.ret _ | exact Good.fail | exact Good.aK _ | exact Good.rd _ | exact Good.upd _ _ | apply Good.cond | apply Good.bnd | intro _ | split)
 ·exact Good.fail
theorem Good.dL (v : Nat) : Good (AX.dL v) := ⟨fun S k S' h => by have := (CJ h).2.2; omega, fun S k S' hw h => by
 obtain ⟨hg, _, _⟩ := CJ h
 unfold AX.dL at h
 rw [hg] at h; injection h with h; injection h with h1 h2; subst h2
 refine ⟨bit v, 0, rfl, (fZ _).symm, fun u hu => by simp at hu, fun u hu => by simp at hu, fun u hu hge => ?_, fun u h1 h2 => by simp only [] at h2; omega, fun _ _ => rfl, fun T hT hag => ?_⟩
 ·rw [c9] at hu; simp at hu; subst hu; rw [hg]; simp
 ·refine ⟨⟨T.heap, T.next, Nat.lor T.acc (bit v), T.wr⟩, ?_, hT, rfl, (fZ _).symm, fun u => by simp⟩
  unfold AX.dL
  rw [hag v (by rw [c9]; simp) (by simp only []; omega), hg]⟩
theorem Good.rdA (v : Nat) : Good (AX.rdA v) := by
 have inv : ∀ {S k S'}, AX.rdA v S = some (k, S') → S.heap.get v = some k ∧ S' = ⟨S.heap, S.next, Nat.lor S.acc (bit v), S.wr⟩ := fun {S k S'} h => by
  unfold AX.rdA at h
  cases hg : S.heap.get v with
  | none => rw [hg] at h; cases h
  | some j => rw [hg] at h; simp only [Option.some.injEq, Prod.mk.injEq] at h; exact ⟨by rw [h.1], h.2.symm⟩
 refine ⟨fun S k S' h => by obtain ⟨_, rfl⟩ := inv h; exact Nat.le_refl _, fun S k S' hw h => ?_⟩
 obtain ⟨hg, rfl⟩ := inv h
 refine ⟨bit v, 0, rfl, (fZ _).symm, fun u hu => by simp at hu, fun u hu => by simp at hu, fun u hu hge => ?_, fun u h1 h2 => by simp only [] at h2; omega, fun _ _ => rfl, fun T hT hag => ?_⟩
 ·rw [c9] at hu; simp at hu; subst hu; rw [hg]; simp
 ·refine ⟨⟨T.heap, T.next, Nat.lor T.acc (bit v), T.wr⟩, ?_, hT, rfl, (fZ _).symm, fun u => by simp⟩
  unfold AX.rdA
  rw [hag v (by rw [c9]; simp) (by simp only []; omega), hg]
theorem Good.ke (tb : Tab) (t : Nat) (x : AV) : Good (AX.ke tb t x) := by
 unfold AX.ke
 split
 ·refine Good.bnd (Good.rdA _) fun k => ?_
  unfold AX.jY
  split <;> repeat (first | exact Good.aK _ | exact Good.fail | apply Good.cond | apply Good.bnd | intro _)
 ·refine Good.bnd (Good.rdA _) fun k => ?_
  unfold AX.w7
  repeat (first | exact Good.ret _ | exact Good.aK _ | exact Good.fail | apply Good.cond | apply Good.bnd | intro _ | split)
 ·exact Good.load _ _ _
theorem Good.kT (tb : Tab) (t : Nat) (x y : AV) : Good (AX.kT tb t x y) := by
 unfold AX.kT
 split
 ·refine Good.bnd (Good.rdA _) fun k => ?_
  split <;> (first | unfold AX.np | unfold AX.tR)
  all_goals repeat (first | exact Good.eE _ _ | exact Good.ret _ | exact Good.aK _ | exact Good.fail | apply Good.cond | apply Good.bnd | intro _ | split)
 ·exact Good.cond (Good.bnd (Good.dL _) fun _ => Good.bnd (Good.aK _) fun _ => Good.bnd (Good.aK _) fun _ => Good.eE _ _) Good.fail
 ·exact Good.store _ _ _ _
theorem Good.mK (tb : Tab) (t v : Nat) (x : AV) : Good (AX.mK tb t v x) := by
 unfold AX.mK
 exact Good.bnd (Good.aK _) fun _ => Good.cond (Good.bnd (Good.dL _) fun _ => Good.bnd (Good.aK _) fun _ => Good.ret _) Good.fail
theorem Good.slY (tb : Tab) (e v : Nat) (lo hi : Option AV) : Good (AX.slY tb e v lo hi) := by
 unfold AX.slY
 repeat (first | (unfold AX.slY0) | exact Good.kill _ | exact Good.newE _ | exact Good.dL _ | exact Good.ret _ | exact Good.aK _ | exact Good.fail | apply Good.cond | apply Good.bnd | intro _ | split)
theorem Good.slR (tb : Tab) (e v : Nat) (lo hi : Option AV) : Good (AX.slR tb e v lo hi) := by
 unfold AX.slR
 repeat (first | exact Good.rdA _ | exact Good.kill _ | exact Good.newE _ | exact Good.ret _ | exact Good.aK _ | exact Good.fail | apply Good.cond | apply Good.bnd | intro _ | split)
theorem Good.mL (tb : Tab) (t v : Nat) (x : AV) : Good (AX.mL tb t v x) := by
 unfold AX.mL
 repeat (first | exact Good.rdA _ | exact Good.ret _ | exact Good.aK _ | exact Good.fail | apply Good.cond | apply Good.bnd | intro _ | split)
theorem Good.mM (tb : Tab) (t v : Nat) (x : AV) : Good (AX.mM tb t v x) := by
 unfold AX.mM
 repeat (first | exact Good.rd _ | exact Good.ret _ | exact Good.aK _ | exact Good.fail | apply Good.cond | apply Good.bnd | intro _)
theorem Good.js {tb : Tab} {s d : Nat} {x : AV} {m : M AV} (h : AX.js tb s d x = some m) : Good m := by
 cases x <;> simp only [AX.js] at h <;> try (cases h; done)
 ·cases hd : tb.ty.get d with
  | none => rw [hd] at h; cases h
  | some td =>
   rw [hd] at h
   simp only [] at h
   cases hs : gY td.k with
   | none => rw [hs] at h; cases h
   | some e =>
    rw [hs] at h; injection h with h; subst h
    exact Good.bnd (Good.aK _) fun _ => Good.cond (Good.bnd (Good.aK _) fun _ => Good.bnd (Good.newE _) fun _ => Good.ret _) Good.fail
 ·injection h with h; subst h
  exact Good.bnd (Good.aK _) fun _ => Good.bnd (Good.aK _) fun _ => Good.cond (Good.bnd (Good.dL _) fun _ => Good.ret _) Good.fail
theorem Good.ptrEq (a c o u : Nat) : Good (AX.ptrEq a c o u) := by unfold AX.ptrEq; exact Good.cond (Good.ret _) Good.fail
theorem Good.eS (tb : Tab) (k : HK) : Good (AX.eS tb k) := by
 unfold AX.eS; split
 ·exact Good.ret _
 ·exact Good.fail
theorem Good.eqF {eq : Nat → AV → AV → M Bool} (h : ∀ t x y, Good (eq t x y)) (l m : List AV) : ∀ fs, Good (AX.eqF eq l m fs)
 | [] => Good.ret _
 | f :: fs => by
  unfold AX.eqF
  have ih := Good.eqF h l m fs
  repeat (first | exact ih | exact h _ _ _ | exact Good.ret _ | exact Good.aK _ | apply Good.cond | apply Good.bnd | intro _)
theorem Good.eU (tb : Tab) : ∀ d t x y, Good (AX.eU tb d t x y)
 | 0, _, _, _ => Good.fail
 | d + 1, t, x, y => by
  unfold AX.eU
  have ih := Good.eU tb d
  refine Good.bnd (Good.aK _) fun ti => ?_
  split <;> repeat (first | exact ih _ _ _ | exact Good.eqF (ih) _ _ _ | exact Good.eS _ _ | exact Good.ptrEq _ _ _ _ | exact Good.ret _ | exact Good.fail | exact Good.aK _ | apply Good.cond | apply Good.bnd | intro _)
theorem Good.lR (tb : Tab) (t : Nat) (c : Bool) (x y : AV) : Good (AX.lR tb t c x y) := by
 unfold AX.lR
 repeat (first | exact Good.eU _ _ _ _ _ | exact Good.ret _ | exact Good.fail | exact Good.aK _ | apply Good.cond | apply Good.bnd | intro _ | split)
theorem Good.ml (o : BinOp) (k : IntKind) (a c : Int) : Good (AX.ml o k a c) := by
 unfold AX.ml
 split <;> repeat (first | exact Good.ret _ | exact Good.fail | apply Good.cond)
theorem Good.mj (tb : Tab) (o : BinOp) (t : Nat) (c : Bool) (x y : AV) : Good (AX.mj tb o t c x y) := by
 unfold AX.mj
 split <;> repeat (first | exact Good.ret _ | exact Good.fail | exact Good.aK _ | exact Good.ml _ _ _ _ | exact Good.lR _ _ _ _ _ | apply Good.cond | apply Good.bnd | intro _)
theorem Good.hypB' (tb : Tab) (k : HK) : Good (AX.eS tb k) := by
 unfold AX.eS
 split <;> first | exact Good.ret _ | exact Good.fail
theorem Good.bin (tb : Tab) (o : BinOp) (t : Nat) (c : Bool) (x y : AV) : Good (AX.bin tb o t c x y) := by
 unfold AX.bin
 exact Good.cond (Good.bnd (Good.hypB' _ _) fun _ => Good.ret _) (Good.mj _ _ _ _ _ _)
theorem Good.mW (tb : Tab) (t : Nat) (k : AV) : ∀ es i, Good (AX.mW tb t k es i)
 | [], i => Good.ret _
 | e :: es, i => by
  unfold AX.mW
  have ih := Good.mW tb t k es (Nat.succ i)
  exact Good.bnd (Good.eU _ _ _ _ _) fun r => Good.cond (Good.ret _) ih
theorem Good.pW (tb : Tab) (t : Nat) : Good (AX.pW tb t) := by
 unfold AX.pW
 exact Good.bnd (Good.aK _) fun _ => Good.aK _
theorem Good.jt (tb : Tab) (e v : Nat) (i : AV) (sz ts : Nat) (k : aZ) : Good (AX.jt tb e v i sz ts k) := by
 unfold AX.jt
 repeat (first | exact Good.ret _ | exact Good.fail | exact Good.aK _ | exact Good.eE _ _ | apply Good.cond | apply Good.bnd | intro _ | split)
theorem Good.mf (tb : Tab) (t : Nat) (x : AV) : Good (AX.mf tb t x) := by
 unfold AX.mf
 repeat (first | exact Good.jt _ _ _ _ _ _ _ | exact Good.rdA _ | exact Good.ret _ | exact Good.fail | exact Good.aK _ | exact Good.rd _ | exact Good.kX _ | exact Good.kY _ | exact Good.eE _ _ | exact Good.upd _ _ | exact Good.newE _ | exact Good.mW _ _ _ _ _ | exact Good.pW _ _ | apply Good.cond | apply Good.bnd | intro _ | split)
theorem Good.pd (v off cap sz lo hi : Nat) : Good (AX.pd v off cap sz lo hi) := by
 unfold AX.pd
 repeat (first | exact Good.ret _ | exact Good.fail | exact Good.aK _ | exact Good.rd _ | exact Good.kX _ | exact Good.kY _ | exact Good.eE _ _ | exact Good.upd _ _ | exact Good.newE _ | exact Good.mW _ _ _ _ _ | exact Good.pW _ _ | apply Good.cond | apply Good.bnd | intro _ | split)
set_option maxHeartbeats 1000000 in
theorem Good.simple (tb : Tab) (f : Operand → AV) (o : Op) : Good (AX.simple tb f o) := by
 cases o <;> simp only [AX.simple] <;>
  repeat (first | exact Good.hypB' _ _ | exact Good.slY _ _ _ _ _ | exact Good.slR _ _ _ _ _ | exact Good.ke _ _ _ | exact Good.kT _ _ _ _ | exact Good.mK _ _ _ _ | exact Good.mL _ _ _ _ | exact Good.mM _ _ _ _ | (exact Good.js ‹_›) | exact Good.ret _ | exact Good.fail | exact Good.aK _ | exact Good.rd _ | exact Good.new _ | exact Good.newE _ | exact Good.upd _ _ | exact Good.load _ _ _ | exact Good.store _ _ _ _ | exact Good.bin _ _ _ _ _ _ | exact Good.pd _ _ _ _ _ _ | apply Good.cond | apply Good.bnd | intro _ | split)
theorem Good.src (sz : Nat) (x : AV) : Good (AX.src sz x) := by
 unfold AX.src
 split <;> repeat (first | exact Good.ret _ | exact Good.fail | exact Good.aK _ | exact Good.rd _ | apply Good.cond | apply Good.bnd | intro _)
theorem Good.grow (e sz : Nat) (o d : Cells) (n : Nat) : Good (AX.grow e sz o d n) := by
 unfold AX.grow
 repeat (first | exact Good.ret _ | exact Good.new _ | apply Good.bnd | intro _)
theorem Good.jw (e sz b : Nat) (s : AV) (n : Nat) (d : Cells) : Good (AX.jw e sz b s n d) := by
 unfold AX.jw
 refine Good.cond Good.fail ?_
 split <;> repeat (first | exact Good.ret _ | exact Good.fail | exact Good.aK _ | exact Good.rd _ | exact Good.upd _ _ | exact Good.kill _ | exact Good.new _ | exact Good.grow _ _ _ _ _ | apply Good.cond | apply Good.bnd | intro _)
theorem Good.m7 (tb : Tab) (st xt e0 : Nat) (x : AV) : Good (AX.m7 tb st xt e0 x) := by
 unfold AX.m7 AX.lZ
 repeat (first | exact Good.dL _ | exact Good.src _ _ | exact Good.newE _ | exact Good.ret _ | exact Good.fail | exact Good.aK _ | apply Good.cond | apply Good.bnd | intro _ | split)
theorem Good.mz (tb : Tab) (st xt v : Nat) (x : AV) : Good (AX.mz tb st xt v x) := by
 unfold AX.mz
 repeat (first | exact Good.rdA _ | exact Good.src _ _ | exact Good.kill _ | exact Good.newE _ | exact Good.ret _ | exact Good.fail | exact Good.aK _ | apply Good.cond | apply Good.bnd | intro _ | split)
theorem Good.my (tb : Tab) (st xt e0 : Nat) (x : AV) : Good (AX.my tb st xt e0 x) := by
 unfold AX.my
 repeat (first | exact Good.src _ _ | exact Good.newE _ | exact Good.ret _ | exact Good.fail | exact Good.aK _ | apply Good.cond | apply Good.bnd | intro _ | split)
theorem Good.mw (tb : Tab) (st xt v w : Nat) : Good (AX.mw tb st xt v w) := by
 unfold AX.mw; exact Good.fail
theorem Good.mv (tb : Tab) (st xt v w : Nat) : Good (AX.mv tb st xt v w) := by
 unfold AX.mv; exact Good.fail
theorem Good.mu (tb : Tab) (st xt : Nat) (s : AV) (w : Nat) : Good (AX.mu tb st xt s w) := by
 unfold AX.mu
 repeat (first | exact Good.rdA _ | exact Good.src _ _ | exact Good.newE _ | exact Good.ret _ | exact Good.fail | exact Good.aK _ | apply Good.cond | apply Good.bnd | intro _ | split)
theorem Good.pH (tb : Tab) (st xt : Nat) (s x : AV) : Good (AX.pH tb st xt s x) := by
 unfold AX.pH
 split
 ·unfold AX.Ay AX.lZ
  repeat (first | exact Good.dL _ | exact Good.ret _ | exact Good.fail | exact Good.aK _ | exact Good.src _ _ | exact Good.kill _ | exact Good.newE _ | apply Good.cond | apply Good.bnd | intro _ | split)
 ·split
  ·unfold AX.Az AX.A1 AX.A0
   repeat (first | exact Good.ret _ | exact Good.fail | exact Good.aK _ | exact Good.newE _ | apply Good.cond | apply Good.bnd | intro _ | split)
  split
  ·exact Good.m7 _ _ _ _ _
  split
  ·split
   ·exact Good.mw _ _ _ _ _
   ·exact Good.mz _ _ _ _ _
  split
  ·exact Good.my _ _ _ _ _
  split
  ·exact Good.mv _ _ _ _ _
  split
  ·exact Good.mu _ _ _ _ _
  unfold AX.ry
  repeat (first | exact Good.ret _ | exact Good.fail | exact Good.aK _ | exact Good.src _ _ | exact Good.jw _ _ _ _ _ _ | apply Good.cond | apply Good.bnd | intro _ | split)
theorem Good.builtin (tb : Tab) (bi : Builtin) (ts : List Nat) (l : List AV) : Good (AX.builtin tb bi ts l) := by
 unfold AX.builtin
 split
 all_goals (try unfold xH); (try unfold Am); (try unfold ry); (try unfold Af); (try unfold Ac E8 Ad); (try unfold tI Bk tJ)
 all_goals repeat (first | exact Good.pH _ _ _ _ _ | exact Good.rdA _ | exact Good.kill _ | exact Good.dL _ | exact Good.ret _ | exact Good.fail | exact Good.aK _ | exact Good.rd _ | exact Good.upd _ _ | exact Good.src _ _ | exact Good.jw _ _ _ _ _ _ | exact Good.mf _ _ _ | apply Good.cond | apply Good.bnd | intro _ | split)
theorem Good.byQ (f : Nat → AV) (y : AV) : Good (AX.byQ f y) := by
 unfold AX.byQ
 repeat (first | exact Good.ret _ | exact Good.fail | apply Good.cond | intro _ | split)
theorem Good.x3 (x y : AV) : Good (AX.x3 x y) := by
 unfold AX.x3
 split
 ·exact Good.byQ _ _
 ·exact Good.fail
theorem Good.x4 (x y : AV) : Good (AX.x4 x y) := by
 unfold AX.x4
 split
 ·exact Good.byQ _ _
 ·exact Good.fail
theorem Good.gD (x : AV) : Good (AX.gD x) := by
 unfold AX.gD
 repeat (first | exact Good.ret _ | exact Good.fail | exact Good.aK _ | exact Good.rd _ | exact Good.new _ | exact Good.load _ _ _ | exact Good.store _ _ _ _ | apply Good.cond | apply Good.bnd | intro _ | split)
theorem Good.fu (tb : Tab) (t : Nat) (x : AV) : Good (AX.fu tb t x) := by
 unfold AX.fu
 repeat (first | exact Good.ret _ | exact Good.fail | exact Good.aK _ | exact Good.rd _ | exact Good.new _ | exact Good.load _ _ _ | exact Good.store _ _ _ _ | apply Good.cond | apply Good.bnd | intro _ | split)
theorem Good.x7 (tb : Tab) (x : AV) : Good (AX.x7 tb x) := by
 unfold AX.x7
 repeat (first | exact Good.ret _ | exact Good.fail | exact Good.aK _ | exact Good.rd _ | exact Good.new _ | exact Good.load _ _ _ | exact Good.store _ _ _ _ | exact Good.gD _ | exact Good.fu _ _ _ | apply Good.cond | apply Good.bnd | intro _ | split)
theorem Good.x8 (tb : Tab) (x : AV) : Good (AX.x8 tb x) := by
 unfold AX.x8
 repeat (first | exact Good.ret _ | exact Good.fail | exact Good.aK _ | exact Good.rd _ | exact Good.new _ | exact Good.load _ _ _ | exact Good.store _ _ _ _ | exact Good.gD _ | exact Good.fu _ _ _ | apply Good.cond | apply Good.bnd | intro _ | split)
theorem Good.x9 (tb : Tab) (x : AV) : Good (AX.x9 tb x) := by
 unfold AX.x9
 repeat (first | exact Good.ret _ | exact Good.fail | exact Good.aK _ | exact Good.rd _ | exact Good.new _ | exact Good.load _ _ _ | exact Good.store _ _ _ _ | exact Good.gD _ | exact Good.fu _ _ _ | apply Good.cond | apply Good.bnd | intro _ | split)
theorem Good.x10 (tb : Tab) (x : AV) : Good (AX.x10 tb x) := by
 unfold AX.x10
 repeat (first | exact Good.ret _ | exact Good.fail | exact Good.aK _ | exact Good.rd _ | exact Good.new _ | exact Good.load _ _ _ | exact Good.store _ _ _ _ | exact Good.gD _ | exact Good.fu _ _ _ | apply Good.cond | apply Good.bnd | intro _ | split)
theorem Good.x11 (tb : Tab) (x : AV) : Good (AX.x11 tb x) := by
 unfold AX.x11
 repeat (first | exact Good.ret _ | exact Good.fail | exact Good.aK _ | exact Good.rd _ | exact Good.new _ | exact Good.load _ _ _ | exact Good.store _ _ _ _ | exact Good.gD _ | exact Good.fu _ _ _ | apply Good.cond | apply Good.bnd | intro _ | split)
theorem Good.x12 (tb : Tab) (x y : AV) : Good (AX.x12 tb x y) := by
 unfold AX.x12
 repeat (first | exact Good.ret _ | exact Good.fail | exact Good.aK _ | exact Good.rd _ | exact Good.new _ | exact Good.load _ _ _ | exact Good.store _ _ _ _ | exact Good.gD _ | exact Good.fu _ _ _ | apply Good.cond | apply Good.bnd | intro _ | split)
theorem Good.x13 (tb : Tab) (x y : AV) : Good (AX.x13 tb x y) := by
 unfold AX.x13
 repeat (first | exact Good.ret _ | exact Good.fail | exact Good.aK _ | exact Good.rd _ | exact Good.new _ | exact Good.load _ _ _ | exact Good.store _ _ _ _ | exact Good.gD _ | exact Good.fu _ _ _ | apply Good.cond | apply Good.bnd | intro _ | split)
theorem Good.x14 (tb : Tab) (x : AV) : Good (AX.x14 tb x) := by
 unfold AX.x14
 repeat (first | exact Good.ret _ | exact Good.fail | exact Good.aK _ | exact Good.rd _ | exact Good.new _ | exact Good.load _ _ _ | exact Good.store _ _ _ _ | exact Good.gD _ | exact Good.fu _ _ _ | apply Good.cond | apply Good.bnd | intro _ | split)
theorem Good.x15 (tb : Tab) (x y : AV) : Good (AX.x15 tb x y) := by
 unfold AX.x15
 repeat (first | exact Good.ret _ | exact Good.fail | exact Good.aK _ | exact Good.rd _ | exact Good.new _ | exact Good.load _ _ _ | exact Good.store _ _ _ _ | exact Good.gD _ | exact Good.fu _ _ _ | apply Good.cond | apply Good.bnd | intro _ | split)
theorem Good.ext (tb : Tab) (e : Nat) (l : List AV) : Good (AX.ext tb e l) := by
 unfold AX.ext
 split
 all_goals (try unfold bytesN)
 all_goals repeat (first | exact Good.x3 _ _ | exact Good.x4 _ _ | exact Good.x7 _ _ | exact Good.x8 _ _ | exact Good.x9 _ _ | exact Good.x10 _ _ | exact Good.x11 _ _ | exact Good.x12 _ _ _ | exact Good.x13 _ _ _ | exact Good.x14 _ _ | exact Good.x15 _ _ _ | exact Good.ret _ | exact Good.fail | exact Good.aK _ | exact Good.rd _ | exact Good.new _ | apply Good.cond | apply Good.bnd | intro _ | split)
theorem Good.eQ (tb : Tab) : ∀ l E, Good (AX.eQ tb l E)
 | [], _ => Good.ret _
 | .tmp t :: l, E => by unfold AX.eQ; exact Good.bnd (Good.eQ tb l E) fun _ => Good.ret _
 | .cell a t :: l, E => by unfold AX.eQ; exact Good.bnd (Good.load _ _ _) fun _ => Good.bnd (Good.eQ tb l E) fun _ => Good.ret _
theorem Good.results (tb : Tab) (l : List ResultVar) (E : Env) : Good (AX.results tb l E) := by
 unfold AX.results
 split
 ·exact Good.ret _
 ·exact Good.load _ _ _
 ·exact Good.bnd (Good.eQ _ _ _) fun _ => Good.ret _
theorem aG7 {n : Nat} : ∀ {l : List (Nat × aZ)}, w9 n l = true → ∀ v, isK l v = true → v < n
 | [], _, v, h => by cases h
 | p :: r, h, v, hv => by
  simp only [w9, Bool.and_eq_true] at h
  simp only [isK, Bool.or_eq_true] at hv
  rcases hv with hv | hv
  ·have := Nat.eq_of_beq_eq_true hv; subst this; exact Nat.le_of_ble_eq_true h.1
  ·exact aG7 h.2 v hv
theorem mI {l : List (Nat × aZ)} {v : Nat} : isK l v = true ↔ ∃ k, (v, k) ∈ l := by
 induction l with
 | nil => simp [isK]
 | cons p r ih =>
  simp only [isK, Bool.or_eq_true, ih, List.mem_cons]
  constructor
  ·rintro (h | ⟨k, h⟩)
   ·have := Nat.eq_of_beq_eq_true h; subst this; exact ⟨p.2, .inl rfl⟩
   ·exact ⟨k, .inr h⟩
  ·rintro ⟨k, h | h⟩
   ·subst h; exact .inl (Nat.beq_refl _)
   ·exact .inr ⟨k, h⟩
def ec : List (Nat × aZ) → Nat → Option aZ
 | [], _ => none
 | p :: r, v => match ec r v with
  | some k => some k
  | none => if p.1 = v then some p.2 else none
theorem Cu : ∀ {l : List (Nat × aZ)} {v : Nat}, isK l v = false → ec l v = none
 | [], v, _ => rfl
 | p :: r, v, h => by
  simp only [isK, Bool.or_eq_false_iff] at h
  unfold ec; rw [Cu h.2]
  have : p.1 ≠ v := fun e => by rw [e, Nat.beq_refl] at h; cases h.1
  simp only [if_neg this]
theorem xA : ∀ {l : List (Nat × aZ)} {v : Nat} {k : aZ}, ec l v = some k → (v, k) ∈ l
 | [], v, k, h => by cases h
 | p :: r, v, k, h => by
  unfold ec at h
  cases hr : ec r v with
  | some k' => rw [hr] at h; injection h with h; subst h; exact List.mem_cons_of_mem _ (xA hr)
  | none =>
   rw [hr] at h
   simp only [] at h
   split at h
   ·rename_i e; injection h with h; subst h; subst e; exact List.mem_cons_self ..
   ·cases h
theorem oG : ∀ (l : List (Nat × aZ)) (t : T aZ), (∀ v, isK l v = true → v ≤ 16777213) → ∀ v, (bA l t).get v = (ec l v).or (t.get v)
 | [], t, _, v => rfl
 | p :: r, t, hb, v => by
  unfold bA
  rw [oG r _ (fun u hu => hb u (by simp only [isK, hu, Bool.or_true])) v, cm _ _ _ _ (hb p.1 (by simp only [isK, Nat.beq_refl, Bool.true_or]))]
  conv => rhs; unfold ec
  cases ec r v with
  | some k => simp
  | none =>
   by_cases e : p.1 = v
   ·simp [e]
   ·simp [e, Ne.symm e]
theorem aG8 : ∀ (l : List (Nat × aZ)) (t : T aZ), (∀ v, isK l v = true → v ≤ 16777213) → ∀ v, (qX l t).get v = if isK l v = true then none else t.get v
 | [], t, _, v => by simp [qX, isK]
 | p :: r, t, hb, v => by
  unfold qX
  rw [aG8 r _ (fun u hu => hb u (by simp only [isK, hu, Bool.or_true])) v, jo _ _ _ (hb p.1 (by simp only [isK, Nat.beq_refl, Bool.true_or]))]
  by_cases e : p.1 = v
  ·subst e; simp [isK, Nat.beq_refl]
  ·have : Nat.beq p.1 v = false := by rw [Bool.eq_false_iff]; intro h; exact e (Nat.eq_of_beq_eq_true h)
   simp [isK, this, Ne.symm e]
theorem aC0 (a : Nat) : ∀ (n : Nat) (t : T aZ), a + n ≤ 16777214 → ∀ v, (pw a n t).get v = if a ≤ v ∧ v < a + n then none else t.get v
 | 0, t, _, v => by unfold pw; rw [if_neg (by omega)]
 | n + 1, t, hb, v => by
  unfold pw
  rw [jo _ _ _ (by show a + n ≤ _; omega), aC0 a n t (by omega) v]
  by_cases e : v = Nat.add a n
  ·rw [if_pos e, if_pos (by have : v = a + n := e; omega)]
  ·rw [if_neg e]
   have : v ≠ a + n := e
   by_cases e2 : a ≤ v ∧ v < a + n
   ·rw [if_pos e2, if_pos (by omega)]
   ·rw [if_neg e2, if_neg (by omega)]
theorem aA9 (a : Nat) : ∀ (n v : Nat), (py a n).testBit v = decide (a ≤ v ∧ v < a + n)
 | 0, v => by
  have : ¬ (a ≤ v ∧ v < a + 0) := by omega
  simp [py, this]
 | n + 1, v => by
  unfold py
  rw [fw, aA9 a n v, c9]
  have : Nat.add a n = a + n := rfl
  rw [this, Bool.eq_iff_iff]; simp; omega
theorem aD7 : ∀ (l : List (Nat × aZ)) (m v : Nat), (qY l m).testBit v = (isK l v || m.testBit v)
 | [], m, v => by simp [qY, isK]
 | p :: r, m, v => by
  unfold qY
  rw [aD7 r _ v, fw, c9]
  have : Nat.beq p.1 v = decide (p.1 = v) := by rw [Bool.eq_iff_iff, Nat.beq_eq, decide_eq_true_eq]
  simp only [isK, this]
  cases isK r v <;> cases decide (p.1 = v) <;> cases m.testBit v <;> rfl
structure lg (h : LH) : Prop where
 le : h.n0 ≤ h.n1
 top : h.n1 ≤ 16777213
 pre : ∀ v, isK h.pre v = true → v < h.n0
 post : ∀ v, isK h.post v = true → v < h.n1 ∧ (isK h.pre v = true ∨ h.n0 ≤ v)
 ro : ∀ v k j, (v, k) ∈ h.post → (v, j) ∈ h.pre → dE j = true → dE k = true
theorem aD6 {h : LH} : ∀ {l : List (Nat × aZ)}, w8 h l = true → ∀ v, isK l v = true → v < h.n1 ∧ (isK h.pre v = true ∨ h.n0 ≤ v)
 | [], _, v, hv => by cases hv
 | p :: r, hh, v, hv => by
  simp only [w8, Bool.and_eq_true, Bool.or_eq_true] at hh
  simp only [isK, Bool.or_eq_true] at hv
  rcases hv with hv | hv
  ·have := Nat.eq_of_beq_eq_true hv; subst this
   exact ⟨Nat.le_of_ble_eq_true hh.1.1, hh.1.2.imp id Nat.le_of_ble_eq_true⟩
  ·exact aD6 hh.2 v hv
theorem lhRo_mem {pre post : List (Nat × aZ)} (h : lhRo pre post = true) (v : Nat) (k j : aZ) (hk : (v, k) ∈ post) (hj : (v, j) ∈ pre) (hr : dE j = true) : dE k = true := by
 have h1 := List.all_eq_true.1 (List.all_eq_true.1 h _ hk) _ hj
 simp only [Nat.beq_refl, hr, Bool.and_self, Bool.not_true, Bool.false_or] at h1
 exact h1
theorem oH {h : LH} (hh : iK h = true) : lg h := by
 simp only [iK, Bool.and_eq_true] at hh
 exact ⟨Nat.le_of_ble_eq_true hh.1.1.1.1, Nat.le_of_ble_eq_true hh.1.1.1.2, aG7 hh.1.1.2, aD6 hh.1.2, lhRo_mem hh.2⟩
theorem oI {h : LH} (hh : lg h) (t : T aZ) (v : Nat) : (eZ h t).get v = (ec h.post v).or (if h.n0 ≤ v ∧ v < h.n1 then none else if isK h.pre v = true then none else t.get v) := by
 have hl := hh.le; have ht := hh.top
 unfold eZ
 rw [oG _ _ (fun u hu => by have := (hh.post u hu).1; omega), aC0 _ _ _ (by show h.n0 + (h.n1 - h.n0) ≤ _; omega), aG8 _ _ (fun u hu => by have := hh.pre u hu; omega)]
 have : Nat.sub h.n1 h.n0 = h.n1 - h.n0 := rfl
 rw [this, show h.n0 + (h.n1 - h.n0) = h.n1 by omega]
theorem Cs {ng : Nat} {h : LH} {S S' : St} {x : Unit} (hr : jZ ng h S = some (x, S')) : (S.next = h.n0 ∧ ng = h.ng) ∧ iK h = true ∧ im S.heap h.pre = true ∧ S' = ⟨eZ h S.heap, h.n1, Nat.lor S.acc (gF h), Nat.lor S.wr (gF h)⟩ := by
 unfold jZ at hr
 cases hc : (Nat.beq S.next h.n0 && Nat.beq ng h.ng && iK h && im S.heap h.pre) with
 | false => rw [hc] at hr; cases hr
 | true =>
  rw [hc] at hr
  simp only [Bool.and_eq_true] at hc
  simp only [cond_true, Option.some.injEq, Prod.mk.injEq] at hr
  exact ⟨⟨Nat.eq_of_beq_eq_true hc.1.1.1, Nat.eq_of_beq_eq_true hc.1.1.2⟩, hc.1.2, hc.2, hr.2.symm⟩
theorem aD5 {H G : T aZ} : ∀ {l : List (Nat × aZ)}, im H l = true → (∀ v, isK l v = true → G.get v = H.get v) → im G l = true
 | [], _, _ => rfl
 | p :: r, h, hg => by
  simp only [im, Bool.and_eq_true] at h ⊢
  refine ⟨?_, aD5 h.2 fun v hv => hg v (by simp only [isK, hv, Bool.or_true])⟩
  rw [hg p.1 (by simp only [isK, Nat.beq_refl, Bool.true_or])]; exact h.1
theorem lhMask_bit {h : LH} (hh : lg h) (v : Nat) : (gF h).testBit v = (isK h.pre v || decide (h.n0 ≤ v ∧ v < h.n1)) := by
 have := hh.le
 unfold gF
 rw [aD7, aA9]
 have e : Nat.sub h.n1 h.n0 = h.n1 - h.n0 := rfl
 rw [e, show h.n0 + (h.n1 - h.n0) = h.n1 by omega]
theorem Good.jZ (ng : Nat) (h : LH) : Good (AX.jZ ng h) := ⟨fun S x S' hr => by
 obtain ⟨⟨h1, _⟩, h2, _, rfl⟩ := Cs hr
 have := (oH h2).le
 show S.next ≤ h.n1; omega, fun S x S' hw hr => by
 obtain ⟨⟨h1, h1g⟩, h2, h3, rfl⟩ := Cs hr
 have hh := oH h2
 have hle := hh.le
 have hb := lhMask_bit hh
 refine ⟨gF h, gF h, rfl, rfl, fun v hv => hv, fun v hv => ?_, fun v hv hge => ?_, fun v h1' h2' => ?_, fun v hv => ?_, fun T hT hag => ?_⟩
 ·rw [hb v, Bool.or_eq_true, decide_eq_true_eq] at hv
  show v < h.n1
  rcases hv with hv | hv
  ·have := hh.pre v hv; omega
  ·exact hv.2
 ·rw [hb v, Bool.or_eq_true, decide_eq_true_eq] at hv
  have hge : h.n1 ≤ v := hge
  rcases hv with hv | hv
  ·have := hh.pre v hv; omega
  ·omega
 ·rw [hb v, Bool.or_eq_true, decide_eq_true_eq]
  right; exact ⟨by omega, h2'⟩
 ·rw [hb v, Bool.or_eq_false_iff, decide_eq_false_iff_not] at hv
  show (eZ h S.heap).get v = _
  rw [oI hh, if_neg hv.2, if_neg (by rw [hv.1]; simp)]
  have : isK h.post v = false := by
   rw [Bool.eq_false_iff]; intro hp
   obtain ⟨p1, p2⟩ := hh.post v hp
   rcases p2 with p2 | p2
   ·rw [hv.1] at p2; cases p2
   ·exact hv.2 ⟨p2, p1⟩
  rw [Cu this]; rfl
 ·have hpre : ∀ v, isK h.pre v = true → T.heap.get v = S.heap.get v := fun v hv => hag v (by rw [hb v, hv, Bool.true_or]) (fun hc => by have := hh.pre v hv; omega)
  refine ⟨⟨eZ h T.heap, h.n1, Nat.lor T.acc (gF h), Nat.lor T.wr (gF h)⟩, ?_, rfl, rfl, rfl, fun v => ?_⟩
  ·unfold AX.jZ
   rw [hT, h1, h1g, Nat.beq_refl, Nat.beq_refl, h2, aD5 h3 hpre]; rfl
  ·show (eZ h T.heap).get v = if (gF h).testBit v = true then (eZ h S.heap).get v else T.heap.get v
   rw [hb v, oI hh, oI hh]
   by_cases e1 : h.n0 ≤ v ∧ v < h.n1
   ·simp [e1]
   ·by_cases e2 : isK h.pre v = true
    ·simp [e1, e2]
    ·have e2 : isK h.pre v = false := by simpa using e2
     have : isK h.post v = false := by
      rw [Bool.eq_false_iff]; intro hp
      obtain ⟨p1, p2⟩ := hh.post v hp
      rcases p2 with p2 | p2
      ·rw [e2] at p2; cases p2
      ·exact e1 ⟨p2, p1⟩
     simp [e1, e2, Cu this]⟩
theorem aG6 {ng : Nat} {h : LH} {S S' : St} {x : Unit} (hr : AX.gj ng h S = some (x, S')) : (S.next ≤ h.n0 ∧ ng = h.ng) ∧ iK h = true ∧ iK (ev S.next h) = true ∧ im S.heap h.pre = true ∧ S' = ⟨eZ (ev S.next h) S.heap, h.n1, Nat.lor S.acc (gF (ev S.next h)), Nat.lor S.wr (gF (ev S.next h))⟩ := by
 unfold AX.gj at hr
 cases hc : (Nat.ble S.next h.n0 && iK h) with
 | false => rw [hc] at hr; cases hr
 | true =>
  rw [hc, cond_true] at hr
  rw [Bool.and_eq_true] at hc
  obtain ⟨⟨_, h2⟩, h3, h4, h5⟩ := Cs hr
  exact ⟨⟨Nat.le_of_ble_eq_true hc.1, h2⟩, hc.2, h3, h4, h5⟩
theorem Good.gj (ng : Nat) (h : LH) : Good (AX.gj ng h) := by
 have key : ∀ S x S', AX.gj ng h S = some (x, S') → AX.jZ ng (ev S.next h) S = some (x, S') := fun S x S' hr => by
  unfold AX.gj at hr
  cases hc : (Nat.ble S.next h.n0 && iK h) with
  | false => rw [hc] at hr; cases hr
  | true => rw [hc, cond_true] at hr; exact hr
 refine ⟨fun S x S' hr => (Good.jZ ng (ev S.next h)).mono S x S' (key S x S' hr), fun S x S' hw hr => ?_⟩
 obtain ⟨A, W, hf⟩ := (Good.jZ ng (ev S.next h)).ok S x S' hw (key S x S' hr)
 refine ⟨A, W, { hf with fr := fun T hT hag => ?_ }⟩
 obtain ⟨T', h1, h2⟩ := hf.fr T hT hag
 refine ⟨T', ?_, h2⟩
 unfold AX.gj at hr ⊢
 rw [hT]
 cases hc : (Nat.ble S.next h.n0 && iK h) with
 | false => rw [hc] at hr; cases hr
 | true => rw [cond_true]; exact h1
theorem Good.ja (ng : Nat) (E : Env) (l : LF) : Good (AX.ja ng E l) := by
 unfold AX.ja
 split
 ·exact Good.ret _
 ·exact Good.bnd (Good.gj _ _) fun _ => Good.ret _
theorem Good.ga (tb : Tab) (v : Nat) : Good (AX.ga tb v) := by
 unfold AX.ga
 exact Good.bnd (Good.rdA _) fun _ => Good.bnd (Good.aK _) fun _ => Good.ret _
structure GoodF (tb : Tab) (f : Nat) : Prop where
 code : ∀ L c E, Good (AX.code tb f L c E)
 opsT : ∀ all r E, Good (AX.opsT tb f all r E)
 fG : ∀ all r n E l, Good (AX.fG tb f all r n E l)
 oper : ∀ o E, Good (AX.oper tb f o E)
 call : ∀ g l, Good (AX.call tb f g l)
 di : ∀ g l, Good (AX.di tb f g l)
theorem ez (tb : Tab) : ∀ f, GoodF tb f
 | 0 => ⟨fun _ _ _ => by unfold AX.code; exact Good.fail, fun _ _ _ => by unfold AX.opsT; exact Good.fail, fun _ _ _ _ _ => by unfold AX.fG; exact Good.fail, fun _ _ => by unfold AX.oper; exact Good.fail, fun _ _ => by unfold AX.call; exact Good.fail, fun _ _ => by unfold AX.di; exact Good.fail⟩
 | f + 1 => by
  have ih := ez tb f
  refine ⟨fun L c E => ?_, fun all r E => ?_, fun all r n E l => ?_, fun o E => ?_, fun g l => ?_, fun g l => ?_⟩
  ·unfold AX.code
   split <;> repeat (first | exact ih.code _ _ _ | exact Good.hypB' _ _ | exact Good.ja _ _ _ | exact ih.opsT _ _ _ | exact ih.fG _ _ _ _ _ | exact ih.call _ _ | exact Good.ga _ _ | exact Good.newE _ | exact Good.kill _ | exact Good.ret _ | exact Good.fail | exact Good.aK _ | apply Good.cond | apply Good.bnd | intro _ | split)
  ·cases r with
   | nil => unfold AX.opsT; exact Good.ret _
   | cons o r =>
    unfold AX.opsT
    repeat (first | exact ih.oper _ _ | exact ih.opsT _ _ _ | exact Good.aK _ | apply Good.cond | apply Good.bnd | intro _)
  ·cases r with
   | nil => unfold AX.fG; exact Good.ret _
   | cons o r =>
    unfold AX.fG
    repeat (first | exact Good.ka (ih.oper _ _) | exact ih.fG _ _ _ _ _ | exact Good.aK _ | apply Good.cond | apply Good.bnd | intro _)
  ·unfold AX.oper
   split
   ·split
    ·exact Good.builtin _ _ _ _
    ·repeat (first | exact ih.call _ _ | exact ih.di _ _ | exact Good.fail | split)
    ·repeat (first | exact ih.call _ _ | exact Good.fail | exact Good.aK _ | apply Good.bnd | intro _ | split)
   ·exact Good.simple _ _ _
  ·unfold AX.call
   repeat (first | exact Good.gj _ _ | exact Good.ext _ _ _ | exact Good.results _ _ _ | exact ih.code _ _ _ | exact Good.ret _ | exact Good.fail | exact Good.aK _ | apply Good.cond | apply Good.bnd | intro _ | split)
  ·unfold AX.di
   repeat (first | exact ih.code _ _ _ | exact Good.ga _ _ | exact Good.eE _ _ | exact Good.ret _ | exact Good.fail | exact Good.aK _ | apply Good.cond | apply Good.bnd | intro _ | split)
end Go.AX
end
section
namespace Go.AX
def eA (C : Cx) (ρ : ak) (E : Env) (a : Act) : Prop :=
 a.tmps.size = E.nt ∧ E.nt ≤ 16777213 ∧ ∀ t x, E.tm.get t = some x → Rel C ρ x (a.tmps.getD t undef)
theorem eA.mono {C : Cx} {ρ ρ' : ak} {E : Env} {a : Act} (h : eA C ρ E a) (hs : Sub ρ ρ') : eA C ρ' E a :=
 ⟨h.1, h.2.1, fun t x ht => Rel.mono hs x _ (h.2.2 t x ht)⟩
theorem CL (a : Act) (d : Option Tmp) (v : Value) : (a.put d v).defers = a.defers := by cases d <;> rfl
theorem eA.put {C : Cx} {ρ : ak} {E E' : Env} {a : Act} {d : Option Tmp} {x : AV} {v : Value} (h : eA C ρ E a) (hp : E.put d x = some E') (hx : Rel C ρ x v) : eA C ρ E' (a.put d v) := by
 cases d with
 | none => simp only [Env.aL4, Option.some.injEq] at hp; subst hp; exact h
 | some d =>
  rw [Env.aL3] at hp
  cases hc : Nat.blt d E.nt with
  | false => rw [hc] at hp; cases hp
  | true =>
   rw [hc] at hp
   simp only [cond_true, Option.some.injEq] at hp
   subst hp
   have hlt : Nat.lt d E.nt := Nat.le_of_ble_eq_true hc
   obtain ⟨h1, h2, h3⟩ := h
   have hd : Nat.le d 16777213 := Nat.le_trans (Nat.le_of_lt hlt) h2
   refine ⟨by simp [Act.put, h1], h2, fun t y ht => ?_⟩
   simp only [] at ht
   rw [cm _ _ _ _ hd] at ht
   simp only [Act.put]
   by_cases e : t = d
   ·subst e
    rw [if_pos rfl] at ht; injection ht with ht; subst ht
    have hlt' : t < a.tmps.size := by rw [h1]; exact hlt
    simpa [Array.getD, hlt'] using hx
   ·rw [if_neg e] at ht
    have := h3 t y ht
    simpa [Array.getD_eq_getD_getElem?, Array.getElem?_setIfInBounds_ne (Ne.symm e)] using this
theorem l7 {C : Cx} {tb : Tab} {ρ : ak} {B : Fz} {H : T aZ} {w : World} {E : Env} {a : Act} (hF : Fits C tb.ng B ρ H w) (h : eA C ρ E a) (x : Operand) : Rel C ρ (op tb.ng E.tm x) (a.eval x) := by
 cases x with
 | tmp t =>
  simp only [op, Act.eval]
  cases hg : E.tm.get t with
  | none => simp [Rel]
  | some v => exact h.2.2 t v hg
 | const v => exact qM C ρ v
 | global g =>
  simp only [op, Act.eval]
  cases hc : Nat.blt g tb.ng with
  | false => simp [Rel]
  | true =>
   simp only [cond_true, Rel]
   exact ⟨_, hF.glob g (Nat.le_of_ble_eq_true hc), rfl⟩
 | func f => simp only [op, Act.eval, Rel, aH]; exact ⟨[], [], rfl, rfl, rfl⟩
theorem wanted_ok {C : Cx} {tb : Tab} (hyp : ∀ k r, (k, r) ∈ tb.hyp → aS C k r) {ρ : ak} {ops : Array Oper} {E : Env} {a : Act} {o : Oper} {b : Bool} (h : eA C ρ E a) (hw : wanted tb.hyp ops.toList E o = some b) : Region.wanted o (yielded ops a.tmps) = b := by
 unfold wanted at hw
 unfold Region.wanted
 cases hg : o.guard with
 | none => rw [hg] at hw; simp only [Option.some.injEq] at hw; simpa using hw
 | some p =>
  obtain ⟨j, want⟩ := p
  rw [hg] at hw
  simp only [] at hw ⊢
  have hj : ops.toList[j]? = ops[j]? := by simp
  rw [hj] at hw
  unfold yielded
  cases ho : ops[j]? with
  | none => rw [ho] at hw; cases hw; rfl
  | some o' =>
   rw [ho] at hw
   simp only [Option.bind_some] at hw ⊢
   cases hd : o'.dst with
   | none => rw [hd] at hw; simp only [Option.some.injEq] at hw; subst hw; simp
   | some d =>
    rw [hd] at hw
    simp only [Option.bind_some] at hw ⊢
    cases hv : E.tm.get d with
    | none => rw [hv] at hw; cases hw
    | some x =>
     rw [hv] at hw
     have hr := h.2.2 d x hv
     have hget : a.tmps.getD d undef = (a.tmps[d]?).getD undef := by simp [Array.getD_eq_getD_getElem?]
     rw [hget] at hr
     have qP : ∀ {y : AV}, (∀ v, Rel C ρ y v → ∀ q, v ≠ .bool q) → x = y → some false = some b → ((match a.tmps[d]? with | some (.bool q) => some q | _ => none) == some want) = b := by
      intro y hy e hb
      subst e
      injection hb with hb; subst hb
      have := hy _ hr
      cases ht : a.tmps[d]? with
      | none => rfl
      | some u =>
       rw [ht] at this
       cases u <;> first | rfl | exact absurd rfl (this _)
     cases x with
     | und => cases hw
     | b q =>
      simp only [Option.some.injEq] at hw
      simp only [Rel] at hr
      cases ht : a.tmps[d]? with
      | none => rw [ht] at hr; simp [undef] at hr
      | some u =>
       rw [ht] at hr
       simp only [Option.getD_some] at hr
       subst hr
       rw [← hw]; rfl
     | sl b' o'' n c r => exact qP (fun v hv q e => by subst e; cases r <;> simp [Rel] at hv) rfl hw
     | x i =>
      simp only [] at hw
      cases hh : hl tb.hyp (.bI (.x i) (.b true)) with
      | none => rw [hh] at hw; cases hw
      | some z =>
       rw [hh] at hw
       cases z <;> first | (cases hw; done) | skip
       rename_i r
       simp only [Option.some.injEq] at hw
       obtain ⟨b', e1, e2⟩ := hyp _ _ (qu hh)
       injection e1 with e1; subst e1
       obtain ⟨p, q', e3, e4, e5⟩ := e2 _ _ (.bool true) hr (by simp only [Rel])
       injection e4 with e4; subst e4
       have e6 : r = p := by rw [e5]; cases p <;> rfl
       subst e6
       cases ht : a.tmps[d]? with
       | none => rw [ht] at e3; simp [undef] at e3
       | some u =>
        rw [ht] at e3
        simp only [Option.getD_some] at e3
        subst e3
        rw [← hw]; rfl
     | _ => exact qP (fun v hv q e => by subst e; simp [Rel, typeHandle] at hv) rfl hw
end Go.AX
end
section
namespace Go.AX
/- one operation, given what a call answers -/
noncomputable def dY (tb : Tab) (cal rn : Nat → List AV → M AV) (o : Oper) (φ : Operand → AV) : M AV := match o.op with
 | .call c => match c.callee with
  | .builtin b => builtin tb b c.argTypes.toList (c.args.toList.map φ)
  | .value g => match φ g with
   | .fn g first cap => cal g (first ++ c.args.toList.map φ ++ cap)
   | .yl n => rn n (c.args.toList.map φ)
   | _ => fail
  | .invoke r m => match φ r with
   | .cU t v => bnd (aK (mC tb.met t m)) fun g => bnd (aK (recv g.2 v)) fun v => cal g.1 (v :: c.args.toList.map φ)
   | _ => fail
 | x => simple tb φ x
theorem aT9 (tb : Tab) (f : Nat) (o : Oper) (E : Env) : oper tb (f + 1) o E = dY tb (call tb f) (di tb f) o (op tb.ng E.tm) := by
 unfold oper dY
 cases o.op <;> rfl
theorem Et {spec : Nat → Option (Nat × Nat)} {φ ψ : Operand → AV} : ∀ (ps : List (Nat × Operand)) (l : List AV), (∀ x ∈ ps.map (·.2), φ x = ψ x) → gu spec φ l ps = gu spec ψ l ps
 | [], _, _ => by simp only [gu]
 | (i, x) :: ps, l, h => by
  have hx : φ x = ψ x := h x (by simp)
  have ih := fun l => Et (spec := spec) ps l (fun y hy => h y (by simp only [List.map_cons, List.mem_cons]; exact .inr hy))
  simp only [gu, hx, ih]
theorem aE2 {φ ψ : Operand → AV} (o : Option Operand) (d : Nat) (h : ∀ x, o = some x → φ x = ψ x) : jJ φ o d = jJ ψ o d := by
 cases o with
 | none => rfl
 | some x => simp only [jJ, h x rfl]
theorem sl2_congr {φ ψ : Operand → AV} (lo hi : Option Operand) (n : Nat) (h : ∀ x, lo = some x → φ x = ψ x) (h' : ∀ x, hi = some x → φ x = ψ x) : sl2 φ lo hi n = sl2 ψ lo hi n := by
 unfold sl2
 rw [aE2 lo _ h, aE2 hi _ h']
theorem simple_congr (tb : Tab) {φ ψ : Operand → AV} (o : Op) (h : ∀ x ∈ o.operands.toList, φ x = ψ x) : simple tb φ o = simple tb ψ o := by
 cases o <;> simp only [Op.operands] at h <;> simp only [simple]
 case build t ps =>
  have := fun spec l => Et (spec := spec) (φ := φ) (ψ := ψ) ps.toList l (fun x hx => h x (by simpa using hx))
  simp only [this]
 case buildSlice t n ps =>
  have := fun spec l => Et (spec := spec) (φ := φ) (ψ := ψ) ps.toList l (fun x hx => h x (by simpa using hx))
  simp only [this]
 case makeFunc fn first cap =>
  have h1 : first.toList.map φ = first.toList.map ψ := List.map_congr_left fun x hx => h x (by simp; exact .inl (by simpa using hx))
  have h2 : cap.toList.map φ = cap.toList.map ψ := List.map_congr_left fun x hx => h x (by simp; exact .inr (by simpa using hx))
  rw [h1, h2]
 case slice t x lo hi mx =>
  have hx : φ x = ψ x := h x (by simp)
  have hs := fun n => sl2_congr (φ := φ) (ψ := ψ) lo hi n (fun y hy => h y (by subst hy; simp)) (fun y hy => h y (by subst hy; simp))
  have hl : lo.map φ = lo.map ψ := by
   cases lo with
   | none => rfl
   | some y => exact congrArg some (h y (by simp))
  have hh : hi.map φ = hi.map ψ := by
   cases hi with
   | none => rfl
   | some y => exact congrArg some (h y (by simp))
  cases mx with
  | none => simp only [hx, hs, hl, hh]
  | some m =>
   have hm : φ m = ψ m := h m (by simp)
   simp only [hx, hs, hm]
 all_goals first | rfl | (simp only [List.mem_cons, List.not_mem_nil, or_false, forall_eq_or_imp, forall_eq] at h; simp only [h]; done) | (obtain ⟨h1, h2⟩ := h; simp only [h1, h2]; done) | (obtain ⟨h1, h2, h3⟩ := h; simp only [h1, h2, h3]; done) | (simp at h; simp [h]; done)
theorem operF_congr (tb : Tab) (cal rn : Nat → List AV → M AV) (o : Oper) {φ ψ : Operand → AV} (h : ∀ x ∈ o.op.operands.toList, φ x = ψ x) : dY tb cal rn o φ = dY tb cal rn o ψ := by
 unfold dY
 cases ho : o.op
 case call c =>
  rw [ho] at h
  simp only [Op.operands, Call.operands] at h
  have h1 : c.args.toList.map φ = c.args.toList.map ψ := List.map_congr_left fun x hx => h x (by simp; exact .inr (by simpa using hx))
  simp only [h1]
  cases hc : c.callee with
  | builtin b => rfl
  | value g => have hg : φ g = ψ g := h g (by simp [hc]); simp only [hg]
  | invoke r m => have hg : φ r = ψ r := h r (by simp [hc]); simp only [hg]
 all_goals (rw [ho] at h; exact simple_congr tb _ h)
/- the last writer -/
def lw {α : Type} (D wr : Nat → Bool) (X : Nat → α) : Nat → α
 | 0 => X 0
 | k + 1 => cond (D k && wr k) (X (k + 1)) (lw D wr X k)
theorem lwLo {α : Type} {D wr : Nat → Bool} {X : Nat → α} : ∀ i, (∀ k, k < i → wr k = false → X (k + 1) = X k) → (∀ j, j < i → wr j = true → D j = true) → lw D wr X i = X i
 | 0, _, _ => rfl
 | i + 1, hk, h => by
  have ih := lwLo i (fun k hk' => hk k (by omega)) (fun j hj => h j (by omega))
  unfold lw
  cases hw : wr i with
  | true => rw [h i (by omega) hw]; rfl
  | false => rw [Bool.and_false, cond_false, ih, hk i (by omega) hw]
theorem lwHi {α : Type} {D wr : Nat → Bool} {X : Nat → α} (i : Nat) : ∀ n, (∀ j, i ≤ j → j < i + n → D j = true → wr j = false) → lw D wr X (i + n) = lw D wr X i
 | 0, _ => rfl
 | n + 1, h => by
  have ih := lwHi (X := X) i n (fun j h1 h2 => h j h1 (by omega))
  show cond (D (i + n) && wr (i + n)) (X (i + n + 1)) (lw D wr X (i + n)) = _
  cases hD : D (i + n) with
  | false => rw [Bool.false_and, cond_false, ih]
  | true => rw [h (i + n) (by omega) (by omega) hD, Bool.and_false, cond_false, ih]
theorem lwC {α : Type} {D D' wr : Nat → Bool} {X : Nat → α} : ∀ n, (∀ k, k < n → (D' k && wr k) = (D k && wr k)) → lw D' wr X n = lw D wr X n
 | 0, _ => rfl
 | n + 1, h => by
  unfold lw
  rw [h n (by omega), lwC n fun k hk => h k (by omega)]
def add1 (D : Nat → Bool) (i : Nat) : Nat → Bool := fun k => Nat.beq k i || D k
theorem aX5 {α : Type} {D wr : Nat → Bool} {X : Nat → α} {i N : Nat} (hi : i < N) (hk : ∀ k, k < N → wr k = false → X (k + 1) = X k)
 (h1 : ∀ j, j < i → wr j = true → D j = true) (h2 : ∀ j, i < j → j < N → D j = true → wr j = false) (h3 : D i = false) : lw D wr X N = X i := by
 have e : N = i + (N - i) := by omega
 have hh : ∀ j, i ≤ j → j < i + (N - i) → D j = true → wr j = false := fun j a b c => by
  rcases Nat.lt_or_ge i j with h | h
  ·exact h2 j h (by omega) c
  ·have e : j = i := by omega
   rw [e, h3] at c; cases c
 rw [e, lwHi i (N - i) hh]
 exact lwLo i (fun k hk' => hk k (by omega)) h1
theorem aM8 {α : Type} {D wr : Nat → Bool} {X : Nat → α} {i N : Nat} (hi : i < N)
 (h2 : ∀ j, i < j → j < N → D j = true → wr j = false) (hw : wr i = true) : lw (add1 D i) wr X N = X (i + 1) := by
 have e : N = (i + 1) + (N - (i + 1)) := by omega
 rw [e, lwHi (i + 1) _ fun j a b c => by
  refine h2 j (by omega) (by omega) ?_
  unfold add1 at c
  rw [Bool.or_eq_true] at c
  rcases c with c | c
  ·have := Nat.eq_of_beq_eq_true c; omega
  ·exact c]
 unfold lw
 have : add1 D i i = true := by unfold add1; rw [Bool.or_eq_true]; exact .inl (Nat.beq_refl i)
 rw [this, hw]; rfl
theorem aX4 {α : Type} {D wr : Nat → Bool} {X : Nat → α} {i N : Nat} (hw : wr i = false) : lw (add1 D i) wr X N = lw D wr X N :=
 lwC N fun k _ => by
  unfold add1
  cases hb : Nat.beq k i with
  | false => rw [Bool.false_or]
  | true => have := Nat.eq_of_beq_eq_true hb; subst this; rw [hw, Bool.and_false, Bool.and_false]
theorem lw_all {α : Type} {D wr : Nat → Bool} {X : Nat → α} {N : Nat} (hk : ∀ k, k < N → wr k = false → X (k + 1) = X k) (h : ∀ j, j < N → D j = true) : lw D wr X N = X N :=
 lwLo N hk fun j hj _ => h j hj
theorem Cn {α : Type} {D wr : Nat → Bool} {X : Nat → α} : ∀ N, (∀ j, j < N → D j = false) → lw D wr X N = X 0
 | 0, _ => rfl
 | n + 1, h => by unfold lw; rw [h n (by omega), Bool.false_and, cond_false]; exact Cn n fun j hj => h j (by omega)
/- how many are left -/
def left (D : Nat → Bool) : Nat → Nat
 | 0 => 0
 | k + 1 => left D k + cond (D k) 0 1
theorem aN2 {D : Nat → Bool} {i : Nat} (hi : D i = false) : ∀ n, left (add1 D i) n + (if i < n then 1 else 0) = left D n
 | 0 => by simp [left]
 | n + 1 => by
  have ih := aN2 hi n
  unfold left
  by_cases e : n = i
  ·subst e
   have : add1 D n n = true := by unfold add1; rw [Bool.or_eq_true]; exact .inl (Nat.beq_refl n)
   rw [this, hi, cond_true, cond_false]
   rw [if_neg (by omega)] at ih
   rw [if_pos (by omega)]; omega
  ·have : add1 D i n = D n := by
    unfold add1
    cases hb : Nat.beq n i with
    | false => rfl
    | true => exact absurd (Nat.eq_of_beq_eq_true hb) e
   rw [this]
   by_cases h : i < n
   ·rw [if_pos h] at ih; rw [if_pos (by omega)]; omega
   ·rw [if_neg h] at ih; rw [if_neg (by omega)]; omega
theorem aH0 {D : Nat → Bool} : ∀ n, left D n = 0 → ∀ j, j < n → D j = true
 | 0, _, j, hj => by omega
 | n + 1, h, j, hj => by
  unfold left at h
  cases hD : D n with
  | false => rw [hD, cond_false] at h; omega
  | true =>
   rcases Nat.lt_or_ge j n with hlt | hge
   ·exact aH0 n (by omega) j hlt
   ·have : j = n := by omega
    subst this; exact hD
/- what stands ahead of what -/
inductive er (ops : List Oper) : Nat → Nat → Prop
 | edge {i : Nat} {o : Oper} {e : Edge} : ops[i]? = some o → e ∈ o.after.toList → ef e = true → er ops e.on i
 | step {i j : Nat} {o : Oper} {e : Edge} : er ops j e.on → ops[i]? = some o → e ∈ o.after.toList → ef e = true → er ops j i
theorem er.closed {ops : List Oper} {D : Nat → Bool} (hD : ∀ i o e, D i = true → ops[i]? = some o → e ∈ o.after.toList → ef e = true → D e.on = true) : ∀ {j i}, er ops j i → D i = true → D j = true
 | _, _, .edge ho he hb, h => hD _ _ _ h ho he hb
 | _, _, .step ha ho he hb, h => er.closed hD ha (hD _ _ _ h ho he hb)
theorem er.ready {ops : List Oper} {D : Nat → Bool} (hD : ∀ i o e, D i = true → ops[i]? = some o → e ∈ o.after.toList → ef e = true → D e.on = true) {i : Nat}
 (hi : ∀ o e, ops[i]? = some o → e ∈ o.after.toList → ef e = true → D e.on = true) {j : Nat} (h : er ops j i) : D j = true := by
 cases h with
 | edge ho he hb => exact hi _ _ ho he hb
 | step ha ho he hb => exact ha.closed hD (hi _ _ ho he hb)
def sL (ops : List Oper) (t : T Nat) : Prop := ∀ i j, (gi t i).testBit j = true → er ops j i
theorem aZ7 {ops : List Oper} {t : T Nat} (ht : sL ops t) {i : Nat} {o : Oper} (ho : ops[i]? = some o) : ∀ (l : List Edge) (s : Nat), (∀ e ∈ l, e ∈ o.after.toList) → (∀ j, s.testBit j = true → er ops j i) → ∀ j, (r8 t l s).testBit j = true → er ops j i
 | [], s, _, h, j, hj => h j (by simpa only [r8] using hj)
 | e :: l, s, hl, h, j, hj => by
  unfold r8 at hj
  refine aZ7 ht ho l _ (fun x hx => hl x (List.mem_cons_of_mem _ hx)) (fun k hk => ?_) j hj
  cases hb : ef e with
  | false => rw [hb, cond_false] at hk; exact h k hk
  | true =>
   rw [hb, cond_true, fw, fw, c9, Bool.or_eq_true, Bool.or_eq_true] at hk
   have he := hl e (List.mem_cons_self ..)
   rcases hk with (hk | hk) | hk
   ·exact h k hk
   ·have : e.on = k := by simpa using hk
    subst this; exact .edge ho he hb
   ·exact .step (ht _ _ hk) ho he hb
theorem FR {ops : List Oper} : ∀ (r : List Oper) (i : Nat) (t : T Nat), (∀ k o, r[k]? = some o → ops[i + k]? = some o) → i + r.length ≤ 16777214 → sL ops t → sL ops (jK r i t)
 | [], _, _, _, _, ht => by simpa only [jK] using ht
 | o :: r, i, t, hr, hle, ht => by
  unfold jK
  have ho : ops[i]? = some o := by simpa using hr 0 o rfl
  refine FR r (Nat.succ i) _ (fun k x hk => ?_) (by simp at hle; simp only [Nat.succ_eq_add_one]; omega) (fun a j hj => ?_)
  ·have := hr (k + 1) x (by simpa using hk)
   rw [show Nat.succ i + k = i + (k + 1) by omega]; exact this
  ·unfold gi at hj
   rw [cm _ _ _ _ (by simp at hle; omega)] at hj
   split at hj
   ·rename_i m hm
    split at hm
    ·rename_i e; subst e; injection hm with hm; subst hm
     exact aZ7 ht ho _ _ (fun _ h => h) (fun j h => by simp at h) j hj
    ·exact ht a j (by unfold gi; rw [hm]; exact hj)
   ·simp at hj
theorem aC1 {all : List Oper} {m : Nat} {o : Oper} : ∀ (l : List Oper) (j n : Nat), qI all m o l j n = true → ∀ k x, k < n → l[k]? = some x → m.testBit (j + k) = true ∨ pI all x o = true
 | _, _, 0, _, k, x, hk, _ => by omega
 | [], _, _ + 1, _, k, x, _, hx => by simp at hx
 | y :: l, j, n + 1, h, k, x, hk, hx => by
  unfold qI at h
  rw [Bool.and_eq_true, Bool.or_eq_true] at h
  cases k with
  | zero => simp at hx; subst hx; exact h.1
  | succ k =>
   have := aC1 l (Nat.succ j) n h.2 k x (by omega) (by simpa using hx)
   rw [show j + (k + 1) = Nat.succ j + k by omega]; exact this
theorem aF3 {all : List Oper} {t : T Nat} : ∀ (r : List Oper) (i : Nat), tX all t r i = true → ∀ k o, r[k]? = some o → (∀ e ∈ o.after.toList, ef e = true → e.on < i + k) ∧ qI all (gi t (i + k)) o all 0 (i + k) = true
 | [], _, _, k, o, ho => by simp at ho
 | y :: r, i, h, k, o, ho => by
  unfold tX at h
  rw [Bool.and_eq_true, Bool.and_eq_true] at h
  cases k with
  | zero =>
   simp at ho; subst ho
   refine ⟨fun e he hb => ?_, h.1.2⟩
   have := List.all_eq_true.1 h.1.1 e he
   rw [hb] at this
   simp at this
   omega
  | succ k =>
   have := aF3 r (Nat.succ i) h.2 k o (by simpa using ho)
   rw [show i + (k + 1) = Nat.succ i + k by omega]; exact this
theorem regOk_ok {ops : List Oper} (h : n7 ops = true) : ∀ i o, ops[i]? = some o → (∀ e ∈ o.after.toList, ef e = true → e.on < i) ∧ ∀ j x, j < i → ops[j]? = some x → er ops j i ∨ pI ops x o = true := by
 unfold n7 at h
 rw [Bool.and_eq_true] at h
 have hle := Nat.le_of_ble_eq_true h.1
 have hm : sL ops (jK ops 0 .leaf) := FR ops 0 .leaf (fun k o hk => by rw [Nat.zero_add]; exact hk) (by omega) (fun i j hj => by simp [gi, T.get] at hj)
 intro i o ho
 obtain ⟨h1, h2⟩ := aF3 ops 0 h.2 i o ho
 rw [Nat.zero_add] at h1 h2
 refine ⟨h1, fun j x hj hx => ?_⟩
 have := aC1 ops 0 i h2 j x hj hx
 rw [Nat.zero_add] at this
 exact this.imp (hm _ _) id
theorem aB5 {t : Nat} : ∀ l : List Operand, Operand.tmp t ∈ l → fg (tmpsOf l) t = true
 | [], h => by simp at h
 | x :: l, h => by
  rcases List.mem_cons.1 h with h | h
  ·subst h; simp only [tmpsOf, fg, Nat.beq_refl, Bool.true_or]
  ·have ih := aB5 l h
   cases x <;> simp only [tmpsOf, fg] <;> first | exact ih | (rw [Bool.or_eq_true]; exact .inr ih)
theorem looks_op {all : List Oper} {o : Oper} {t : Nat} (h : Operand.tmp t ∈ o.op.operands.toList) : fg (looks all o) t = true := by
 have := aB5 _ h
 unfold looks
 split
 ·exact this
 ·split
  ·split
   ·simp only [fg]; rw [Bool.or_eq_true]; exact .inr this
   ·exact this
  ·exact this
theorem looks_guard {all : List Oper} {o o' : Oper} {g : Nat} {b : Bool} {d : Nat} (hg : o.guard = some (g, b)) (ho : all[g]? = some o') (hd : o'.dst = some d) : fg (looks all o) d = true := by
 unfold looks
 rw [hg]; simp only [ho, hd, fg, Nat.beq_refl, Bool.true_or]
theorem FQ {all : List Oper} {x y : Oper} (h : pI all x y = true) : (∀ d, x.dst = some d → fg (looks all y) d = false) ∧ (∀ d, x.dst = some d → y.dst ≠ some d) ∧ (∀ d, y.dst = some d → fg (looks all x) d = false) := by
 unfold pI at h
 rw [Bool.and_eq_true] at h
 refine ⟨fun d hd => ?_, fun d hd he => ?_, fun d hd => ?_⟩
 ·have := h.1; rw [hd] at this; simp only [Bool.and_eq_true] at this
  simpa using this.1
 ·have := h.1; rw [hd, he] at this; simp only [Bool.and_eq_true, Nat.beq_refl] at this
  simp at this
 ·have := h.2; rw [hd] at this; simpa using this
end Go.AX
end
section
namespace Go.AX
def dW (Φ : Fence) : Prop := Φ = Fence.wide ∨ ∃ l, Φ = Fence.wide.inRound l
theorem dW.fn {Φ : Fence} (h : dW Φ) (f : FuncId) : Φ.fn f := by
 rcases h with rfl | ⟨l, rfl⟩ <;> exact trivial
theorem dW.room {Φ : Fence} (h : dW Φ) : Φ.depth.isSome = true → 1 ≤ 0 := by
 rcases h with rfl | ⟨l, rfl⟩ <;> intro e <;> cases e
theorem dW.deep {Φ : Fence} (h : dW Φ) (n : Nat) : Φ.depth.isSome = true → 1 ≤ n := by
 rcases h with rfl | ⟨l, rfl⟩ <;> intro e <;> cases e
theorem dW.calls {Φ : Fence} (h : dW Φ) {n : Nat} {P : Program} {f : FuncId} {args : Array Value} {w : World} {R : Ending → World → Prop} (hc : Calls P f args w R) : CallsIn Φ n P f args w R := by
 rcases h with rfl | ⟨l, rfl⟩
 ·exact callsIn_wide.2 hc
 ·exact (show CallsIn Fence.wide n P f args w R from callsIn_wide.2 hc)
theorem dW.out {Φ : Fence} (h : dW Φ) {n : Nat} {P : Program} {f : FuncId} {args : Array Value} {w : World} {R : Ending → World → Prop} (hc : CallsIn Fence.wide n P f args w R) : CallsIn Φ n P f args w R := by
 rcases h with rfl | ⟨l, rfl⟩ <;> exact hc
theorem tG : dW Fence.wide := .inl rfl
def CallOk (C : Cx) (tb : Tab) (B : Fz) (cal : Nat → List AV → M AV) : Prop :=
 ∀ (g : Nat) (l : List AV) (S : St) (v : AV) (S' : St) (ρ : ak) (w : World) (args : List Value) (o : Oper) (a : Act) (next : Act → World → Prop) (Q : Exit → Act → World → Prop) (Φ : Fence) (ν : Nat), dW Φ →
  cal g l S = some (v, S') → Fits C tb.ng B ρ S.heap w → tb.ng ≤ S.next → aH C ρ l args → Free ρ S.next S'.next →
  (∀ ρ' x w', Rel C ρ' v x → Fits C tb.ng B ρ' S'.heap w' → Ext ρ ρ' S.next S'.next → Below B w w' → next (a.put o.dst x) w') →
  o.uponIn Φ ν C.P a next Q ((callFunc g ⟨args⟩).run C.P w)
def RndOk (C : Cx) (tb : Tab) (B : Fz) (rn : Nat → List AV → M AV) : Prop :=
 ∀ (n : Nat) (l : List AV) (S : St) (v : AV) (S' : St) (ρ : ak) (w : World) (args : List Value) (o : Oper) (a : Act) (next : Act → World → Prop) (Q : Exit → Act → World → Prop) (Φ : Fence) (ν : Nat) (r : R), dW Φ →
  rn n l S = some (v, S') → Fits C tb.ng B ρ S.heap w → tb.ng ≤ S.next → aH C ρ l args → ρ n = some r → Free ρ S.next S'.next →
  (∀ ρ' x w', Rel C ρ' v x → Fits C tb.ng B ρ' S'.heap w' → Ext ρ ρ' S.next S'.next → Below B w w' → next (a.put o.dst x) w') →
  o.uponIn Φ ν C.P a next Q ((Instr.yield r.blk ⟨args⟩).run C.P w)
def pT (C : Cx) (tb : Tab) (B : Fz) (cal rn : Nat → List AV → M AV) : Prop := CallOk C tb B cal ∧ RndOk C tb B rn
def sK (C : Cx) (tb : Tab) : Prop := ∀ t m g d (v : AV) (u : AV) (ρ : ak) (x : Value) (w : World), mC tb.met t m = some (g, d) → recv d v = some u → Rel C ρ v x →
 ∃ y, (method (C.P.types.size + Made.depth) t x m).run C.P w = .ok (g, y) w ∧ Rel C ρ u y
theorem aL6 {C : Cx} {tb : Tab} {B : Fz} {ρ : ak} {w : World} {S S' : St} {cal rn : Nat → List AV → M AV} (hc : pT C tb B cal rn) (ht : ld C tb) (hm : sK C tb)
 {o : Oper} {φ : Operand → AV} {a : Act} {v : AV} {next : Act → World → Prop} {Q : Exit → Act → World → Prop} (h : dY tb cal rn o φ S = some (v, S')) (hF : Fits C tb.ng B ρ S.heap w) (av : tb.ng ≤ S.next)
 (hf : ∀ x ∈ o.op.operands.toList, Rel C ρ (φ x) (a.eval x)) (hfree : Free ρ S.next S'.next)
 (hk : ∀ ρ' x w', Rel C ρ' v x → Fits C tb.ng B ρ' S'.heap w' → Ext ρ ρ' S.next S'.next → Below B w w' → next (a.put o.dst x) w') {Φ : Fence} {ν : Nat} (hΦ : dW Φ) : o.wpIn Φ ν C.P a w next Q := by
 classical
 have hcg : dY tb cal rn o φ = dY tb cal rn o (fun x => if x ∈ o.op.operands.toList then φ x else .und) := operF_congr tb cal rn o fun x hx => by rw [if_pos hx]
 rw [hcg] at h
 have hf' : ∀ x, Rel C ρ ((fun x => if x ∈ o.op.operands.toList then φ x else .und) x) (a.eval x) := fun x => by
  show Rel C ρ (if x ∈ o.op.operands.toList then φ x else .und) (a.eval x)
  split
  ·rename_i hx; exact hf x hx
  ·simp [Rel]
 generalize (fun x => if x ∈ o.op.operands.toList then φ x else .und) = ψ at h hf'
 have fin : ∀ {r : Result Next}, bX C tb.ng B ρ w S S' v r → o.uponIn Φ ν C.P a next Q r := by
  rintro r ⟨ρ', x, w', h1 | ⟨h1, rfl⟩, h2, h3, h4, h5⟩
  ·rw [h1]; exact hk ρ' x w' h2 h3 h4 h5
  ·rw [h1]; exact hk ρ' undef w' h2 h3 h4 h5
 have hnd : ∀ c, o.op ≠ .defer c := fun c e => by
  unfold dY at h; rw [e] at h; exact (ar (show AX.fail S = some (v, S') from h)).elim
 refine ⟨fun f _ => hΦ.fn f, ?_⟩
 rw [Oper.semAt_eq _ _ _ hnd]
 by_cases hcall : ∃ c, o.op = .call c
 ·obtain ⟨c, ho⟩ := hcall
  unfold dY at h
  rw [ho] at h
  simp only [] at h
  cases hcb : c.callee <;> rw [hcb] at h <;> simp only [] at h
  case builtin b => exact fin (s_builtin ht hF av hf' ho hcb h hfree)
  case value g =>
   have hcg' := hcb
   have hg := hf' g
   generalize hψ : ψ g = pg at h hg
   cases pg <;> try exact (ar h).elim
   case yl n =>
    simp only [Rel] at hg
    obtain ⟨r, hr, hg⟩ := hg
    have hrun : (execOp a.eval o).run C.P w = (Instr.yield r.blk ⟨c.args.toList.map a.eval⟩).run C.P w := by
     have e1 : #[] ++ c.args.map a.eval = (⟨c.args.toList.map a.eval⟩ : Array Value) := by
      apply Array.toList_inj.1; simp
     simp only [execOp, ho, resolve, hcg', hg, Deferred.ofValue]
     rw [Sem.run_bind]
     simp only [Sem.run_pure, Result.andThen_ok, invoke]
     rw [e1]
    rw [hrun]
    exact hc.2 _ _ _ _ _ _ _ _ o a next Q Φ ν r hΦ h hF av (Ax hf' c.args.toList) hr hfree hk
   rename_i g' first cap
   simp only [Rel] at hg
   obtain ⟨as, cs, hg, h1, h2⟩ := hg
   have hrun : (execOp a.eval o).run C.P w = (callFunc g' ⟨as ++ c.args.toList.map a.eval ++ cs⟩).run C.P w := by
    have e1 : (⟨as⟩ : Array Value) ++ c.args.map a.eval ++ ⟨cs⟩ = ⟨as ++ c.args.toList.map a.eval ++ cs⟩ := by
     apply Array.toList_inj.1; simp
    simp only [execOp, ho, resolve, hcg', hg, Deferred.ofValue]
    rw [Sem.run_bind]
    simp only [Sem.run_pure, Result.andThen_ok, invoke]
    rw [e1]
   rw [hrun]
   exact hc.1 _ _ _ _ _ _ _ _ o a next Q Φ ν hΦ h hF av ((h1.app (Ax hf' c.args.toList)).app h2) hfree hk
  case invoke r m =>
   have hcr := hcb
   have hr := hf' r
   generalize hψ : ψ r = pr at h hr
   cases pr <;> try exact (ar h).elim
   rename_i t u
   simp only [Rel] at hr
   obtain ⟨x, hr, h1⟩ := hr
   obtain ⟨g, e1, h2⟩ := lb h
   obtain ⟨u', e2, h3⟩ := lb h2
   obtain ⟨g1, g2⟩ := g
   obtain ⟨y, hmeth, hy⟩ := hm t m g1 g2 u u' ρ x w e1 e2 h1
   have hrun : (execOp a.eval o).run C.P w = (callFunc g1 ⟨y :: c.args.toList.map a.eval⟩).run C.P w := by
    have e3 : (#[y] ++ (#[Value.iface t x] ++ c.args.map a.eval).extract 1 (#[Value.iface t x] ++ c.args.map a.eval).size : Array Value) = ⟨y :: c.args.toList.map a.eval⟩ := by
     apply Array.toList_inj.1; simp; exact List.take_of_length_le (by simp)
    simp only [execOp, ho, resolve, hcr, hr]
    rw [Sem.run_bind]
    simp only [Sem.run_pure, Result.andThen_ok, invoke]
    have e4 : (#[Value.iface t x] ++ c.args.map a.eval)[0]? = some (Value.iface t x) := by rw [← Array.getElem?_toList, Array.toList_append]; rfl
    rw [e4]
    simp only [callMethod]
    rw [Sem.run_bind]
    have hp : (program).run C.P w = .ok C.P w := rfl
    rw [hp]
    simp only [Result.andThen_ok]
    rw [Sem.run_bind, hmeth]
    simp only [Result.andThen_ok]
    rw [e3]
   rw [hrun]
   exact hc.1 _ _ _ _ _ _ _ _ o a next Q Φ ν hΦ h3 hF av (by simp only [aH]; exact ⟨y, _, rfl, hy, Ax hf' c.args.toList⟩) hfree hk
 ·have hs : dY tb cal rn o ψ = simple tb ψ o.op := by
   unfold dY
   cases ho : o.op <;> first | rfl | exact absurd ⟨_, ho⟩ hcall
  rw [hs] at h
  exact fin (simple_ok ht hF av hf' h hfree)
end Go.AX
end
section
namespace Go.AX
theorem Good.dY {tb : Tab} {cal rn : Nat → List AV → M AV} (hc : ∀ g l, Good (cal g l)) (hr : ∀ g l, Good (rn g l)) (o : Oper) (φ : Operand → AV) : Good (AX.dY tb cal rn o φ) := by
 unfold AX.dY
 cases o.op
 case call c =>
  simp only []
  split
  ·exact Good.builtin _ _ _ _
  ·split
   ·exact hc _ _
   ·exact hr _ _
   ·exact Good.fail
  ·split
   ·exact Good.bnd (Good.aK _) fun _ => Good.bnd (Good.aK _) fun _ => hc _ _
   ·exact Good.fail
 all_goals exact Good.simple _ _ _
structure sA (tb : Tab) (F : Nat) (all : List Oper) (o : Oper) (E E' : Env) (S S' : St) (b : Bool) (v : AV) (A W : Nat) : Prop where
 want : wanted tb.hyp all E o = some b
 put : E.put o.dst v = some E'
 run : b = true → ∃ g S1, g < F ∧ dY tb (call tb g) (di tb g) o (op tb.ng E.tm) ⟨S.heap, S.next, 0, 0⟩ = some (v, S1) ∧ S1.heap = S'.heap ∧ S1.next = S'.next ∧ S1.acc = A ∧ S1.wr = W
 no : b = false → v = .tu [] ∧ S'.heap = S.heap ∧ S'.next = S.next ∧ A = 0 ∧ W = 0
def sh {α : Type} (x : α) (f : Nat → α) : Nat → α
 | 0 => x
 | k + 1 => f k
theorem CP {tb : Tab} {F : Nat} {all : List Oper} : ∀ (f : Nat), f ≤ F → ∀ (r : List Oper) (n : Nat) (E : Env) (l : List Rec) (S : St) (E' : Env) (l' : List Rec) (S' : St), fG tb f all r n E l S = some ((E', l'), S') →
 ∃ (Es : Nat → Env) (Ss : Nat → St) (bs : Nat → Bool) (vs : Nat → AV) (As Ws : Nat → Nat) (R : List Rec), Es 0 = E ∧ Ss 0 = S ∧ Es r.length = E' ∧ Ss r.length = S' ∧ l' = R ++ l ∧
  (∀ k o, r[k]? = some o → sA tb F all o (Es k) (Es (k + 1)) (Ss k) (Ss (k + 1)) (bs k) (vs k) (As k) (Ws k)) ∧
  (∀ k, k < r.length → As k ≠ 0 → (⟨n + k, As k, Ws k⟩ : Rec) ∈ R) ∧
  (∀ i j, i < j → j < r.length → As i ≠ 0 → As j ≠ 0 → List.Sublist [(⟨n + j, As j, Ws j⟩ : Rec), ⟨n + i, As i, Ws i⟩] R)
 | 0, _, r, n, E, l, S, E', l', S', h => by unfold fG at h; exact (ar h).elim
 | f + 1, hf, [], n, E, l, S, E', l', S', h => by
  unfold fG at h
  obtain ⟨e1, e2⟩ := ae h
  injection e1 with e1 e3
  subst e1; subst e2; subst e3
  exact ⟨fun _ => E', fun _ => S', fun _ => false, fun _ => .und, fun _ => 0, fun _ => 0, [], rfl, rfl, rfl, rfl, rfl, fun k o hk => by simp at hk, fun k hk => by simp at hk, fun i j _ hj => by simp at hj⟩
 | f + 1, hf, o :: r, n, E, l, S, E', l', S', h => by
  unfold fG at h
  obtain ⟨b, hb, h1⟩ := lb h
  cases b with
  | true =>
   rw [cond_true] at h1
   obtain ⟨p, S1, h2, h3⟩ := bP h1
   obtain ⟨E1, hp, h4⟩ := lb h3
   obtain ⟨Es, Ss, bs, vs, As, Ws, R, q1, q2, q3, q4, q5, q6, q7, q8⟩ := CP f (Nat.le_of_succ_le hf) r (Nat.succ n) E1 _ S1 E' l' S' h4
   obtain ⟨v, A, W⟩ := p
   obtain ⟨S2, g1, g2, g3, g4, g5⟩ := aC2 h2
   simp only [] at g1 g2 g3 hp q5
   have hstep : sA tb F all o E E1 S S1 true v A W := ⟨hb, hp, fun _ => by
    cases f with
    | zero => unfold oper at g1; exact (ar g1).elim
    | succ g =>
     rw [aT9] at g1
     exact ⟨g, S2, by omega, g1, g4.symm, g5.symm, g2.symm, g3.symm⟩, fun h => by cases h⟩
   refine ⟨sh E Es, sh S Ss, sh true bs, sh v vs, sh A As, sh W Ws, R ++ (cond (Nat.beq A 0) [] [⟨n, A, W⟩]), rfl, rfl, q3, q4, ?_, fun k x hk => ?_, fun k hk hA => ?_, fun i j hij hj hAi hAj => ?_⟩
   ·rw [q5]; cases Nat.beq A 0 <;> simp
   ·cases k with
    | zero => simp at hk; subst hk; simp only [sh, q1, q2]; exact hstep
    | succ k => exact q6 k x (by simpa using hk)
   ·cases k with
    | zero =>
     have : Nat.beq A 0 = false := by
      cases hb : Nat.beq A 0 with
      | false => rfl
      | true => exact absurd (Nat.eq_of_beq_eq_true hb) hA
     rw [this]; simp [sh]
    | succ k =>
     have := q7 k (by simpa using hk) hA
     rw [show Nat.succ n + k = n + (k + 1) by omega] at this
     exact List.mem_append_left _ this
   ·cases j with
    | zero => omega
    | succ j =>
     cases i with
     | zero =>
      have : Nat.beq A 0 = false := by
       cases hb : Nat.beq A 0 with
       | false => rfl
       | true => exact absurd (Nat.eq_of_beq_eq_true hb) hAi
      rw [this]
      have hm := q7 j (by simpa using hj) hAj
      rw [show Nat.succ n + j = n + (j + 1) by omega] at hm
      exact List.Sublist.append (List.singleton_sublist.2 hm) (List.Sublist.refl _)
     | succ i =>
      have := q8 i j (by omega) (by simpa using hj) hAi hAj
      rw [show Nat.succ n + j = n + (j + 1) by omega, show Nat.succ n + i = n + (i + 1) by omega] at this
      exact this.trans (List.sublist_append_left _ _)
  | false =>
   rw [cond_false] at h1
   obtain ⟨E1, hp, h4⟩ := lb h1
   obtain ⟨Es, Ss, bs, vs, As, Ws, R, q1, q2, q3, q4, q5, q6, q7, q8⟩ := CP f (Nat.le_of_succ_le hf) r (Nat.succ n) E1 l S E' l' S' h4
   have hstep : sA tb F all o E E1 S S false (.tu []) 0 0 := ⟨hb, hp, fun h => (by cases h), fun _ => ⟨rfl, rfl, rfl, rfl, rfl⟩⟩
   refine ⟨sh E Es, sh S Ss, sh false bs, sh (.tu []) vs, sh 0 As, sh 0 Ws, R, rfl, rfl, q3, q4, q5, fun k x hk => ?_, fun k hk hA => ?_, fun i j hij hj hAi hAj => ?_⟩
   ·cases k with
    | zero => simp at hk; subst hk; simp only [sh, q1, q2]; exact hstep
    | succ k => exact q6 k x (by simpa using hk)
   ·cases k with
    | zero => exact absurd rfl hA
    | succ k =>
     have := q7 k (by simpa using hk) hA
     rw [show Nat.succ n + k = n + (k + 1) by omega] at this
     exact this
   ·cases j with
    | zero => omega
    | succ j =>
     cases i with
     | zero => exact absurd rfl hAi
     | succ i =>
      have := q8 i j (by omega) (by simpa using hj) hAi hAj
      rw [show Nat.succ n + j = n + (j + 1) by omega, show Nat.succ n + i = n + (i + 1) by omega] at this
      exact this
theorem clash_symm (x y : Rec) : clash x y = clash y x := by
 unfold clash
 have : Nat.lor (Nat.land x.wr y.acc) (Nat.land y.wr x.acc) = Nat.lor (Nat.land y.wr x.acc) (Nat.land x.wr y.acc) := Nat.or_comm _ _
 rw [this]
theorem aA3 {t : T Nat} : ∀ l : List Rec, r7 l = false → l.Pairwise fun y x => clash x y = true → (gi t y.idx).testBit x.idx = true
 | [], _ => .nil
 | x :: l, h => by
  unfold r7 at h
  rw [Bool.or_eq_false_iff] at h
  refine .cons (fun y hy hc => ?_) (aA3 l h.2)
  have := List.any_eq_false.1 h.1 y hy
  rw [clash_symm] at this
  exact absurd hc this
theorem aA1 {t : T Nat} : ∀ l : List Rec, qK t l = true → l.Pairwise fun y x => clash x y = true → (gi t y.idx).testBit x.idx = true
 | [], _ => .nil
 | x :: l, h => by
  unfold qK at h
  rw [Bool.and_eq_true] at h
  refine .cons (fun y hy hc => ?_) (aA1 l h.2)
  have := List.all_eq_true.1 h.1 y hy
  rw [hc] at this
  simpa using this
theorem clash_of {x y : Rec} {v : Nat} (h : (x.wr.testBit v = true ∧ y.acc.testBit v = true) ∨ (y.wr.testBit v = true ∧ x.acc.testBit v = true)) : clash x y = true := by
 unfold clash
 cases hb : Nat.beq (Nat.lor (Nat.land x.wr y.acc) (Nat.land y.wr x.acc)) 0 with
 | false => rfl
 | true =>
  have e := Nat.eq_of_beq_eq_true hb
  have e2 : (Nat.lor (Nat.land x.wr y.acc) (Nat.land y.wr x.acc)).testBit v = true := by
   rw [fw, Bool.or_eq_true]
   have l1 : (Nat.land x.wr y.acc).testBit v = (x.wr.testBit v && y.acc.testBit v) := Nat.testBit_and _ _ _
   have l2 : (Nat.land y.wr x.acc).testBit v = (y.wr.testBit v && x.acc.testBit v) := Nat.testBit_and _ _ _
   rw [l1, l2]
   rcases h with ⟨h1, h2⟩ | ⟨h1, h2⟩
   ·left; rw [h1, h2]; rfl
   ·right; rw [h1, h2]; rfl
  rw [e] at e2; simp at e2
structure Tr (tb : Tab) (F : Nat) (ops : Array Oper) (Es : Nat → Env) (Ss : Nat → St) (bs : Nat → Bool) (vs : Nat → AV) (As Ws : Nat → Nat) : Prop where
 step : ∀ i o, ops[i]? = some o → sA tb F ops.toList o (Es i) (Es (i + 1)) (Ss i) (Ss (i + 1)) (bs i) (vs i) (As i) (Ws i)
 low : ∀ i o, ops[i]? = some o → ∀ e ∈ o.after.toList, ef e = true → e.on < i
 apart : ∀ i j oi oj, j < i → ops[i]? = some oi → ops[j]? = some oj → er ops.toList j i ∨ pI ops.toList oj oi = true
 clash : ∀ i j v, j < i → i < ops.size → (((Ws j).testBit v = true ∧ (As i).testBit v = true) ∨ ((Ws i).testBit v = true ∧ (As j).testBit v = true)) → er ops.toList j i
 mono : ∀ i, i < ops.size → (Ss i).next ≤ (Ss (i + 1)).next
 sub : ∀ i v, i < ops.size → (Ws i).testBit v = true → (As i).testBit v = true
 keep : ∀ i v, i < ops.size → (Ws i).testBit v = false → (Ss (i + 1)).heap.get v = (Ss i).heap.get v
 fr : ∀ i o, ops[i]? = some o → bs i = true → ∀ T : St, T.next = (Ss i).next → (∀ v, (As i).testBit v = true → ¬ ((Ss i).next ≤ v ∧ v < (Ss (i + 1)).next) → T.heap.get v = (Ss i).heap.get v) →
  ∃ g T', g < F ∧ dY tb (call tb g) (di tb g) o (op tb.ng (Es i).tm) T = some (vs i, T') ∧ T'.next = (Ss (i + 1)).next ∧ ∀ v, T'.heap.get v = if (Ws i).testBit v then (Ss (i + 1)).heap.get v else T.heap.get v
theorem jX {Ss : Nat → St} {N : Nat} (h : ∀ i, i < N → (Ss i).next ≤ (Ss (i + 1)).next) (i : Nat) : ∀ j, i ≤ j → j ≤ N → (Ss i).next ≤ (Ss j).next
 | 0, h1, _ => by have : i = 0 := by omega
                  rw [this]; exact Nat.le_refl _
 | j + 1, h1, h2 => by
  rcases Nat.lt_or_ge i (j + 1) with hlt | hge
  ·exact Nat.le_trans (jX h i j (by omega) (by omega)) (h j (by omega))
  ·have : i = j + 1 := by omega
   rw [this]; exact Nat.le_refl _
theorem tr_of {tb : Tab} {f F : Nat} {ops : Array Oper} {E E' : Env} {l' : List Rec} {S S' : St} (hf : f ≤ F) (oa : n7 ops.toList = true) (h : fG tb f ops.toList ops.toList 0 E [] S = some ((E', l'), S'))
 (hord : (!(r7 l') || qK (jK ops.toList 0 .leaf) l') = true) (hrw : Rw S S'.next) :
 ∃ Es Ss bs vs As Ws, Tr tb F ops Es Ss bs vs As Ws ∧ Es 0 = E ∧ Ss 0 = S ∧ Es ops.size = E' ∧ Ss ops.size = S' := by
 obtain ⟨Es, Ss, bs, vs, As, Ws, R, q1, q2, q3, q4, q5, q6, q7, q8⟩ := CP f hf _ _ _ _ _ _ _ _ h
 have hN : ops.toList.length = ops.size := Array.length_toList
 rw [hN] at q3 q4 q7 q8
 rw [List.append_nil] at q5
 subst q5
 have hget : ∀ (i : Nat), ops.toList[i]? = ops[i]? := fun i => Array.getElem?_toList
 have hle : ops.toList.length ≤ 16777213 := by
  unfold n7 at oa; rw [Bool.and_eq_true] at oa; exact Nat.le_of_ble_eq_true oa.1
 have hm : sL ops.toList (jK ops.toList 0 .leaf) := FR ops.toList 0 .leaf (fun k o hk => by rw [Nat.zero_add]; exact hk) (by omega) (fun i j hj => by simp [gi, T.get] at hj)
 have hpair : l'.Pairwise fun y x => clash x y = true → (gi (jK ops.toList 0 .leaf) y.idx).testBit x.idx = true := by
  rw [Bool.or_eq_true] at hord
  rcases hord with ho | ho
  ·exact aA3 l' (by simpa using ho)
  ·exact aA1 l' ho
 have hsome : ∀ i, i < ops.size → ∃ o, ops[i]? = some o := fun i hi => ⟨ops[i], Array.getElem?_eq_getElem hi⟩
 have step : ∀ i o, ops[i]? = some o → sA tb F ops.toList o (Es i) (Es (i + 1)) (Ss i) (Ss (i + 1)) (bs i) (vs i) (As i) (Ws i) := fun i o ho => q6 i o (by rw [hget]; exact ho)
 have mono : ∀ i, i < ops.size → (Ss i).next ≤ (Ss (i + 1)).next := fun i hi => by
  obtain ⟨o, ho⟩ := hsome i hi
  have st := step i o ho
  cases hb : bs i with
  | true =>
   obtain ⟨g, S1, _, h1, _, h2, _⟩ := st.run hb
   have := (Good.dY (ez tb g).call (ez tb g).di o (op tb.ng (Es i).tm)).mono _ _ _ h1
   rw [← h2]; exact this
  | false => have := st.no hb; omega
 have frame : ∀ i, i < ops.size → Rw (Ss i) (Ss ops.size).next →
  (∀ v, (Ws i).testBit v = true → (As i).testBit v = true) ∧ (∀ v, (Ws i).testBit v = true → v < (Ss (i + 1)).next) ∧ (∀ v, (Ws i).testBit v = false → (Ss (i + 1)).heap.get v = (Ss i).heap.get v) ∧
  (∀ o, ops[i]? = some o → bs i = true → ∀ T : St, T.next = (Ss i).next → (∀ v, (As i).testBit v = true → ¬ ((Ss i).next ≤ v ∧ v < (Ss (i + 1)).next) → T.heap.get v = (Ss i).heap.get v) →
  ∃ g T', g < F ∧ dY tb (call tb g) (di tb g) o (op tb.ng (Es i).tm) T = some (vs i, T') ∧ T'.next = (Ss (i + 1)).next ∧ ∀ v, T'.heap.get v = if (Ws i).testBit v then (Ss (i + 1)).heap.get v else T.heap.get v) := fun i hi hw => by
  obtain ⟨o, ho⟩ := hsome i hi
  have st := step i o ho
  cases hb : bs i with
  | true =>
   obtain ⟨g, S1, hg, h1, h2, h3, h4, h5⟩ := st.run hb
   have hnx := jX mono (i + 1) ops.size (by omega) (Nat.le_refl _)
   obtain ⟨A, W, q⟩ := (Good.dY (ez tb g).call (ez tb g).di o (op tb.ng (Es i).tm)).ok ⟨(Ss i).heap, (Ss i).next, 0, 0⟩ _ S1 (fun v a b => hw v a (by omega)) h1
   have hA : A = As i := by rw [← h4, q.acc]; exact (Nat.zero_or A).symm
   have hW : W = Ws i := by rw [← h5, q.wr]; exact (Nat.zero_or W).symm
   subst hA; subst hW
   refine ⟨q.sub, fun v hv => by rw [← h3]; exact q.lt v hv, fun v hv => by rw [← h2]; exact q.keep v hv, fun o' ho' _ T hT hag => ?_⟩
   rw [ho] at ho'; injection ho' with ho'; subst ho'
   obtain ⟨T', t1, t2, t3, t4, t5⟩ := q.fr T hT (fun v a b => hag v a (by rw [← h3]; exact b))
   exact ⟨g, T', hg, t1, t2.trans h3, fun v => by rw [← h2]; exact t5 v⟩
  | false =>
   obtain ⟨_, h2, h3, hA, hW⟩ := st.no hb
   exact ⟨fun v hv => by rw [hW] at hv; simp at hv, fun v hv => by rw [hW] at hv; simp at hv, fun v _ => by rw [h2], fun _ _ hb' => by cases hb'⟩
 have ph : ∀ i, i ≤ ops.size → Rw (Ss i) (Ss ops.size).next := by
  intro i
  induction i with
  | zero => intro _; rw [q2, q4]; exact hrw
  | succ i ih =>
   intro hi v hv1 hv2
   have hwi := ih (by omega)
   obtain ⟨_, f2, f3, _⟩ := frame i (by omega) hwi
   cases hW : (Ws i).testBit v with
   | true => have := f2 v hW; omega
   | false => rw [f3 v hW]; exact hwi v (by have := mono i (by omega); omega) hv2
 have regf := regOk_ok oa
 refine ⟨Es, Ss, bs, vs, As, Ws, ⟨step, fun i o ho => (regf i o (by rw [hget]; exact ho)).1, fun i j oi oj hij hoi hoj => (regf i oi (by rw [hget]; exact hoi)).2 j oj hij (by rw [hget]; exact hoj), fun i j v hij hi hc => ?_, mono, fun i v hi => (frame i hi (ph i (by omega))).1 v, fun i v hi => (frame i hi (ph i (by omega))).2.2.1 v, fun i o ho => ?_⟩, q1, q2, q3, q4⟩
 ·have s1 := (frame i hi (ph i (by omega))).1
  have s2 := (frame j (by omega) (ph j (by omega))).1
  have nz : ∀ {n : Nat}, n.testBit v = true → n ≠ 0 := fun hn e => by rw [e] at hn; simp at hn
  have hAi : As i ≠ 0 := hc.elim (fun h => nz h.2) (fun h => nz (s1 v h.1))
  have hAj : As j ≠ 0 := hc.elim (fun h => nz (s2 v h.1)) (fun h => nz h.2)
  have hsub := q8 j i hij hi hAj hAi
  have hp := hpair.sublist hsub
  have := (List.pairwise_cons.1 hp).1 _ (List.mem_singleton.2 rfl) (clash_of (v := v) hc)
  simp only [Nat.zero_add] at this
  exact hm _ _ this
 ·have hi : i < ops.size := (Array.getElem?_eq_some_iff.1 ho).1
  exact (frame i hi (ph i (by omega))).2.2.2 o ho
end Go.AX
end
section
namespace Go.AX
theorem op_ok' {C : Cx} {tb : Tab} {ρ : ak} {B : Fz} {H : T aZ} {w : World} {E : Env} {a : Act} (hF : Fits C tb.ng B ρ H w) (x : Operand)
 (h : ∀ t v, x = .tmp t → E.tm.get t = some v → Rel C ρ v (a.tmps.getD t undef)) : Rel C ρ (op tb.ng E.tm x) (a.eval x) := by
 cases x with
 | tmp t =>
  simp only [op, Act.eval]
  cases hg : E.tm.get t with
  | none => simp [Rel]
  | some v => exact h t v rfl hg
 | const v => exact qM C ρ v
 | global g =>
  simp only [op, Act.eval]
  cases hc : Nat.blt g tb.ng with
  | false => simp [Rel]
  | true =>
   simp only [cond_true, Rel]
   exact ⟨_, hF.glob g (Nat.le_of_ble_eq_true hc), rfl⟩
 | func f => simp only [op, Act.eval, Rel, aH]; exact ⟨[], [], rfl, rfl, rfl⟩
theorem wanted_ok' {C : Cx} {tb : Tab} (hyp : ∀ k r, (k, r) ∈ tb.hyp → aS C k r) {ρ : ak} {ops : Array Oper} {E : Env} {a : Act} {o : Oper} {b : Bool}
 (h : ∀ t v, fg (looks ops.toList o) t = true → E.tm.get t = some v → Rel C ρ v (a.tmps.getD t undef)) (hw : wanted tb.hyp ops.toList E o = some b) : Region.wanted o (yielded ops a.tmps) = b := by
 unfold wanted at hw
 unfold Region.wanted
 cases hg : o.guard with
 | none => rw [hg] at hw; simp only [Option.some.injEq] at hw; simpa using hw
 | some p =>
  obtain ⟨j, want⟩ := p
  rw [hg] at hw
  simp only [] at hw ⊢
  have hj : ops.toList[j]? = ops[j]? := by simp
  rw [hj] at hw
  unfold yielded
  cases ho : ops[j]? with
  | none => rw [ho] at hw; cases hw; rfl
  | some o' =>
   rw [ho] at hw
   simp only [Option.bind_some] at hw ⊢
   cases hd : o'.dst with
   | none => rw [hd] at hw; simp only [Option.some.injEq] at hw; subst hw; simp
   | some d =>
    rw [hd] at hw
    simp only [Option.bind_some] at hw ⊢
    cases hv : E.tm.get d with
    | none => rw [hv] at hw; cases hw
    | some x =>
     rw [hv] at hw
     have hr := h d x (looks_guard hg (hj.trans ho) hd) hv
     have hget : a.tmps.getD d undef = (a.tmps[d]?).getD undef := by simp [Array.getD_eq_getD_getElem?]
     rw [hget] at hr
     have qP : ∀ {y : AV}, (∀ v, Rel C ρ y v → ∀ q, v ≠ .bool q) → x = y → some false = some b → ((match a.tmps[d]? with | some (.bool q) => some q | _ => none) == some want) = b := by
      intro y hy e hb
      subst e
      injection hb with hb; subst hb
      have := hy _ hr
      cases ht : a.tmps[d]? with
      | none => rfl
      | some u =>
       rw [ht] at this
       cases u <;> first | rfl | exact absurd rfl (this _)
     cases x with
     | und => cases hw
     | b q =>
      simp only [Option.some.injEq] at hw
      simp only [Rel] at hr
      cases ht : a.tmps[d]? with
      | none => rw [ht] at hr; simp [undef] at hr
      | some u =>
       rw [ht] at hr
       simp only [Option.getD_some] at hr
       subst hr
       rw [← hw]; rfl
     | sl b' o'' n c r => exact qP (fun v hv q e => by subst e; cases r <;> simp [Rel] at hv) rfl hw
     | x i =>
      simp only [] at hw
      cases hh : hl tb.hyp (.bI (.x i) (.b true)) with
      | none => rw [hh] at hw; cases hw
      | some z =>
       rw [hh] at hw
       cases z <;> first | (cases hw; done) | skip
       rename_i r
       simp only [Option.some.injEq] at hw
       obtain ⟨b', e1, e2⟩ := hyp _ _ (qu hh)
       injection e1 with e1; subst e1
       obtain ⟨p, q', e3, e4, e5⟩ := e2 _ _ (.bool true) hr (by simp only [Rel])
       injection e4 with e4; subst e4
       have e6 : r = p := by rw [e5]; cases p <;> rfl
       subst e6
       cases ht : a.tmps[d]? with
       | none => rw [ht] at e3; simp [undef] at e3
       | some u =>
        rw [ht] at e3
        simp only [Option.getD_some] at e3
        subst e3
        rw [← hw]; rfl
     | _ => exact qP (fun v hv q e => by subst e; simp [Rel, typeHandle] at hv) rfl hw
theorem Fits.congr {C : Cx} {ng : Nat} {B : Fz} {ρ : ak} {H H' : T aZ} {w : World} (h : Fits C ng B ρ H w) (hh : ∀ v, H'.get v = H.get v) : Fits C ng B ρ H' w :=
 h.sub fun v k hk => by rw [← hh]; exact hk
def iU (ops : Array Oper) (k t : Nat) : Bool := match ops[k]? with
 | some o => match o.dst with
  | some d => Nat.beq d t
  | none => false
 | none => false
theorem AW {ops : Array Oper} {k t : Nat} (h : iU ops k t = true) : ∃ o, ops[k]? = some o ∧ o.dst = some t := by
 unfold iU at h
 cases ho : ops[k]? with
 | none => rw [ho] at h; cases h
 | some o =>
  rw [ho] at h
  simp only [] at h
  cases hd : o.dst with
  | none => rw [hd] at h; cases h
  | some d => rw [hd] at h; exact ⟨o, rfl, by rw [hd, Nat.eq_of_beq_eq_true h]⟩
theorem aB4 {ops : Array Oper} {k t : Nat} (h : iU ops k t = false) {o : Oper} (ho : ops[k]? = some o) : o.dst ≠ some t := fun e => by
 unfold iU at h
 rw [ho] at h; simp only [e, Nat.beq_refl] at h; cases h
theorem CN {E E' : Env} {d : Option Tmp} {x : AV} (h : E.put d x = some E') : E'.nt = E.nt ∧ (∀ t, d ≠ some t → E.nt ≤ 16777213 → E'.tm.get t = E.tm.get t) ∧ (∀ t, d = some t → E.nt ≤ 16777213 → E'.tm.get t = some x ∧ Nat.lt t E.nt) := by
 cases d with
 | none => simp only [Env.aL4, Option.some.injEq] at h; subst h; exact ⟨rfl, fun _ _ _ => rfl, fun t ht => by cases ht⟩
 | some d =>
  rw [Env.aL3] at h
  cases hc : Nat.blt d E.nt with
  | false => rw [hc] at h; cases h
  | true =>
   rw [hc] at h
   simp only [cond_true, Option.some.injEq] at h
   subst h
   have hlt : Nat.lt d E.nt := Nat.le_of_ble_eq_true hc
   refine ⟨rfl, fun t ht hn => ?_, fun t ht hn => ?_⟩
   ·have hd : Nat.le d 16777213 := Nat.le_trans (Nat.le_of_lt hlt) hn
    show (E.tm.set d x).get t = _
    rw [cm _ _ _ _ hd, if_neg (fun e => ht (by rw [e]))]
   ·injection ht with ht; subst ht
    have hd : Nat.le d 16777213 := Nat.le_trans (Nat.le_of_lt hlt) hn
    refine ⟨?_, hlt⟩
    show (E.tm.set d x).get d = _
    rw [cm _ _ _ _ hd, if_pos rfl]
section
variable {C : Cx} {tb : Tab} {B : Fz} {F : Nat} {ops : Array Oper} {Es : Nat → Env} {Ss : Nat → St} {bs : Nat → Bool} {vs : Nat → AV} {As Ws : Nat → Nat}
structure Inv (C : Cx) (tb : Tab) (B : Fz) (ops : Array Oper) (Es : Nat → Env) (Ss : Nat → St) (Ws : Nat → Nat) (ρ0 : ak) (a0 : Act) (w0 : World) (D : Nat → Bool) (ρ : ak) (H : T aZ) (a : Act) (w : World) : Prop where
 fit : Fits C tb.ng B ρ H w
 hp : ∀ v, H.get v = lw D (fun k => (Ws k).testBit v) (fun k => (Ss k).heap.get v) ops.size
 tm : ∀ t x, lw D (fun k => iU ops k t) (fun k => (Es k).tm.get t) ops.size = some x → Rel C ρ x (a.tmps.getD t undef)
 free : ∀ j, j < ops.size → D j = false → Free ρ (Ss j).next (Ss (j + 1)).next
 ext : Ext ρ0 ρ (Ss 0).next (Ss ops.size).next
 sz : a.tmps.size = (Es 0).nt
 df : a.defers = a0.defers
 be : Below B w0 w
 cl : ∀ i o e, D i = true → ops.toList[i]? = some o → e ∈ o.after.toList → ef e = true → D e.on = true
theorem n9 (h : Tr tb F ops Es Ss bs vs As Ws) : ∀ i, i ≤ ops.size → (Es i).nt = (Es 0).nt
 | 0, _ => rfl
 | i + 1, hi => by
  have ho : ops[i]? = some ops[i] := Array.getElem?_eq_getElem (by omega)
  rw [(CN (h.step i _ ho).put).1, n9 h i (by omega)]
theorem aQ7 (h : Tr tb F ops Es Ss bs vs As Ws) (hnt : (Es 0).nt ≤ 16777213) (t : Nat) : ∀ k, k < ops.size → iU ops k t = false → (Es (k + 1)).tm.get t = (Es k).tm.get t := fun k hk hd => by
 have ho : ops[k]? = some ops[k] := Array.getElem?_eq_getElem hk
 exact (CN (h.step k _ ho).put).2.1 t (aB4 hd ho) (by rw [n9 h k (by omega)]; exact hnt)
theorem Inv.next (h : Tr tb F ops Es Ss bs vs As Ws) (hnt : (Es 0).nt ≤ 16777213) {ρ0 : ak} {a0 : Act} {w0 : World} {D : Nat → Bool} {ρ ρ' : ak} {H H' : T aZ} {a : Act} {w w' : World} (I : Inv C tb B ops Es Ss Ws ρ0 a0 w0 D ρ H a w)
 {i : Nat} {o : Oper} (ho : ops[i]? = some o) (hi : D i = false) (hr : ∀ e ∈ o.after.toList, ef e = true → D e.on = true) {x : Value} (hx : Rel C ρ' (vs i) x) (hF : Fits C tb.ng B ρ' H' w')
 (hH : ∀ v, H'.get v = if (Ws i).testBit v then (Ss (i + 1)).heap.get v else H.get v) (he : Ext ρ ρ' (Ss i).next (Ss (i + 1)).next) (hb : Below B w w') :
 Inv C tb B ops Es Ss Ws ρ0 a0 w0 (add1 D i) ρ' H' (a.put o.dst x) w' := by
 have hiN : i < ops.size := (Array.getElem?_eq_some_iff.1 ho).1
 have hget : ∀ (i : Nat), ops.toList[i]? = ops[i]? := fun i => Array.getElem?_toList
 have hsub : Sub ρ ρ' := he.sub (I.free i hiN hi)
 have qz : ∀ j, er ops.toList i j → D j = false := fun j ha => by
  cases hD : D j with
  | false => rfl
  | true => have := ha.closed I.cl hD; rw [hi] at this; cases this
 have st := h.step i o ho
 have pn := CN st.put
 have hnti : (Es i).nt ≤ 16777213 := by rw [n9 h i (by omega)]; exact hnt
 refine ⟨hF, fun v => ?_, fun t y hy => ?_, fun j hj hD => ?_, fun v hv => ?_, ?_, ?_, I.be.trans hb, fun j o' e hD ho' hee hbb => ?_⟩
 ·rw [hH v]
  cases hW : (Ws i).testBit v with
  | true =>
   simp only [if_true]
   refine (aM8 (wr := fun k => (Ws k).testBit v) (X := fun k => (Ss k).heap.get v) hiN (fun j hj1 hj2 hD => ?_) hW).symm
   cases hWj : (Ws j).testBit v with
   | false => rfl
   | true =>
    have := qz j (h.clash j i v hj1 hj2 (.inr ⟨hWj, h.sub i v hiN hW⟩))
    rw [hD] at this; cases this
  | false =>
   simp only [Bool.false_eq_true, if_false]
   rw [I.hp v]
   exact (aX4 (wr := fun k => (Ws k).testBit v) (X := fun k => (Ss k).heap.get v) hW).symm
 ·cases hd : iU ops i t with
  | true =>
   obtain ⟨o2, ho2, hd2⟩ := AW hd
   rw [ho] at ho2; injection ho2 with ho2; subst ho2
   rw [aM8 (wr := fun k => iU ops k t) (X := fun k => (Es k).tm.get t) hiN (fun j hj1 hj2 hD => by
    cases hdj : iU ops j t with
    | false => rfl
    | true =>
       obtain ⟨oj, hoj, hdj⟩ := AW hdj
       rcases h.apart j i oj o hj1 hoj ho with ha | ha
       ·have := qz j ha; rw [hD] at this; cases this
       ·exact absurd hdj ((FQ ha).2.1 t hd2)) hd] at hy
   obtain ⟨e1, e2⟩ := pn.2.2 t hd2 hnti
   rw [e1] at hy; injection hy with hy; subst hy
   rw [n9 h i (by omega)] at e2
   have : t < a.tmps.size := by rw [I.sz]; exact e2
   have e3 : (a.put o.dst x).tmps.getD t undef = x := by simp [Act.put, hd2, Array.getD, this]
   rw [e3]; exact hx
  | false =>
   rw [aX4 (wr := fun k => iU ops k t) (X := fun k => (Es k).tm.get t) hd] at hy
   have hne := aB4 hd ho
   have e3 : (a.put o.dst x).tmps.getD t undef = a.tmps.getD t undef := by
    cases hdd : o.dst with
    | none => rfl
    | some d =>
     have : d ≠ t := fun e => hne (by rw [hdd, e])
     simp [Act.put, Array.getD_eq_getD_getElem?, Array.getElem?_setIfInBounds_ne this]
   rw [e3]; exact Rel.mono hsub _ _ (I.tm t y hy)
 ·unfold add1 at hD
  rw [Bool.or_eq_false_iff] at hD
  have hne : j ≠ i := fun e => by rw [e, Nat.beq_refl] at hD; cases hD.1
  intro v hv1 hv2
  have hout : v < (Ss i).next ∨ (Ss (i + 1)).next ≤ v := by
   rcases Nat.lt_or_ge j i with hlt | hge
   ·exact .inl (Nat.lt_of_lt_of_le hv2 (jX h.mono (j + 1) i (by omega) (by omega)))
   ·exact .inr (Nat.le_trans (jX h.mono (i + 1) j (by omega) (by omega)) hv1)
  rw [he v hout]; exact I.free j hj hD.2 v hv1 hv2
 ·have m1 := jX h.mono 0 i (by omega) (by omega)
  have m2 := jX h.mono (i + 1) ops.size (by omega) (Nat.le_refl _)
  rw [he v (by omega)]; exact I.ext v hv
 ·rw [← I.sz]; cases o.dst <;> simp [Act.put]
 ·rw [CL]; exact I.df
 ·unfold add1 at hD ⊢
  rw [Bool.or_eq_true] at hD ⊢
  right
  rcases hD with hD | hD
  ·have := Nat.eq_of_beq_eq_true hD; subst this
   rw [hget, ho] at ho'; injection ho' with ho'; subst ho'
   exact hr e hee hbb
  ·exact I.cl j o' e hD ho' hee hbb
theorem Inv.finds (h : Tr tb F ops Es Ss bs vs As Ws) (hnt : (Es 0).nt ≤ 16777213) {ρ0 : ak} {a0 : Act} {w0 : World} {D : Nat → Bool} {ρ : ak} {H : T aZ} {a : Act} {w : World} (I : Inv C tb B ops Es Ss Ws ρ0 a0 w0 D ρ H a w)
 {i : Nat} {o : Oper} (ho : ops[i]? = some o) (hi : D i = false) (hr : ∀ e ∈ o.after.toList, ef e = true → D e.on = true) :
 (∀ v, (As i).testBit v = true → ¬ ((Ss i).next ≤ v ∧ v < (Ss (i + 1)).next) → H.get v = (Ss i).heap.get v) ∧
 (∀ t v, fg (looks ops.toList o) t = true → (Es i).tm.get t = some v → Rel C ρ v (a.tmps.getD t undef)) := by
 have hiN : i < ops.size := (Array.getElem?_eq_some_iff.1 ho).1
 have hget : ∀ (i : Nat), ops.toList[i]? = ops[i]? := fun i => Array.getElem?_toList
 have qz : ∀ j, er ops.toList i j → D j = false := fun j ha => by
  cases hD : D j with
  | false => rfl
  | true => have := ha.closed I.cl hD; rw [hi] at this; cases this
 have hup : ∀ j, er ops.toList j i → D j = true := fun j ha => ha.ready I.cl fun o' e ho' he hb => by
  rw [hget, ho] at ho'; injection ho' with ho'; subst ho'; exact hr e he hb
 refine ⟨fun v hA _ => ?_, fun t v ht hv => ?_⟩
 ·rw [I.hp v]
  refine aX5 (X := fun k => (Ss k).heap.get v) hiN (fun k hk hW => h.keep k v hk hW) (fun j hj hW => hup j (h.clash i j v hj hiN (.inl ⟨hW, hA⟩))) (fun j hj1 hj2 hD => ?_) hi
  cases hWj : (Ws j).testBit v with
  | false => rfl
  | true =>
   have := qz j (h.clash j i v hj1 hj2 (.inr ⟨hWj, hA⟩))
   rw [hD] at this; cases this
 ·refine I.tm t v ?_
  rw [aX5 (X := fun k => (Es k).tm.get t) hiN (aQ7 h hnt t) (fun j hj hd => ?_) (fun j hj1 hj2 hD => ?_) hi]
  ·exact hv
  ·obtain ⟨oj, hoj, hdj⟩ := AW hd
   rcases h.apart i j o oj hj ho hoj with ha | ha
   ·exact hup j ha
   ·have := (FQ ha).1 t hdj; rw [ht] at this; cases this
  ·cases hdj : iU ops j t with
   | false => rfl
   | true =>
    obtain ⟨oj, hoj, hdj⟩ := AW hdj
    rcases h.apart j i oj o hj1 hoj ho with ha | ha
    ·have := qz j ha; rw [hD] at this; cases this
    ·have := (FQ ha).2.2 t hdj; rw [ht] at this; cases this
theorem aP0 (e : Edge) : Region.binds .any e = ef e := by
 unfold Region.binds ef; cases e.ground <;> rfl
theorem any_ok (h : Tr tb F ops Es Ss bs vs As Ws) (hnt : (Es 0).nt ≤ 16777213) (hcall : ∀ g, g < F → pT C tb B (call tb g) (di tb g)) (ht : ld C tb) (hm : sK C tb) (av : tb.ng ≤ (Ss 0).next) {Φ : Fence} {ν : Nat} (hΦ : dW Φ)
 {ρ0 : ak} {a0 : Act} {w0 : World} {Q : Exit → Act → World → Prop}
 (hQ : ∀ ρ a w, eA C ρ (Es ops.size) a → a.defers = a0.defers → Fits C tb.ng B ρ (Ss ops.size).heap w → Ext ρ0 ρ (Ss 0).next (Ss ops.size).next → Below B w0 w → Q .normal a w) :
 ∀ (fuel : Nat) (listed : Array Bool) (ρ : ak) (H : T aZ) (a : Act) (w : World), listed.size = ops.size → left (fun k => listed.getD k false) ops.size ≤ fuel →
  Inv C tb B ops Es Ss Ws ρ0 a0 w0 (fun k => listed.getD k false) ρ H a w → wpAnyIn Φ ν C.P .any ops Q fuel listed a w := by
 have done : ∀ (listed : Array Bool) (ρ : ak) (H : T aZ) (a : Act) (w : World), (∀ j, j < ops.size → listed.getD j false = true) → Inv C tb B ops Es Ss Ws ρ0 a0 w0 (fun k => listed.getD k false) ρ H a w → Q .normal a w := fun listed ρ H a w hall I => by
  refine hQ ρ a w ⟨by rw [I.sz, n9 h ops.size (Nat.le_refl _)], by rw [n9 h ops.size (Nat.le_refl _)]; exact hnt, fun t x hx => I.tm t x ?_⟩ I.df (I.fit.congr fun v => ?_) I.ext I.be
  ·rw [lw_all (X := fun k => (Es k).tm.get t) (aQ7 h hnt t) hall]; exact hx
  ·rw [I.hp v, lw_all (X := fun k => (Ss k).heap.get v) (fun k hk hW => h.keep k v hk hW) hall]
 have stuck : ∀ (listed : Array Bool), listed.size = ops.size → Region.ready .any ops listed = [] → ∀ j, j < ops.size → listed.getD j false = true := fun listed hs hn => by
  intro j
  induction j using Nat.strongRecOn with
  | _ j ih =>
   intro hj
   cases hD : listed.getD j false with
   | true => rfl
   | false =>
    have ho : ops[j]? = some ops[j] := Array.getElem?_eq_getElem hj
    have : j ∈ Region.ready .any ops listed := mem_ready.2 ⟨by
     have hjs : j < listed.size := by omega
     simp [Array.getD, hjs] at hD ⊢; exact hD, ops[j], ho, fun e he hb => by
      rw [aP0] at hb
      have := h.low j _ ho e (Array.mem_toList_iff.2 he) hb
      exact ih e.on this (by omega)⟩
    rw [hn] at this; cases this
 intro fuel
 induction fuel with
 | zero =>
  intro listed ρ H a w hs hl I
  have hall := aH0 ops.size (by omega : left (fun k => listed.getD k false) ops.size = 0)
  refine ⟨?_, done listed ρ H a w hall I⟩
  cases hrr : Region.ready .any ops listed with
  | nil => rfl
  | cons j l =>
   have hj : j ∈ Region.ready .any ops listed := by rw [hrr]; exact List.mem_cons_self ..
   obtain ⟨h1, o, ho, _⟩ := mem_ready.1 hj
   have hjN : j < ops.size := (Array.getElem?_eq_some_iff.1 ho).1
   have := hall j hjN
   have hjs : j < listed.size := by omega
   simp [Array.getD, hjs] at h1 this
   rw [h1] at this; cases this
 | succ fuel ih =>
  intro listed ρ H a w hs hl I
  refine ⟨fun hn => done listed ρ H a w (stuck listed hs hn) I, fun i hi => ?_⟩
  obtain ⟨h1, o, ho, hpre⟩ := mem_ready.1 hi
  have hiN : i < ops.size := (Array.getElem?_eq_some_iff.1 ho).1
  have his : i < listed.size := by omega
  have hD : listed.getD i false = false := by simp [Array.getD, his] at h1 ⊢; exact h1
  have hr : ∀ e ∈ o.after.toList, ef e = true → listed.getD e.on false = true := fun e he hb => hpre e (Array.mem_toList_iff.1 he) (by rw [aP0]; exact hb)
  have hadd : (fun k => (listed.setIfInBounds i true).getD k false) = add1 (fun k => listed.getD k false) i := by
   funext k
   unfold add1
   by_cases e : k = i
   ·subst e; simp [Array.getD, his]
   ·have e' : Nat.beq k i = false := by
     cases hb : Nat.beq k i with
     | false => rfl
     | true => exact absurd (Nat.eq_of_beq_eq_true hb) e
    rw [e', Bool.false_or, getD_set_ne false (fun e'' => e e''.symm)]
  have hleft : left (fun k => (listed.setIfInBounds i true).getD k false) ops.size ≤ fuel := by
   have := aN2 (D := fun k => listed.getD k false) hD ops.size
   rw [if_pos hiN] at this
   rw [hadd]; omega
  have go : ∀ ρ' H' x w', Inv C tb B ops Es Ss Ws ρ0 a0 w0 (add1 (fun k => listed.getD k false) i) ρ' H' (a.put o.dst x) w' → wpAnyIn Φ ν C.P .any ops Q fuel (listed.setIfInBounds i true) (a.put o.dst x) w' := fun ρ' H' x w' I' =>
   ih _ ρ' H' _ w' (by simp [hs]) hleft (by rw [hadd]; exact I')
  obtain ⟨f1, f2⟩ := I.finds h hnt ho hD hr
  have st := h.step i o ho
  have hwant := wanted_ok' ht.hyp f2 st.want
  unfold wpOpIn
  simp only [ho]
  rw [hwant]
  cases hb : bs i with
  | true =>
   simp only [if_true]
   obtain ⟨g, T', hg, t1, t2, t3⟩ := h.fr i o ho hb ⟨H, (Ss i).next, 0, 0⟩ rfl f1
   refine aL6 (S := ⟨H, (Ss i).next, 0, 0⟩) (S' := T') (ρ := ρ) (hcall g hg) ht hm t1 I.fit (Nat.le_trans av (jX h.mono 0 i (by omega) (by omega))) (fun x hx => op_ok' I.fit x fun t v e hv => ?_) (by rw [t2]; exact I.free i hiN hD) (fun ρ' x w' r1 r2 r3 r4 => go ρ' T'.heap x w' ?_) hΦ
   ·subst e; exact f2 t v (looks_op hx) hv
   ·exact I.next h hnt ho hD hr r1 r2 t3 (by rw [← t2]; exact r3) r4
  | false =>
   simp only [Bool.false_eq_true, if_false]
   obtain ⟨n1, n2, n3, n4, n5⟩ := st.no hb
   refine ⟨fun f _ => hΦ.fn f, go ρ H undef w (I.next h hnt ho hD hr ?_ I.fit (fun v => by rw [n5]; simp) (Ext.refl _ _ _) (Below.refl _ _))⟩
   rw [n1]; simp only [Rel, aH]; exact ⟨[], rfl, rfl⟩
end
end Go.AX
end
section
namespace Go.AX
theorem aI2 : ∀ (l : List AV) (n : Nat) (t : T AV) (m : Nat), n + l.length ≤ 16777214 → (mq l n t).get m = if n ≤ m ∧ m < n + l.length then l[m - n]? else t.get m
 | [], n, t, m, _ => by simp only [mq, List.length_nil]; rw [if_neg (by omega)]
 | v :: l, n, t, m, h => by
  simp only [List.length_cons] at h
  unfold mq
  rw [aI2 l (Nat.succ n) (t.set n v) m (by simp only [Nat.succ_eq_add_one]; omega), cm _ _ _ _ (by omega)]
  simp only [Nat.succ_eq_add_one, List.length_cons]
  by_cases h1 : m = n
  ·subst h1
   rw [if_neg (by omega), if_pos rfl, if_pos (by omega)]; simp
  ·by_cases h2 : n + 1 ≤ m ∧ m < n + 1 + l.length
   ·rw [if_pos h2, if_pos (by omega)]
    have : m - n = (m - (n + 1)) + 1 := by omega
    rw [this]; simp
   ·rw [if_neg h2, if_neg h1, if_neg (by omega)]
section
variable {C : Cx} {tb : Tab} {B : Fz}
theorem env0_ok {ρ : ak} {l : List AV} {args : List Value} {nt : Nat} (h : aH C ρ l args) (h1 : l.length ≤ nt) (h2 : nt ≤ 16777213) :
 eA C ρ ⟨mq l 0 .leaf, nt⟩ { tmps := (⟨args⟩ : Array Value) ++ Array.replicate (nt - (⟨args⟩ : Array Value).size) undef, defers := [] } := by
 have hlen := h.len
 refine ⟨?_, h2, fun t x ht => ?_⟩
 ·have : (⟨args⟩ : Array Value).size = args.length := rfl
  simp only [Array.size_append, Array.size_replicate]; rw [this]; omega
 ·simp only [] at ht
  rw [aI2 l 0 .leaf t (by omega)] at ht
  split at ht
  ·rename_i hr
   rw [Nat.sub_zero] at ht
   obtain ⟨y, hy, hxy⟩ := h.get ht
   have hlt : t < args.length := by
    rcases Nat.lt_or_ge t args.length with h | h
    ·exact h
    ·rw [List.getElem?_eq_none h] at hy; cases hy
   have : ((⟨args⟩ : Array Value) ++ Array.replicate (nt - (⟨args⟩ : Array Value).size) undef).getD t undef = y := by
    rw [Array.getD_eq_getD_getElem?, Array.getElem?_append_left (by exact hlt), ← Array.getElem?_toList]
    show (args[t]?).getD undef = y
    rw [hy]; rfl
   rw [this]; exact hxy
  ·simp [T.cy] at ht
theorem aY0 (ht : TyOk C.P tb) {ρ : ak} {w : World} {S S' : St} (hF : Fits C tb.ng B ρ S.heap w) {t : Nat} {x v : AV} {xv : Value} (hx : Rel C ρ x xv) (h : load tb t x S = some (v, S')) :
 S'.heap = S.heap ∧ S'.next = S.next ∧ ∃ y, (do loadVar t (← asAddr xv) : Sem Value).run C.P w = .ok y w ∧ Rel C ρ v y := by
 obtain ⟨h1, h2, y, h3, h4⟩ := aX9 ht hF hx h
 refine ⟨h1, h2, y, ?_, h4⟩
 cases x <;> simp only [load] at h <;> try exact (ar h).elim
 simp only [Rel] at hx
 obtain ⟨r, hr, rfl⟩ := hx
 exact h3
theorem CG (ht : TyOk C.P tb) {ρ : ak} {w : World} {E : Env} {a : Act} (hE : eA C ρ E a) : ∀ (l : List ResultVar) {S S' : St} {vs : List AV}, Fits C tb.ng B ρ S.heap w → eQ tb l E S = some (vs, S') →
 S'.heap = S.heap ∧ S'.next = S.next ∧ ∃ ys, (l.mapM (fun | .tmp t => pure (a.tmps.getD t undef) | .cell c t => do loadVar t (← asAddr (a.tmps.getD c undef)) : ResultVar → Sem Value)).run C.P w = .ok ys w ∧ aH C ρ vs ys
 | [], S, S', vs, hF, h => by
  unfold eQ at h
  obtain ⟨rfl, rfl⟩ := ae h
  exact ⟨rfl, rfl, [], rfl, by simp [aH]⟩
 | .tmp t :: l, S, S', vs, hF, h => by
  unfold eQ at h
  obtain ⟨us, S1, h1, h2⟩ := bP h
  obtain ⟨rfl, rfl⟩ := ae h2
  obtain ⟨e1, e2, ys, e3, e4⟩ := CG ht hE l hF h1
  refine ⟨e1, e2, a.tmps.getD t undef :: ys, ?_, ?_⟩
  ·rw [List.mapM_cons, Sem.run_bind]
   simp only [Sem.run_pure, Result.andThen_ok]
   rw [Sem.run_bind, e3]; rfl
  ·simp only [aH]
   have := l7 hF hE (.tmp t)
   refine ⟨_, _, rfl, ?_, e4⟩
   have e : a.eval (.tmp t) = a.tmps.getD t undef := by simp [Act.eval, Array.getD_eq_getD_getElem?]
   rw [← e]; exact this
 | .cell c t :: l, S, S', vs, hF, h => by
  unfold eQ at h
  obtain ⟨u, S1, h1, h2⟩ := bP h
  obtain ⟨us, S2, h3, h4⟩ := bP h2
  obtain ⟨rfl, rfl⟩ := ae h4
  have hop := l7 hF hE (.tmp c)
  have e : a.eval (.tmp c) = a.tmps.getD c undef := by simp [Act.eval, Array.getD_eq_getD_getElem?]
  rw [e] at hop
  obtain ⟨g1, g2, y, g3, g4⟩ := aY0 ht hF hop h1
  obtain ⟨e1, e2, ys, e3, e4⟩ := CG ht hE l (by rw [g1]; exact hF) h3
  refine ⟨e1.trans g1, e2.trans g2, y :: ys, ?_, ?_⟩
  ·rw [List.mapM_cons, Sem.run_bind]
   simp only []
   rw [g3]
   simp only [Result.andThen_ok]
   rw [Sem.run_bind, e3]; rfl
  ·simp only [aH]; exact ⟨_, _, rfl, g4, e4⟩
theorem results_ok (ht : TyOk C.P tb) {ρ : ak} {w : World} {E : Env} {a : Act} (hE : eA C ρ E a) {fn : Func} {S S' : St} {v : AV} (hF : Fits C tb.ng B ρ S.heap w) (h : results tb fn.results.toList E S = some (v, S')) :
 S'.heap = S.heap ∧ S'.next = S.next ∧ ∃ y, (Go.results fn a.tmps).run C.P w = .ok y w ∧ Rel C ρ v y := by
 have hm : ∀ l, fn.results.toList = l → ∀ ys, (l.mapM (fun | .tmp t => pure (a.tmps.getD t undef) | .cell c t => do loadVar t (← asAddr (a.tmps.getD c undef)) : ResultVar → Sem Value)).run C.P w = .ok ys w →
  (Go.results fn a.tmps).run C.P w = .ok (if h : ys.length = 1 then ys[0] else .tuple ⟨ys⟩) w := by
  intro l hl ys hys
  have hfn : fn.results = l.toArray := by rw [← hl]
  unfold Go.results
  rw [hfn, List.mapM_toArray, Sem.run_bind]
  have : (List.toArray <$> (l.mapM (fun | .tmp t => pure (a.tmps.getD t undef) | .cell c t => do loadVar t (← asAddr (a.tmps.getD c undef)) : ResultVar → Sem Value))).run C.P w = .ok ys.toArray w := by
   rw [map_eq_pure_bind, Sem.run_bind, hys]; rfl
  refine (congrArg (fun r => Result.andThen r _) this).trans ?_
  rfl
 have evt : ∀ t, a.eval (.tmp t) = a.tmps.getD t undef := fun t => by simp [Act.eval, Array.getD_eq_getD_getElem?]
 generalize hL : fn.results.toList = L at h
 unfold results at h
 split at h
 ·rename_i t
  obtain ⟨rfl, rfl⟩ := ae h
  refine ⟨rfl, rfl, a.tmps.getD t undef, hm _ hL [a.tmps.getD t undef] rfl, ?_⟩
  rw [← evt]; exact l7 hF hE (.tmp t)
 ·rename_i c t
  have hop := l7 hF hE (.tmp c)
  rw [evt] at hop
  obtain ⟨g1, g2, y, g3, g4⟩ := aY0 ht hF hop h
  refine ⟨g1, g2, y, hm _ hL [y] ?_, g4⟩
  rw [List.mapM_cons, Sem.run_bind]
  simp only []
  rw [g3]; rfl
 ·rename_i hl1 hl2
  obtain ⟨us, S1, h1, h2⟩ := bP h
  obtain ⟨rfl, rfl⟩ := ae h2
  obtain ⟨e1, e2, ys, e3, e4⟩ := CG ht hE _ hF h1
  have hlen : ys.length = L.length := by
   have h1' : ∀ (l : List ResultVar) (S S' : St) (vs : List AV), eQ tb l E S = some (vs, S') → vs.length = l.length := by
    intro l
    induction l with
    | nil => intro S S' vs h; unfold eQ at h; obtain ⟨rfl, _⟩ := ae h; rfl
    | cons x l ih =>
     intro S S' vs h
     cases x with
     | tmp t =>
      unfold eQ at h
      obtain ⟨us, S1, h1, h2⟩ := bP h
      obtain ⟨rfl, rfl⟩ := ae h2
      simp [ih _ _ _ h1]
     | cell c t =>
      unfold eQ at h
      obtain ⟨u, S1, h1, h2⟩ := bP h
      obtain ⟨us, S2, h3, h4⟩ := bP h2
      obtain ⟨rfl, rfl⟩ := ae h4
      simp [ih _ _ _ h3]
   rw [e4.len, h1' _ _ _ _ h1]
  refine ⟨e1, e2, .tuple ⟨ys⟩, ?_, by simp only [Rel]; exact ⟨ys, rfl, e4⟩⟩
  rw [hm _ hL ys e3, dif_neg]
  intro hone
  rw [hlen] at hone
  match L, hone, hl1, hl2 with
  | [.tmp t], _, hl1, _ => exact hl1 t rfl
  | [.cell c t], _, _, hl2 => exact hl2 c t rfl
end
end Go.AX
end
section
namespace Go.AX
def FY (C : Cx) (g : Nat) (v : AV) : Prop := ∀ w : World, C.inv w → C.cE ≤ w.heap.size → Calls C.P g #[] w fun e w' => ∃ x, e = .returned x ∧ Rel C (fun _ => none) v x ∧ Below (Fz.lt w.heap.size) w w'
def pQ (C : Cx) (tb : Tab) (e : Nat) (fn : Func) : Prop := Extern.findNext fn = none ∧ ∃ r, Extern.find fn = some r ∧
 ∀ (B : Fz) (l : List AV) (S : St) (v : AV) (S' : St) (ρ : ak) (w : World) (args : List Value), ext tb e l S = some (v, S') → Fits C tb.ng B ρ S.heap w → tb.ng ≤ S.next → aH C ρ l args → Free ρ S.next S'.next →
  ∃ ρ' x w', (r ⟨args⟩).run C.P w = .ok x w' ∧ Rel C ρ' v x ∧ Fits C tb.ng B ρ' S'.heap w' ∧ Ext ρ ρ' S.next S'.next ∧ Below B w w'
def mX : Ex → Exit
 | .normal => .normal
 | .exit id => .exit id
 | .goto l => .goto l
 | .ret => .ret
def mkD (D : Nat) : Deferred := { target := .collected D, args := #[] }
def Marks (ms : List Nat) (w w' : World) : Prop := ms.Nodup ∧ ∀ D ∈ ms, w.heap.size ≤ D ∧ w'.heap[D]? = some (.deferred (some []))
def gR (a a' : Act) (w w' : World) : Prop := ∃ ms, a'.defers = ms.map mkD ++ a.defers ∧ Marks ms w w'
theorem gR.of_eq {a a' : Act} {w w' : World} (h : a'.defers = a.defers) : gR a a' w w' := ⟨[], h, List.nodup_nil, fun D hD => by cases hD⟩
theorem qy {w : World} {D : Nat} {o : Obj} (h : w.heap[D]? = some o) : D < w.heap.size := by
 rcases Nat.lt_or_ge D w.heap.size with h' | h'
 ·exact h'
 ·rw [Array.getElem?_eq_none h'] at h; cases h
theorem gR.trans {B : Fz} {a b c : Act} {w w1 w2 : World} (h : gR a b w w1) (k : gR b c w1 w2) (h1 : Below B w w1) (h2 : Below B w1 w2) : gR a c w w2 := by
 obtain ⟨ms, e1, n1, m1⟩ := h
 obtain ⟨ns, e2, n2, m2⟩ := k
 refine ⟨ns ++ ms, by rw [e2, e1, List.map_append, List.append_assoc], ?_, fun D hD => ?_⟩
 ·rw [List.nodup_append]
  refine ⟨n2, n1, fun x hx y hy e => ?_⟩
  subst e
  have := qy (m1 x hy).2
  have := (m2 x hx).1
  omega
 ·rcases List.mem_append.1 hD with hD | hD
  ·exact ⟨Nat.le_trans h1.size (m2 D hD).1, (m2 D hD).2⟩
  ·exact ⟨(m1 D hD).1, h2.walk D _ (m1 D hD).2 rfl⟩
theorem gR.same {a b c : Act} {w w1 w2 : World} (h : a.defers = b.defers) (k : gR b c w1 w2) (h1 : w.heap.size ≤ w1.heap.size) : gR a c w w2 := by
 obtain ⟨ns, e2, n2, m2⟩ := k
 exact ⟨ns, by rw [h]; exact e2, n2, fun D hD => ⟨Nat.le_trans h1 (m2 D hD).1, (m2 D hD).2⟩⟩
section
variable {Φ : Fence}
def eo (Φ : Fence) (c : Code) : Prop := codeOk c = true ∧ (Φ.round = none ∨ flat c = true)
theorem eo.seq {x y : Code} (h : eo Φ (.seq x y)) : eo Φ x ∧ eo Φ y := by
 obtain ⟨h1, h2⟩ := h
 simp only [codeOk, flat, Bool.and_eq_true] at h1 h2
 exact ⟨⟨h1.1, h2.imp id And.left⟩, ⟨h1.2, h2.imp id And.right⟩⟩
theorem eo.cond {q : Operand} {x y : Code} (h : eo Φ (.cond q x y)) : eo Φ x ∧ eo Φ y := by
 obtain ⟨h1, h2⟩ := h
 simp only [codeOk, flat, Bool.and_eq_true] at h1 h2
 exact ⟨⟨h1.1, h2.imp id And.left⟩, ⟨h1.2, h2.imp id And.right⟩⟩
theorem eo.block {id : Nat} {x : Code} (h : eo Φ (.block id x)) : eo Φ x := h
theorem eo.loop {x : Code} (h : eo Φ (.loop x)) : eo Φ x := h
end
def eg (F : Fence) (n : Nat) (P : Program) (c : Code) (Q : Exit → Act → World → Prop) (a : Act) (w : World) : Prop :=
 ∀ (b : Frame) (k : List Item) (cs : List Frame), b.roundOf = F.round → F.fn b.fn → F.room (cs.length + 1 + n) →
  ∃ e a' w', Q e a' w' ∧ ArrivesIn (Machine.fenced P F) P (lone (b.atR a (.code c :: .inLoop c :: k)) cs w) b k cs e a' w'
theorem eg.wp {F : Fence} {n : Nat} {P : Program} {c : Code} {Q : Exit → Act → World → Prop} {a : Act} {w : World} (h : eg F n P c Q a w) : (Code.loop c).wpIn F n P Q a w := by
 intro b k cs hro hb hr
 obtain ⟨e, a', w', hq, harr⟩ := h b k cs hro hb hr
 exact ⟨e, a', w', hq, .of_steps (.one (fenced_calm hb hr rfl) stepR_loop) harr⟩
theorem eg.step {F : Fence} {n : Nat} {P : Program} {c : Code} {Q : Exit → Act → World → Prop} {a : Act} {w : World} (h : c.wpIn F n P (Exit.then (eg F n P c Q) Q) a w) : eg F n P c Q a w := by
 intro b k cs hro hb hr
 obtain ⟨e, a₁, w₁, hq, harr⟩ := h b (.inLoop c :: k) cs hro hb hr
 cases e with
 | normal =>
  obtain ⟨e₂, a₂, w₂, hq₂, harr₂⟩ := hq b k cs hro hb hr
  exact ⟨e₂, a₂, w₂, hq₂, .of_steps (StepsIn.trans harr (.one (fenced_calm hb hr rfl) stepR_inLoop)) harr₂⟩
 | exit id => exact ⟨_, a₁, w₁, hq, .pass (x := .inLoop c) rfl (fun _ _ => .inl (by simp)) harr⟩
 | goto l => exact ⟨_, a₁, w₁, hq, .pass (x := .inLoop c) rfl (fun _ _ => .inl (by simp)) harr⟩
 | ret => exact ⟨_, a₁, w₁, hq, .pass (x := .inLoop c) rfl (fun _ _ => .inl (by simp)) harr⟩
 | panic ch => exact ⟨_, a₁, w₁, hq, .pass (x := .inLoop c) rfl (fun _ _ => .inl (by simp)) harr⟩
 | outgrown => exact ⟨_, a₁, w₁, hq, .pass (x := .inLoop c) rfl (fun _ _ => .inl (by simp)) harr⟩
def FZ (C : Cx) (body : Code) (l : LF) : Prop :=
 ∀ (Φ : Fence) (ν : Nat) (Q : Exit → Act → World → Prop) (a : Act) (w : World), dW Φ → eo Φ (.loop body) → C.inv w → C.cE ≤ w.heap.size → a.tmps.size = l.nt → l.nt ≤ 16777213 →
  (∀ s x, (s, x) ∈ l.pre → Rel C (fun _ => none) x (a.tmps.getD s undef)) →
  (∀ a' w', a'.tmps.size = a.tmps.size → (∀ s, s ∈ l.keep → a'.tmps.getD s undef = a.tmps.getD s undef) → (∀ s x, (s, x) ∈ l.post → Rel C (fun _ => none) x (a'.tmps.getD s undef)) → gR a a' w w' → Below (Fz.lt w.heap.size) w w' → Q (mX l.ex) a' w') →
  eg Φ ν C.P body Q a w
def BC (C : Cx) (body : Code) (l : LF) (h : LH) : Prop :=
 ∀ (Φ : Fence) (ν : Nat) (Q : Exit → Act → World → Prop) (a : Act) (w : World) (B : Fz) (ρ : ak) (H : T aZ), dW Φ → eo Φ (.loop body) → Fits C h.ng B ρ H w → h.ng ≤ h.n0 → lg h → (∀ v k, (v, k) ∈ h.pre → H.get v = some k) → Free ρ h.n0 h.n1 →
  a.tmps.size = l.nt → l.nt ≤ 16777213 → (∀ s x, (s, x) ∈ l.pre → Rel C ρ x (a.tmps.getD s undef)) →
  (∀ ρ' a' w', a'.tmps.size = a.tmps.size → (∀ s, s ∈ l.keep → a'.tmps.getD s undef = a.tmps.getD s undef) → (∀ s x, (s, x) ∈ l.post → Rel C ρ' x (a'.tmps.getD s undef)) → gR a a' w w' → Fits C h.ng B ρ' (eZ h H) w' → Ext ρ ρ' h.n0 h.n1 → Below B w w' → Q (mX l.ex) a' w') →
  eg Φ ν C.P body Q a w
def dz (C : Cx) (body : Code) (l : LF) : Prop := match l.hp with
 | none => FZ C body l
 | some h => BC C body l h
theorem dz.n {C : Cx} {body : Code} {l : LF} (hn : l.hp = none) (h : FZ C body l) : dz C body l := by unfold dz; rw [hn]; exact h
theorem dz.h {C : Cx} {body : Code} {l : LF} {x : LH} (hn : l.hp = some x) (h : BC C body l x) : dz C body l := by unfold dz; rw [hn]; exact h
theorem dz.toN {C : Cx} {body : Code} {l : LF} (h : dz C body l) (hn : l.hp = none) : FZ C body l := by unfold dz at h; rw [hn] at h; exact h
theorem dz.toH {C : Cx} {body : Code} {l : LF} {x : LH} (h : dz C body l) (hn : l.hp = some x) : BC C body l x := by unfold dz at h; rw [hn] at h; exact h
theorem eqCe_eq {a b : Cells} (h : eqCe a b = true) : a = b := by
 cases a <;> cases b <;> simp only [eqCe] at h <;> first | (cases h; done) | skip
 ·rw [iA (mY 8) h]
 ·simp only [Bool.and_eq_true] at h; rw [Nat.eq_of_beq_eq_true h.1, Nat.eq_of_beq_eq_true h.2]
theorem eqX_eq {a b : Ex} (h : eqX a b = true) : a = b := by
 cases a <;> cases b <;> simp only [eqX] at h <;> first | (cases h; done) | rfl | (rw [Nat.eq_of_beq_eq_true h])
theorem aY9 : ∀ {a b : List (Nat × AV)}, AO a b = true → a = b
 | [], [], _ => rfl
 | [], _ :: _, h => by cases h
 | _ :: _, [], h => by cases h
 | (s, a) :: l, (u, b) :: m, h => by
  simp only [AO, Bool.and_eq_true] at h
  rw [Nat.eq_of_beq_eq_true h.1, mY 8 a b h.2.1, aY9 h.2.2]
theorem eqE_eq {a b : aZ} (h : eqE a b = true) : a = b := by
 cases a <;> cases b <;> simp only [eqE] at h <;> first | (cases h; done) | skip
 ·rename_i k j
  obtain ⟨k1, k2, k3, k4, k5, k6, k7⟩ := k
  obtain ⟨j1, j2, j3, j4, j5, j6, j7⟩ := j
  simp only [Bool.and_eq_true, beq_iff_eq] at h
  rw [Nat.eq_of_beq_eq_true h.1.1.1.1.1.1, eqCe_eq h.1.1.1.1.1.2, Nat.eq_of_beq_eq_true h.1.1.1.1.2, Nat.eq_of_beq_eq_true h.1.1.1.2, Nat.eq_of_beq_eq_true h.1.1.2, h.1.2, h.2]
 ·simp only [Bool.and_eq_true, beq_iff_eq] at h; rw [Nat.eq_of_beq_eq_true h.1, Nat.eq_of_beq_eq_true h.2.1, Nat.eq_of_beq_eq_true h.2.2.1, h.2.2.2]
 ·simp only [Bool.and_eq_true] at h; rw [Nat.eq_of_beq_eq_true h.1, Nat.eq_of_beq_eq_true h.2]
 ·simp only [Bool.and_eq_true] at h
  obtain ⟨h1, h2, h3, h4, h5⟩ := h
  rw [Nat.eq_of_beq_eq_true h1, aY9 h2, Nat.eq_of_beq_eq_true h3, Nat.eq_of_beq_eq_true h4, eqX_eq h5]
theorem Ct {H : T aZ} : ∀ {l : List (Nat × aZ)}, im H l = true → ∀ v k, (v, k) ∈ l → H.get v = some k
 | [], _, v, k, h => by cases h
 | p :: r, h, v, k, hm => by
  simp only [im, Bool.and_eq_true] at h
  rcases List.mem_cons.1 hm with e | hm
  ·subst e
   have h1 := h.1
   simp only [] at h1
   cases hg : H.get v with
   | none => rw [hg] at h1; cases h1
   | some a => rw [hg] at h1; rw [eqE_eq h1]
  ·exact Ct h.2 v k hm
def bU (C : Cx) (L : List LF) : Code → Prop
 | .seq a b => bU C L a ∧ bU C L b
 | .cond _ a b => bU C L a ∧ bU C L b
 | .block _ b => bU C L b
 | .loop b => (∀ l, l ∈ L → keyOf b = some l.key → dz C b l) ∧ bU C L b
 | .rangeFunc _ ps a b => ∀ l, l ∈ L → lB l = true → rfP C.P l.nt = some (ps.toList, a, b)
 | _ => True
theorem bU.nil {C : Cx} : ∀ c : Code, bU C [] c
 | .seq a b => ⟨bU.nil a, bU.nil b⟩
 | .cond _ a b => ⟨bU.nil a, bU.nil b⟩
 | .block _ b => bU.nil b
 | .loop b => ⟨fun l hl => (by cases hl), bU.nil b⟩
 | .skip => trivial
 | .region .. => trivial
 | .rangeFunc .. => fun l hl => (by cases hl)
 | .exit _ => trivial
 | .scope _ => trivial
 | .label _ => trivial
 | .goto _ => trivial
 | .ret => trivial
 | .refuse _ => trivial
theorem FU {p : AV → Bool} : ∀ {l : List AV}, r9 p l = true → ∀ a, a ∈ l → p a = true
 | [], _, a, h => by cases h
 | b :: l, h, a, ha => by
  simp only [r9, Bool.and_eq_true] at h
  rcases List.mem_cons.1 ha with rfl | ha
  ·exact h.1
  ·exact FU h.2 a ha
theorem aH.move {C : Cx} {ρ ρ' : ak} : ∀ (l : List AV) (vs : List Value), (∀ a, a ∈ l → ∀ v, Rel C ρ a v → Rel C ρ' a v) → aH C ρ l vs → aH C ρ' l vs
 | [], vs, _, h => h
 | a :: l, vs, hm, h => by
  simp only [aH] at h ⊢
  obtain ⟨v, vt, rfl, h1, h2⟩ := h
  exact ⟨v, vt, rfl, hm a (List.mem_cons_self ..) v h1, aH.move l vt (fun b hb => hm b (List.mem_cons_of_mem _ hb)) h2⟩
theorem Cd {C : Cx} {ρ ρ' : ak} : ∀ (d : Nat) (a : AV), gd d a = true → ∀ v, Rel C ρ a v → Rel C ρ' a v
 | 0, a, h, v, hr => by cases h
 | d + 1, a, h, v, hr => by
  have ih := Cd (C := C) (ρ := ρ) (ρ' := ρ') d
  cases a <;> simp only [gd] at h <;> try (cases h; done)
  all_goals try (simpa only [Rel] using hr)
  ·simp only [Rel] at hr ⊢
   obtain ⟨x, rfl, h1⟩ := hr
   exact ⟨x, rfl, ih _ h x h1⟩
  ·simp only [Rel] at hr ⊢
   obtain ⟨cs, rfl, h1⟩ := hr
   exact ⟨cs, rfl, aH.move _ _ (fun a ha => ih a (FU h a ha)) h1⟩
  ·simp only [Rel] at hr ⊢
   obtain ⟨cs, rfl, h1⟩ := hr
   exact ⟨cs, rfl, aH.move _ _ (fun a ha => ih a (FU h a ha)) h1⟩
theorem Cv {E : Env} : ∀ {l : List (Nat × AV)}, xF E l = true → ∀ s x, (s, x) ∈ l → E.tm.get s = some x ∧ gd 8 x = true
 | [], _, s, x, h => by cases h
 | p :: r, h, s, x, hm => by
  simp only [xF, Bool.and_eq_true] at h
  rcases List.mem_cons.1 hm with e | hm
  ·subst e
   refine ⟨?_, h.1.2⟩
   have h1 := h.1.1
   simp only [] at h1
   cases hg : E.tm.get s with
   | none => rw [hg] at h1; cases h1
   | some a => rw [hg] at h1; rw [iH 8 a x h1]
  ·exact Cv h.2 s x hm
theorem aB0 {E : Env} : ∀ {l : List (Nat × AV)}, xE E l = true → ∀ s x, (s, x) ∈ l → E.tm.get s = some x
 | [], _, s, x, h => by cases h
 | p :: r, h, s, x, hm => by
  simp only [xE, Bool.and_eq_true] at h
  rcases List.mem_cons.1 hm with e | hm
  ·subst e
   have h1 := h.1
   simp only [] at h1
   cases hg : E.tm.get s with
   | none => rw [hg] at h1; cases h1
   | some a => rw [hg] at h1; rw [mY 8 a x h1]
  ·exact aB0 h.2 s x hm
theorem qc : ∀ {l : List (Nat × AV)}, dG l = true → ∀ p, p ∈ l → p.1 ≤ 16777213
 | [], _, p, h => by cases h
 | q :: r, h, p, hm => by
  simp only [dG, Bool.and_eq_true] at h
  rcases List.mem_cons.1 hm with rfl | hm
  ·exact Nat.le_of_ble_eq_true h.1
  ·exact qc h.2 p hm
theorem Cy : ∀ {l : List Nat}, eG l = true → ∀ p, p ∈ l → p ≤ 16777213
 | [], _, p, h => by cases h
 | q :: r, h, p, hm => by
  simp only [eG, Bool.and_eq_true] at h
  rcases List.mem_cons.1 hm with rfl | hm
  ·exact Nat.le_of_ble_eq_true h.1
  ·exact Cy h.2 p hm
structure LfAt (E : Env) (k : Option Nat) (L : List LF) (l : LF) : Prop where
 mem : l ∈ L
 key : k = some l.key
 nt : E.nt = l.nt
 pre : ∀ s x, (s, x) ∈ l.pre → E.tm.get s = some x
 low : l.hp = none → ∀ s x, (s, x) ∈ l.pre → gd 8 x = true
 post : ∀ p, p ∈ l.post → p.1 ≤ 16777213
 keep : ∀ p, p ∈ l.keep → p ≤ 16777213
theorem aG9 {E : Env} {k : Option Nat} : ∀ {L : List LF} {l : LF}, qa E k L = some l → LfAt E k L l
 | [], l, h => by cases h
 | x :: r, l, h => by
  unfold qa at h
  cases hc : (iM k x.key && Nat.beq E.nt x.nt && Cw E x && dG x.post && eG x.keep) with
  | true =>
   rw [hc] at h
   simp only [cond_true, Option.some.injEq] at h
   subst h
   simp only [Bool.and_eq_true] at hc
   have hm := hc.1.1.2
   unfold Cw at hm
   refine ⟨List.mem_cons_self .., ?_, Nat.eq_of_beq_eq_true hc.1.1.1.2, ?_, ?_, qc hc.1.2, Cy hc.2⟩
   rotate_left
   ·cases hx : x.hp with
    | none => rw [hx] at hm; exact fun s y hs => (Cv hm s y hs).1
    | some h => rw [hx] at hm; exact aB0 hm
   ·intro hx
    rw [hx] at hm; exact fun s y hs => (Cv hm s y hs).2
   have h1 := hc.1.1.1.1
   cases k with
   | none => cases h1
   | some k => rw [Nat.eq_of_beq_eq_true h1]
  | false =>
   rw [hc] at h
   obtain ⟨a, b, c, d, g, e, f⟩ := aG9 (L := r) h
   exact ⟨List.mem_cons_of_mem _ a, b, c, d, g, e, f⟩
theorem xG {E : Env} : ∀ (l : List Nat) (t : T AV), (∀ p, p ∈ l → p ≤ 16777213) → ∀ s x, (mF E l t).get s = some x → (s ∈ l ∧ E.tm.get s = some x) ∨ t.get s = some x
 | [], t, _, s, x, h => .inr h
 | p :: r, t, hb, s, x, h => by
  unfold mF at h
  have hb' := fun q hq => hb q (List.mem_cons_of_mem _ hq)
  cases hg : E.tm.get p with
  | none =>
   rw [hg] at h
   rcases xG r t hb' s x h with h1 | h1
   ·exact .inl ⟨List.mem_cons_of_mem _ h1.1, h1.2⟩
   ·exact .inr h1
  | some a =>
   rw [hg] at h
   rcases xG r _ hb' s x h with h1 | h1
   ·exact .inl ⟨List.mem_cons_of_mem _ h1.1, h1.2⟩
   ·rw [cm _ _ _ _ (hb p (List.mem_cons_self ..))] at h1
    split at h1
    ·rename_i e; subst e; exact .inl ⟨List.mem_cons_self .., by rw [hg]; exact h1⟩
    ·exact .inr h1
theorem kg : ∀ (l : List (Nat × AV)) (t : T AV), (∀ p, p ∈ l → p.1 ≤ 16777213) → ∀ s x, (iL l t).get s = some x → (s, x) ∈ l ∨ t.get s = some x
 | [], t, _, s, x, h => .inr h
 | p :: r, t, hb, s, x, h => by
  unfold iL at h
  rcases kg r _ (fun q hq => hb q (List.mem_cons_of_mem _ hq)) s x h with h1 | h1
  ·exact .inl (List.mem_cons_of_mem _ h1)
  ·rw [cm _ _ _ _ (hb p (List.mem_cons_self ..))] at h1
   split at h1
   ·rename_i e; injection h1 with h1; subst e; subst h1; exact .inl (List.mem_cons_self ..)
   ·exact .inr h1
def iY (C : Cx) (g : Nat) (l : LF) : Prop := ∀ (h : LH) (q : Nat × AV), l.hp = some h → l.post = [q] → ∀ (B : Fz) (ρ : ak) (H : T aZ) (w : World) (args : List Value), Fits C h.ng B ρ H w → h.ng ≤ h.n0 → lg h → (∀ v k, (v, k) ∈ h.pre → H.get v = some k) → Free ρ h.n0 h.n1 → aH C ρ (l.pre.map (·.2)) args →
 Calls C.P g ⟨args⟩ w fun e w' => ∃ x ρ', e = .returned x ∧ Rel C ρ' q.2 x ∧ Fits C h.ng B ρ' (eZ h H) w' ∧ Ext ρ ρ' h.n0 h.n1 ∧ Below B w w'
theorem aI0 : ∀ (a : List AV) (l : List (Nat × AV)), rV a l = true → a = l.map (·.2)
 | [], [], _ => rfl
 | a :: l, p :: r, h => by
  simp only [rV, Bool.and_eq_true, Bool.or_eq_true] at h
  have e : a = p.2 := h.1.elim (iH 8 _ _) (mY 8 _ _)
  rw [List.map_cons, ← e, ← aI0 l r h.2]
 | [], _ :: _, h => by cases h
 | _ :: _, [], h => by cases h
theorem aH9 {args : List AV} {x : LH × AV} : ∀ L : List LF, lU args L = some x → ∃ l q, l ∈ L ∧ iy l = true ∧ l.hp = some x.1 ∧ l.post = [q] ∧ q.2 = x.2 ∧ args = l.pre.map (·.2)
 | [], h => by cases h
 | l :: r, h => by
  have next : lU args r = some x → ∃ l' q, l' ∈ l :: r ∧ iy l' = true ∧ l'.hp = some x.1 ∧ l'.post = [q] ∧ q.2 = x.2 ∧ args = l'.pre.map (·.2) := fun hn => by
   obtain ⟨l', q, a, b⟩ := aH9 r hn
   exact ⟨l', q, List.mem_cons_of_mem _ a, b⟩
  unfold lU at h
  split at h
  ·rename_i hh q e1 e2
   cases hc : (iy l && rV args l.pre) with
   | true =>
    rw [hc, cond_true] at h
    injection h with h
    subst h
    rw [Bool.and_eq_true] at hc
    exact ⟨l, q, List.mem_cons_self .., hc.1, e1, e2, rfl, aI0 _ _ hc.2⟩
   | false => rw [hc, cond_false] at h; exact next h
  ·exact next h
structure pP (C : Cx) (tb : Tab) (g : Nat) (fi : FI) (fn : Func) : Prop where
 at_ : C.P.funcs[g]? = some fn
 name : (fn.name == "runtime.NumGoroutine") = false
 body : fn.body = fi.body
 nt : fn.ntmps = fi.ntmps
 res : fn.results.toList = fi.res
 reg : ∀ c, fi.body = some c → codeOk c = true
 sum : ∀ v, fi.sum = some v → fi.body.isSome = true ∧ FY C g v
 lps : ∀ c, fi.body = some c → bU C fi.lps c
 cfs : ∀ l, l ∈ fi.lps → iy l = true → iY C g l
 ext : fi.body = none → fi.ext = 0 ∨ pQ C tb fi.ext fn
structure bM (C : Cx) (tb : Tab) : Prop where
 tab : ld C tb
 met : sK C tb
 fn : ∀ g fi, tb.fn.get g = some fi → ∃ fn, pP C tb g fi fn
 mix : C.P.follows .mixedOrders = true
section
variable {C : Cx} {tb : Tab} {B : Fz}
theorem Fits.kept {ρ : ak} {ng : Nat} {H : T aZ} {w w' : World} (h : Fits C ng B ρ H w) (hb : Below (Fz.lt w.heap.size) w w') : Fits C ng B ρ H w' := by
 refine ⟨fun k hk => by have := h.size k hk; have := hb.size; omega, h.glob, fun v k hv => ?_, h.inj, h.low, C.fx w w' (fun b hb' => hb.block b (h.size b (h.low b hb'))) h.inv⟩
 obtain ⟨r, h1, o, h2, h3⟩ := h.blk v k hv
 refine ⟨r, h1, o, ?_, h3⟩
 have hlt : r.blk < w.heap.size := by
  rcases Nat.lt_or_ge r.blk w.heap.size with h | h
  ·exact h
  ·rw [Array.getElem?_eq_none h] at h2; cases h2
 rw [hb.block _ hlt]; exact h2
theorem Below.less {B B' : Fz} {w w' : World} (h : Below B w w') (hle : ∀ k, B' k → B k) : Below B' w w' := ⟨h.os, h.tape, h.output, h.size, fun k hk => h.block k (hle k hk), h.walk⟩
theorem jv {P : Program} {g : Nat} {fn : Func} {args : Array Value} {w : World} (h1 : P.funcs[g]? = some fn) (h2 : (fn.name == "runtime.NumGoroutine") = false) (h3 : fn.body.isSome = true) : (callFunc g args).run P w = .ok (.enter g args) w := by
 unfold callFunc
 rw [Sem.run_bind]
 have hp : (program).run P w = .ok P w := rfl
 rw [hp]
 simp only [Result.andThen_ok, h1, h2]
 have : fn.body.isNone = false := by cases hb : fn.body with
  | none => rw [hb] at h3; cases h3
  | some c => rfl
 rw [this]; rfl
end
section
variable {C : Cx} {tb : Tab} {B : Fz} {F : Nat} {Φ : Fence} {ν : Nat}
def Post (C : Cx) (tb : Tab) (B : Fz) (ρ : ak) (S : St) (E' : Env) (S' : St) (a : Act) (w : World) (K : Act → World → Prop) : Prop :=
 ∀ ρ' a' w', eA C ρ' E' a' → gR a a' w w' → Fits C tb.ng B ρ' S'.heap w' → Ext ρ ρ' S.next S'.next → Below B w w' → K a' w'
theorem Good.le {α : Type} {m : M α} (h : Good m) {S S' : St} {x : α} (hm : m S = some (x, S')) : S.next ≤ S'.next := h.mono _ _ _ hm
theorem CO (hΦ : dW Φ) (hcall : ∀ g, g < F → pT C tb B (call tb g) (di tb g)) (ht : ld C tb) (hm : sK C tb) {ops : Array Oper} {Q : Exit → Act → World → Prop} :
 ∀ (f : Nat), f ≤ F → ∀ (r : List Oper) (n : Nat) (E : Env) (S : St) (E' : Env) (S' : St) (ρ : ak) (a : Act) (w : World), (∀ k o, r[k]? = some o → ops[n + k]? = some o) → opsT tb f ops.toList r E S = some (E', S') →
  Fits C tb.ng B ρ S.heap w → tb.ng ≤ S.next → eA C ρ E a → Free ρ S.next S'.next → Post C tb B ρ S E' S' a w (Q .normal) → wpOpsIn Φ ν C.P ops Q (List.range' n r.length) a w
 | 0, _, r, n, E, S, E', S', ρ, a, w, _, h, _, _, _, _, _ => by unfold opsT at h; exact (ar h).elim
 | f + 1, hf, [], n, E, S, E', S', ρ, a, w, _, h, hF, av, hE, hfree, hP => by
  unfold opsT at h
  obtain ⟨rfl, rfl⟩ := ae h
  exact hP ρ a w hE (.of_eq rfl) hF (Ext.refl _ _ _) (Below.refl _ _)
 | f + 1, hf, o :: r, n, E, S, E', S', ρ, a, w, hr, h, hF, av, hE, hfree, hP => by
  unfold opsT at h
  obtain ⟨b, hb, h1⟩ := lb h
  have ho : ops[n]? = some o := by simpa using hr 0 o rfl
  have hr' : ∀ k x, r[k]? = some x → ops[n + 1 + k]? = some x := fun k x hk => by
   have := hr (k + 1) x (by simpa using hk)
   rw [show n + 1 + k = n + (k + 1) by omega]; exact this
  have hwant := wanted_ok ht.hyp hE hb
  show wpOpsIn Φ ν C.P ops Q (n :: List.range' (n + 1) r.length) a w
  unfold wpOpsIn
  simp only [ho]
  rw [hwant]
  cases b with
  | true =>
   rw [cond_true] at h1
   simp only [if_true]
   obtain ⟨v, S1, h2, h3⟩ := bP h1
   obtain ⟨E1, hp, h4⟩ := lb h3
   cases f with
   | zero => unfold oper at h2; exact (ar h2).elim
   | succ g =>
    rw [aT9] at h2
    have l1 := (Good.dY (ez tb g).call (ez tb g).di o (op tb.ng E.tm)).le h2
    have l2 := ((ez tb (g + 1)).opsT _ _ _).le h4
    refine aL6 (hcall g (by omega)) ht hm h2 hF av (fun x _ => l7 hF hE x) (hfree.left l2) (fun ρ' x w' r1 r2 r3 r4 => ?_) hΦ
    have hs := r3.sub (hfree.left l2)
    refine CO hΦ hcall ht hm (g + 1) (Nat.le_of_succ_le hf) r (n + 1) E1 S1 E' S' ρ' (a.put o.dst x) w' hr' h4 r2 (by omega) ((hE.mono hs).put hp r1) (hfree.right l1 r3) fun ρ2 a2 w2 p1 p2 p3 p4 p5 => ?_
    exact hP ρ2 a2 w2 p1 (p2.same (CL _ _ _).symm r4.size) p3 (r3.trans p4 l1 l2) (r4.trans p5)
  | false =>
   rw [cond_false] at h1
   simp only [Bool.false_eq_true, if_false]
   obtain ⟨E1, hp, h4⟩ := lb h1
   refine ⟨fun f _ => hΦ.fn f, ?_⟩
   refine CO hΦ hcall ht hm f (Nat.le_of_succ_le hf) r (n + 1) E1 S E' S' ρ (a.put o.dst undef) w hr' h4 hF av (hE.put hp (by simp only [Rel, aH]; exact ⟨[], rfl, rfl⟩)) hfree fun ρ2 a2 w2 p1 p2 p3 p4 p5 => ?_
   exact hP ρ2 a2 w2 p1 (p2.same (CL _ _ _).symm (Nat.le_refl _)) p3 p4 p5
theorem rw_of {ρ : ak} {S : St} {w : World} {hi : Nat} {ng : Nat} (hF : Fits C ng B ρ S.heap w) (hfree : Free ρ S.next hi) : Rw S hi := fun v h1 h2 => by
 cases hg : S.heap.get v with
 | none => rfl
 | some k =>
  obtain ⟨r, hr, _⟩ := hF.blk v k hg
  rw [hfree v h1 h2] at hr; cases hr
theorem Below.alloc {w : World} (o : Obj) (h : ∀ k, B k → k < w.heap.size) : Below B w (w.alloc o) := by
 have hk : ∀ k, k < w.heap.size → (w.alloc o).heap[k]? = w.heap[k]? := fun k hk => by
  show (w.heap.push o)[k]? = _
  rw [Array.getElem?_push, if_neg (by omega)]
 exact ⟨rfl, rfl, rfl, by show w.heap.size ≤ (w.heap.push o).size; simp, fun k hk' => hk k (h k hk'), fun k x hx _ => by rw [hk k (qy hx)]; exact hx⟩
theorem Below.putObj {w : World} {g : Nat} {o : Obj} (o' : Obj) (hg : w.heap[g]? = some o) (hr : isRow o = true) (hB : ¬ B g) : Below B w (w.putObj g o') := by
 refine ⟨rfl, rfl, rfl, by simp, fun k hk => World.putObj_heap_other (fun e => hB (e ▸ hk)), fun k x hx hx' => ?_⟩
 by_cases e : k = g
 ·subst e; rw [hg] at hx; injection hx with hx; subst hx; rw [hr] at hx'; cases hx'
 ·rw [World.putObj_heap_other e]; exact hx
theorem rfT_ok (hfn : ∀ g fi, tb.fn.get g = some fi → ∃ fn, pP C tb g fi fn) {g : Nat} {c : List Nat × Code × Code} (h : rfT tb g = some c) : rfP C.P g = some c := by
 unfold rfT at h
 cases hg : tb.fn.get g with
 | none => rw [hg] at h; cases h
 | some fi =>
  rw [hg] at h
  obtain ⟨fn, hf⟩ := hfn g fi hg
  unfold rfP
  rw [hf.at_]
  simp only [hf.body]
  exact h
theorem aF5 (hfn : ∀ g fi, tb.fn.get g = some fi → ∃ fn, pP C tb g fi fn) {ρ : ak} {e : aZ} {k : gO} (hk : gA tb e = some k) {r : R} {L : Loop} : ei C ρ B e r (.loop L) ↔ eV C ρ B k r L := by
 cases e <;> simp only [gA] at hk <;> first | (cases hk; done) | skip
 ·injection hk with hk; subst hk; exact Iff.rfl
 ·rename_i g tm nt st pend
  cases hc : rfT tb g with
  | none => rw [hc] at hk; cases hk
  | some c =>
   rw [hc] at hk; injection hk with hk; subst hk
   have hp := rfT_ok hfn hc
   constructor
   ·intro h
    obtain ⟨h1, h2⟩ := h
    rw [hp] at h1; injection h1 with h1; subst h1; exact h2
   ·intro h
    have e1 := h.ps; have e2 := h.fB; have e3 := h.body
    simp only [] at e1 e2 e3
    refine ⟨?_, ?_⟩
    ·rw [hp, e1, e2, e3]
    ·rw [e1, e2, e3]; exact h
theorem recOf_loop {ρ : ak} {e : aZ} {k : gO} (hk : gA tb e = some k) {r : R} {o : Obj} (h : ei C ρ B e r o) : ∃ L, o = .loop L := by
 cases e <;> simp only [gA] at hk <;> first | (cases hk; done) | skip
 ·cases o <;> first | exact ⟨_, rfl⟩ | exact h.elim
 ·cases o <;> first | exact ⟨_, rfl⟩ | exact h.elim
theorem aF4 {e : aZ} {k : gO} (hk : gA tb e = some k) (st : Nat) (pend : Ex) : gA tb (tV st pend e) = some ⟨k.ps, k.fB, k.body, k.tm, k.nt, st, pend⟩ := by
 cases e <;> simp only [gA] at hk <;> first | (cases hk; done) | skip
 ·injection hk with hk; subst hk; rfl
 ·rename_i g tm nt st' pend'
  cases hc : rfT tb g with
  | none => rw [hc] at hk; cases hk
  | some c =>
   rw [hc] at hk; injection hk with hk; subst hk
   simp only [tV, gA, hc]
theorem Fits.entry (hfn : ∀ g fi, tb.fn.get g = some fi → ∃ fn, pP C tb g fi fn) {ρ : ak} {ng : Nat} {H : T aZ} {w : World} {v : Nat} {k : gO} {r : R} {en : aZ} (h : Fits C ng B ρ H w) (hv : H.get v = some en) (hk : gA tb en = some k) (hr : ρ v = some r) : ∃ L, w.heap[r.blk]? = some (.loop L) ∧ eV C ρ B k r L := by
 obtain ⟨r', h1, o, h2, h3⟩ := h.blk v _ hv
 rw [hr] at h1; injection h1 with h1; subst h1
 obtain ⟨L, rfl⟩ := recOf_loop hk h3
 exact ⟨L, h2, (aF5 hfn hk).1 h3⟩
theorem Fits.aX8 {ρ : ak} {ng : Nat} {H : T aZ} {w : World} {v : Nat} {en : aZ} {r : R} {L : Loop} (h : Fits C ng B ρ H w) (hv : H.get v = some en) (hr : ρ v = some r) (hL : w.heap[r.blk]? = some (.loop L)) : dE en = false := by
 obtain ⟨r', h1, o, h2, h3⟩ := h.blk v en hv
 rw [hr] at h1; injection h1 with h1; subst h1
 rw [hL] at h2; injection h2 with h2; subst h2
 cases en <;> first | rfl | exact h3.elim
theorem Fits.putJ (hfn : ∀ g fi, tb.fn.get g = some fi → ∃ fn, pP C tb g fi fn) {ρ : ak} {ng : Nat} {H : T aZ} {w : World} {v : Nat} {en en' : aZ} {k' : gO} {r : R} {L L' : Loop} (h : Fits C ng B ρ H w) (hn : v ≤ 16777213) (hv : H.get v = some en) (hr : ρ v = some r)
 (hL : w.heap[r.blk]? = some (.loop L)) (hk' : gA tb en' = some k') (hk : eV C ρ B k' r L') : Fits C ng B ρ (H.set v en') (w.putObj r.blk (.loop L')) :=
 h.upd hn hv hr (k' := en') (o := .loop L') ((aF5 hfn hk').2 hk) (World.putObj_heap_same (qy hL)) (fun b hb => World.putObj_heap_other hb) (by simp) (fun b hb => World.putObj_heap_other (fun e => hk.own (e ▸ hb))) (h.aX8 hv hr hL)
theorem Fits.drop {ρ : ak} {ng : Nat} {H : T aZ} {w : World} {v : Nat} {en : aZ} {k : gO} {r : R} {L : Loop} (o : Obj) (h : Fits C ng B ρ H w) (hn : v ≤ 16777213) (hv : H.get v = some en) (hr : ρ v = some r)
 (hk : eV C ρ B k r L) (hL : w.heap[r.blk]? = some (.loop L)) : Fits C ng B ρ (H.del v) (w.putObj r.blk o) := by
 have hd : ∀ x kx, (H.del v).get x = some kx → x ≠ v ∧ H.get x = some kx := fun x kx hx => by
  rw [jo _ _ _ hn] at hx; split at hx
  ·cases hx
  ·rename_i e; exact ⟨e, hx⟩
 refine ⟨by simpa using h.size, h.glob, fun u ku hu => ?_, fun a b k1 k2 r1 r2 ha hb => h.inj a b k1 k2 r1 r2 (hd _ _ ha).2 (hd _ _ hb).2, h.low, C.fx w _ (fun b hb => World.putObj_heap_other (fun e => hk.own (e ▸ h.low b hb))) h.inv⟩
 obtain ⟨e, hu'⟩ := hd u ku hu
 obtain ⟨r', h1, o', h2, h3⟩ := h.blk u ku hu'
 refine ⟨r', h1, o', ?_, h3⟩
 rw [World.putObj_heap_other (fun e' => e (h.solo hu' hv h1 hr (h.aX8 hv hr hL) e'))]; exact h2
theorem Fits.putD {ρ : ak} {ng : Nat} {H : T aZ} {w : World} {D : Nat} {ds : Option (List Deferred)} (o : Obj) (h : Fits C ng B ρ H w) (hD : w.heap[D]? = some (.deferred ds)) (hB : ¬ B D) : Fits C ng B ρ H (w.putObj D o) := by
 refine ⟨by simpa using h.size, h.glob, fun u ku hu => ?_, h.inj, h.low, C.fx w _ (fun b hb => World.putObj_heap_other (fun e => hB (e ▸ h.low b hb))) h.inv⟩
 obtain ⟨r', h1, o', h2, h3⟩ := h.blk u ku hu
 refine ⟨r', h1, o', ?_, h3⟩
 rw [World.putObj_heap_other (fun e => ?_)]
 ·exact h2
 ·subst e; rw [hD] at h2; injection h2 with h2; subst h2; cases ku <;> exact h3
theorem stOf_busy {n : Nat} (h : Nat.beq n 1 = false) : stOf n ≠ .busy := by
 match n with
 | 0 => intro e; cases e
 | 1 => cases h
 | n + 2 => intro e; cases e
theorem aM6 : ∀ {L : List LF} {l : LF}, qS L = some l → l ∈ L ∧ lB l = true
 | [], l, h => by cases h
 | x :: r, l, h => by
  unfold qS at h
  cases hx : lB x with
  | true => rw [hx, cond_true] at h; injection h with h; subst h; exact ⟨List.mem_cons_self .., hx⟩
  | false =>
   rw [hx, cond_false] at h
   obtain ⟨h1, h2⟩ := aM6 h
   exact ⟨List.mem_cons_of_mem _ h1, h2⟩
theorem qG (t : T AV) : ∀ (l : List Nat) s x, (s, x) ∈ pick t l → t.get s = some x ∧ s ≤ 16777213
 | [], s, x, h => by cases h
 | u :: r, s, x, h => by
  unfold pick at h
  cases hg : t.get u with
  | none => rw [hg] at h; exact qG t r s x h
  | some a =>
   rw [hg] at h
   simp only [] at h
   cases hb : Nat.ble u 16777213 with
   | false => rw [hb, cond_false] at h; exact qG t r s x h
   | true =>
    rw [hb, cond_true] at h
    rcases List.mem_cons.1 h with e | h
    ·injection e with e1 e2; subst e1; subst e2; exact ⟨hg, Nat.le_of_ble_eq_true hb⟩
    ·exact qG t r s x h
theorem pick_get (t : T AV) (l : List Nat) (s : Nat) (x : AV) (h : (iL (pick t l) .leaf).get s = some x) : t.get s = some x := by
 rcases kg _ _ (fun p hp => (qG t l p.1 p.2 hp).2) s x h with h | h
 ·exact (qG t l s x h).1
 ·simp [T.cy] at h
theorem aN1 {h : LH} {H : T aZ} {n : Nat} (hh : lg h) (hh2 : lg (ev n h)) (hn : n ≤ h.n0) {v : Nat} {k : aZ} (hv : (eZ (ev n h) H).get v = some k) : (eZ h H).get v = some k := by
 have hle := hh.le
 rw [oI hh2] at hv
 rw [oI hh]
 have e1 : (ev n h).post = h.post := rfl
 have e2 : (ev n h).pre = h.pre := rfl
 have e3 : (ev n h).n0 = n := rfl
 have e4 : (ev n h).n1 = h.n1 := rfl
 rw [e1, e2, e3, e4] at hv
 cases hg : ec h.post v with
 | some j => rw [hg] at hv; simpa using hv
 | none =>
  rw [hg] at hv
  simp only [Option.none_or] at hv ⊢
  split at hv
  ·cases hv
  ·rename_i g
   rw [if_neg (by omega)]; exact hv
theorem db (hΦ : dW Φ) (hcall : ∀ g, g < F → pT C tb B (call tb g) (di tb g)) (ht : ld C tb) (hm : sK C tb) (dt : C.P.follows .mixedOrders = true) (hfn : ∀ g fi, tb.fn.get g = some fi → ∃ fn, pP C tb g fi fn) :
 ∀ (f : Nat), f ≤ F → ∀ (L : List LF) (c : Code) (E : Env) (S : St) (ex : Ex) (E' : Env) (S' : St) (ρ : ak) (a : Act) (w : World) (Q : Exit → Act → World → Prop), eo Φ c → bU C L c → code tb f L c E S = some ((ex, E'), S') →
  Fits C tb.ng B ρ S.heap w → tb.ng ≤ S.next → eA C ρ E a → Free ρ S.next S'.next → Post C tb B ρ S E' S' a w (Q (mX ex)) → c.wpIn Φ ν C.P Q a w ∧ ∀ z, c = .loop z → eg Φ ν C.P z Q a w
 | 0, _, L, c, E, S, ex, E', S', ρ, a, w, Q, _, _, h, _, _, _, _, _ => by unfold code at h; exact (ar h).elim
 | f + 1, hf, L, c, E, S, ex, E', S', ρ, a, w, Q, hc, dv, h, hF, av, hE, hfree, hP => by
  have hf' := Nat.le_of_succ_le hf
  have here : ∀ {x : Ex}, (x, E) = (ex, E') → S' = S → Q (mX x) a w := fun {x} e1 e2 => by
   injection e1 with e1 e3; subst e1; subst e2; subst e3
   exact hP ρ a w hE (.of_eq rfl) hF (Ext.refl _ _ _) (Below.refl _ _)
  cases c with
  | skip => unfold code at h; obtain ⟨e1, e2⟩ := ae h; refine ⟨?_, fun z e => by cases e⟩; exact wpIn_skip (here e1.symm e2)
  | label l => unfold code at h; obtain ⟨e1, e2⟩ := ae h; refine ⟨?_, fun z e => by cases e⟩; exact wpIn_label (here e1.symm e2)
  | exit id => unfold code at h; obtain ⟨e1, e2⟩ := ae h; refine ⟨?_, fun z e => by cases e⟩; exact wpIn_exit (here e1.symm e2)
  | goto l => unfold code at h; obtain ⟨e1, e2⟩ := ae h; refine ⟨?_, fun z e => by cases e⟩; exact wpIn_goto (here e1.symm e2)
  | ret => unfold code at h; obtain ⟨e1, e2⟩ := ae h; refine ⟨?_, fun z e => by cases e⟩; exact wpIn_ret (here e1.symm e2)
  | seq x y =>
   refine ⟨?_, fun z e => by cases e⟩
   unfold code at h
   have hc := hc.seq
   obtain ⟨p, S1, h1, h2⟩ := bP h
   obtain ⟨ex1, E1⟩ := p
   have l1 := ((ez tb f).code _ _ _).le h1
   refine wpIn_seq ?_
   cases ex1 with
   | normal =>
    simp only [] at h2
    have l2 := ((ez tb f).code _ _ _).le h2
    refine And.left <| db hΦ hcall ht hm dt hfn f hf' L x E S .normal E1 S1 ρ a w _ hc.1 dv.1 h1 hF av hE (hfree.left l2) fun ρ1 a1 w1 p1 p2 p3 p4 p5 => ?_
    show y.wpIn Φ ν C.P Q a1 w1
    refine And.left <| db hΦ hcall ht hm dt hfn f hf' L y E1 S1 ex E' S' ρ1 a1 w1 Q hc.2 dv.2 h2 p3 (by omega) p1 (hfree.right l1 p4) fun ρ2 a2 w2 q1 q2 q3 q4 q5 => ?_
    exact hP ρ2 a2 w2 q1 (p2.trans q2 p5 q5) q3 (p4.trans q4 l1 l2) (p5.trans q5)
   | exit id =>
    obtain ⟨e1, rfl⟩ := ae h2
    injection e1 with e1 e2; subst e1; subst e2
    exact And.left <| db hΦ hcall ht hm dt hfn f hf' L x E S _ _ _ ρ a w _ hc.1 dv.1 h1 hF av hE hfree hP
   | goto l =>
    obtain ⟨e1, rfl⟩ := ae h2
    injection e1 with e1 e2; subst e1; subst e2
    exact And.left <| db hΦ hcall ht hm dt hfn f hf' L x E S _ _ _ ρ a w _ hc.1 dv.1 h1 hF av hE hfree hP
   | ret =>
    obtain ⟨e1, rfl⟩ := ae h2
    injection e1 with e1 e2; subst e1; subst e2
    exact And.left <| db hΦ hcall ht hm dt hfn f hf' L x E S _ _ _ ρ a w _ hc.1 dv.1 h1 hF av hE hfree hP
  | cond q x y =>
   refine ⟨?_, fun z e => by cases e⟩
   unfold code at h
   have hc := hc.cond
   have hq := l7 hF hE q
   simp only [] at h
   have hbr : ∀ b : Bool, a.eval q = .bool b → (cond b (code tb f L x E) (code tb f L y E)) S = some ((ex, E'), S') → (Code.cond q x y).wpIn Φ ν C.P Q a w := fun b hq h => by
    refine wpIn_cond hq ?_
    cases b with
    | true => exact And.left <| db hΦ hcall ht hm dt hfn f hf' L x E S ex E' S' ρ a w Q hc.1 dv.1 h hF av hE hfree hP
    | false => exact And.left <| db hΦ hcall ht hm dt hfn f hf' L y E S ex E' S' ρ a w Q hc.2 dv.2 h hF av hE hfree hP
   cases hop : op tb.ng E.tm q with
   | b b =>
    rw [hop] at h hq
    simp only [Rel] at hq
    exact hbr b hq (by cases b <;> exact h)
   | x i =>
    rw [hop] at h hq
    simp only [] at h
    obtain ⟨r, S1, h1, h2⟩ := bP h
    obtain ⟨rfl, h3⟩ := DF h1
    obtain ⟨b, e1, e2⟩ := ht.hyp _ _ (qu h3)
    injection e1 with e1; subst e1
    obtain ⟨p, q', e3, e4, e5⟩ := e2 ρ _ (.bool true) hq (by simp only [Rel])
    injection e4 with e4; subst e4
    have e6 : r = p := by rw [e5]; cases p <;> rfl
    subst e6
    exact hbr _ e3 h2
   | _ => rw [hop] at h; exact (ar h).elim
  | block id x =>
   refine ⟨?_, fun z e => by cases e⟩
   unfold code at h
   have hc := hc.block
   obtain ⟨p, S1, h1, h2⟩ := bP h
   obtain ⟨ex1, E1⟩ := p
   refine wpIn_block ?_
   cases ex1 with
   | exit j =>
    simp only [] at h2
    cases hj : Nat.beq j id with
    | true =>
     rw [hj, cond_true] at h2
     have hji := Nat.eq_of_beq_eq_true hj
     subst hji
     obtain ⟨e1, rfl⟩ := ae h2
     injection e1 with e1 e2; subst e1; subst e2
     refine And.left <| db hΦ hcall ht hm dt hfn f hf' L x E S (.exit j) _ _ ρ a w _ hc dv h1 hF av hE hfree fun ρ1 a1 w1 p1 p2 p3 p4 p5 => ?_
     show Exit.inBlock j Q (.exit j) a1 w1
     simp only [Exit.inBlock, if_true]
     exact hP ρ1 a1 w1 p1 p2 p3 p4 p5
    | false =>
     rw [hj, cond_false] at h2
     have hji : j ≠ id := fun e => by rw [e, Nat.beq_refl] at hj; cases hj
     obtain ⟨e1, rfl⟩ := ae h2
     injection e1 with e1 e2; subst e1; subst e2
     refine And.left <| db hΦ hcall ht hm dt hfn f hf' L x E S (.exit j) _ _ ρ a w _ hc dv h1 hF av hE hfree fun ρ1 a1 w1 p1 p2 p3 p4 p5 => ?_
     show Exit.inBlock id Q (.exit j) a1 w1
     simp only [Exit.inBlock, if_neg hji]
     exact hP ρ1 a1 w1 p1 p2 p3 p4 p5
   | normal =>
    obtain ⟨e1, rfl⟩ := ae h2
    injection e1 with e1 e2; subst e1; subst e2
    exact And.left <| db hΦ hcall ht hm dt hfn f hf' L x E S _ _ _ ρ a w _ hc dv h1 hF av hE hfree hP
   | goto l =>
    obtain ⟨e1, rfl⟩ := ae h2
    injection e1 with e1 e2; subst e1; subst e2
    exact And.left <| db hΦ hcall ht hm dt hfn f hf' L x E S _ _ _ ρ a w _ hc dv h1 hF av hE hfree hP
   | ret =>
    obtain ⟨e1, rfl⟩ := ae h2
    injection e1 with e1 e2; subst e1; subst e2
    exact And.left <| db hΦ hcall ht hm dt hfn f hf' L x E S _ _ _ ρ a w _ hc dv h1 hF av hE hfree hP
  | loop x =>
   unfold code at h
   dsimp only at h
   cases hl : qa E (keyOf x) L with
   | some l =>
    rw [hl] at h
    have hA := aG9 hl
    cases hhp : l.hp with
    | some hh =>
     have h : ja tb.ng E l S = some ((ex, E'), S') := h
     unfold ja at h
     rw [hhp] at h
     simp only [] at h
     obtain ⟨u, S1, h1, h2⟩ := bP h
     obtain ⟨e1, rfl⟩ := ae h2
     obtain ⟨⟨n1, n1g⟩, n2, n2b, n3, n4⟩ := aG6 h1
     have e2 : ex = l.ex := congrArg Prod.fst e1
     have e3 : E' = ⟨iL l.post (mF E l.keep .leaf), E.nt⟩ := congrArg Prod.snd e1
     subst e2; subst e3
     have hnx : S'.next = hh.n1 := by rw [n4]
     have hok := oH n2
     have hx : eg Φ ν C.P x Q a w := (dv.1 l hA.mem hA.key).toH hhp Φ ν Q a w B ρ S.heap hΦ hc (n1g ▸ hF) (by omega) hok (Ct n3) (fun v g1 g2 => hfree v (by omega) (by omega)) (by rw [hE.1]; exact hA.nt) (by rw [← hA.nt]; exact hE.2.1)
      (fun s y hs => hE.2.2 s y (hA.pre s y hs))
      fun ρ' a' w' k1 k2 k3 k4 k5 k6 k7 => by
       have k6 : Ext ρ ρ' S.next S'.next := fun v hv => k6 v (by have := hok.le; omega)
       have k5 : Fits C hh.ng B ρ' (eZ (ev S.next hh) S.heap) w' := k5.sub fun v k hv => aN1 hok (oH n2b) n1 hv
       refine hP ρ' a' w' ⟨by rw [k1]; exact hE.1, hE.2.1, fun t y hy => ?_⟩ k4 (by rw [n4, n1g]; exact k5) k6 k7
       rcases kg _ _ hA.post t y hy with g | g
       ·exact k3 t y g
       ·rcases xG _ _ hA.keep t y g with g | g
        ·rw [k2 t g.1]; exact Rel.mono (k6.sub hfree) _ _ (hE.2.2 t y g.2)
        ·simp [T.cy] at g
     exact ⟨hx.wp, fun z e => by cases e; exact hx⟩
    | none =>
    have h : ja tb.ng E l S = some ((ex, E'), S') := h
    unfold ja at h
    rw [hhp] at h
    simp only [] at h
    obtain ⟨e1, rfl⟩ := ae h
    have e2 : ex = l.ex := congrArg Prod.fst e1
    have e3 : E' = ⟨iL l.post (mF E l.keep .leaf), E.nt⟩ := congrArg Prod.snd e1
    subst e2; subst e3
    have hx : eg Φ ν C.P x Q a w := (dv.1 l hA.mem hA.key).toN hhp Φ ν Q a w hΦ hc hF.inv hF.nsz (by rw [hE.1]; exact hA.nt) (by rw [← hA.nt]; exact hE.2.1)
     (fun s y hs => Cd 8 y (hA.low hhp s y hs) _ (hE.2.2 s y (hA.pre s y hs)))
     fun a' w' k1 k2 k3 k4 k5 => hP ρ a' w' ⟨by rw [k1]; exact hE.1, hE.2.1, fun t y hy => by
      rcases kg _ _ hA.post t y hy with g | g
      ·exact Rel.mono (fun v r hv => by cases hv) _ _ (k3 t y g)
      ·rcases xG _ _ hA.keep t y g with g | g
       ·rw [k2 t g.1]; exact hE.2.2 t y g.2
       ·simp [T.cy] at g⟩ k4 (hF.kept k5) (Ext.refl _ _ _) (Below.less k5 hF.size)
    exact ⟨hx.wp, fun z e => by cases e; exact hx⟩
   | none =>
   rw [hl] at h
   have hc0 := hc
   have hc := hc.loop
   obtain ⟨p, S1, h1, h2⟩ := bP h
   obtain ⟨ex1, E1⟩ := p
   have l1 := ((ez tb f).code _ _ _).le h1
   refine (fun hr => ⟨hr.wp, fun z e => by cases e; exact hr⟩) (?_ : eg Φ ν C.P x Q a w)
   refine eg.step ?_
   cases ex1 with
   | normal =>
    simp only [] at h2
    have l2 := ((ez tb f).code _ _ _).le h2
    refine And.left <| db hΦ hcall ht hm dt hfn f hf' L x E S .normal E1 S1 ρ a w _ hc dv.2 h1 hF av hE (hfree.left l2) fun ρ1 a1 w1 p1 p2 p3 p4 p5 => ?_
    show eg Φ ν C.P x Q a1 w1
    refine (db hΦ hcall ht hm dt hfn f hf' L (.loop x) E1 S1 ex E' S' ρ1 a1 w1 Q hc0 dv h2 p3 (by omega) p1 (hfree.right l1 p4) ?_).2 x rfl
    intro ρ2 a2 w2 q1 q2 q3 q4 q5
    exact hP ρ2 a2 w2 q1 (p2.trans q2 p5 q5) q3 (p4.trans q4 l1 l2) (p5.trans q5)
   | exit id =>
    obtain ⟨e1, rfl⟩ := ae h2
    injection e1 with e1 e2; subst e1; subst e2
    exact And.left <| db hΦ hcall ht hm dt hfn f hf' L x E S _ _ _ ρ a w _ hc dv.2 h1 hF av hE hfree hP
   | goto l =>
    obtain ⟨e1, rfl⟩ := ae h2
    injection e1 with e1 e2; subst e1; subst e2
    exact And.left <| db hΦ hcall ht hm dt hfn f hf' L x E S _ _ _ ρ a w _ hc dv.2 h1 hF av hE hfree hP
   | ret =>
    obtain ⟨e1, rfl⟩ := ae h2
    injection e1 with e1 e2; subst e1; subst e2
    exact And.left <| db hΦ hcall ht hm dt hfn f hf' L x E S _ _ _ ρ a w _ hc dv.2 h1 hF av hE hfree hP
  | region id ops draw =>
   refine ⟨?_, fun z e => by cases e⟩
   unfold code at h
   simp only [] at h
   cases draw with
   | false =>
    rw [cond_false] at h
    obtain ⟨E1, S1, h1, h2⟩ := bP h
    obtain ⟨e1, rfl⟩ := ae h2
    injection e1 with e1 e2; subst e1; subst e2
    refine wpIn_region ?_
    have hlen : List.range ops.size = List.range' 0 ops.toList.length := by rw [List.range_eq_range', Array.length_toList]
    rw [hlen]
    exact CO hΦ hcall ht hm f hf' ops.toList 0 E S _ _ ρ a w (fun k o hk => by rw [Nat.zero_add]; simpa using hk) h1 hF av hE hfree hP
   | true =>
    rw [cond_true] at h
    obtain ⟨p, S1, h1, h2⟩ := bP h
    obtain ⟨E1, l1⟩ := p
    obtain ⟨hord, h3⟩ := bK h2
    obtain ⟨e1, rfl⟩ := ae h3
    injection e1 with e1 e2; subst e1; subst e2
    have oa : n7 ops.toList = true := by simpa [codeOk] using hc.1
    obtain ⟨Es, Ss, bs, vs, As, Ws, htr, t1, t2, t3, t4⟩ := tr_of hf' oa h1 hord (rw_of hF hfree)
    refine wpIn_region_any dt ?_
    have hF1 : Fits C tb.ng B ρ S.heap { w with drawn := w.drawn + 1 } := ⟨hF.size, hF.glob, hF.blk, hF.inj, hF.low, C.fx w _ (fun _ _ => rfl) hF.inv⟩
    have hb1 : Below B w { w with drawn := w.drawn + 1 } := ⟨rfl, rfl, rfl, Nat.le_refl _, fun _ _ => rfl, fun _ _ h _ => h⟩
    have hrep : ∀ k, (Array.replicate ops.size false).getD k false = false := fun k => by
     rw [Array.getD_eq_getD_getElem?, Array.getElem?_replicate]; split <;> rfl
    have hrw := rw_of hF hfree
    refine any_ok (ρ0 := ρ) (a0 := a) (w0 := { w with drawn := w.drawn + 1 }) htr (by rw [t1]; exact hE.2.1) (fun g hg => hcall g hg) ht hm (by rw [t2]; exact av) hΦ
     (fun ρ' a' w' q1 q2 q3 q4 q5 => hP ρ' a' w' (by rw [← t3]; exact q1) (.of_eq q2) (by rw [← t4]; exact q3) (by rw [← t2, ← t4]; exact q4) (hb1.trans q5))
     ops.size (Array.replicate ops.size false) ρ S.heap a { w with drawn := w.drawn + 1 } (by simp) ?_ ?_
    ·have : ∀ n, left (fun k => (Array.replicate ops.size false).getD k false) n ≤ n := by
      intro n
      induction n with
      | zero => exact Nat.le_refl _
      | succ n ih => unfold left; rw [hrep, cond_false]; omega
     exact this _
    ·refine ⟨hF1, fun v => ?_, fun t x hx => ?_, fun j hj _ => ?_, Ext.refl _ _ _, by rw [t1]; exact hE.1, rfl, Below.refl _ _, fun i o e hi => by rw [hrep] at hi; cases hi⟩
     ·rw [Cn (X := fun k => (Ss k).heap.get v) _ (fun j _ => hrep j), t2]
     ·rw [Cn (X := fun k => (Es k).tm.get t) _ (fun j _ => hrep j), t1] at hx
      exact hE.2.2 t x hx
     ·intro v hv1 hv2
      have m1 := jX htr.mono 0 j (by omega) (by omega)
      have m2 := jX htr.mono (j + 1) ops.size (by omega) (Nat.le_refl _)
      rw [t2] at m1; rw [t4] at m2
      exact hfree v (by omega) (by omega)
  | rangeFunc g ps x y =>
   refine ⟨?_, fun z e => by cases e⟩
   have hro : Φ.round = none := hc.2.resolve_right fun e => by cases e
   have hcx := hc.1
   simp only [codeOk, Bool.and_eq_true] at hcx
   unfold code at h
   simp only [] at h
   have hg := l7 hF hE g
   cases hop : op tb.ng E.tm g <;> rw [hop] at h hg <;> try exact (ar h).elim
   rename_i gf first cap
   obtain ⟨fi, e1, h1⟩ := lb h
   obtain ⟨hbody, h2⟩ := bK h1
   obtain ⟨n, S1, h3, h4⟩ := bP h2
   obtain ⟨v, S2, h5, h6⟩ := bP h4
   obtain ⟨en, k, S3, h7, h7k, h8, h9, h10⟩ := rbR h6
   obtain ⟨hst, h11⟩ := cond_inv' h10
   obtain ⟨u, S4, h12, h13⟩ := bP h11
   obtain ⟨e2, rfl⟩ := ae h13
   injection e2 with e2 e3; subst e2; subst e3
   obtain ⟨rfl, n1, n2, n3⟩ := gh h3
   obtain ⟨k1, k2, k3, k4⟩ := ki h12
   simp only [Rel] at hg
   obtain ⟨as, cs, hg, hr1, hr2⟩ := hg
   obtain ⟨fn, qw⟩ := hfn _ _ e1
   have l1 := ((ez tb f).call _ _).le h5
   refine wpIn_rangeFunc fun fid _ => ?_
   have hb0 : Below B w (w.alloc (.deferred (some []))) := Below.alloc _ hF.size
   have hbA : Below (Fz.lt w.heap.size) w (w.alloc (.deferred (some []))) := Below.alloc _ (fun k hk => hk)
   have hsz : (w.alloc (.deferred (some []))).heap.size = w.heap.size + 1 := by simp
   have hentc : (rP L E' ps.toList x y = .j ⟨ps.toList, x, y, E'.tm, E'.nt, 0, .normal⟩) ∨ (∃ gk l, rP L E' ps.toList x y = .k gk (pick E'.tm l) E'.nt 0 .normal ∧ rfP C.P gk = some (ps.toList, x, y)) := by
    unfold rP
    cases hmk : qS L with
    | none => exact .inl rfl
    | some l =>
     obtain ⟨m1, m2⟩ := aM6 hmk
     exact .inr ⟨_, _, rfl, dv l m1 m2⟩
   generalize rP L E' ps.toList x y = en0 at hentc n2
   obtain ⟨L, hL⟩ : ∃ L : Loop, L = { state := .ready, pending := none, fn := fid, tmps := a.tmps, params := ps, assign := x, body := y, defers := w.heap.size } := ⟨_, rfl⟩
   have hb1 : Below B (w.alloc (.deferred (some []))) ((w.alloc (.deferred (some []))).alloc (.loop L)) := Below.alloc _ (fun k hk => by have := hF.size k hk; omega)
   have hfr : ρ S.next = none := hfree _ (Nat.le_refl _) (by omega)
   have hF1 : Fits C tb.ng B (bW ρ S.next ⟨w.heap.size + 1, 0, 0, 0⟩) S1.heap ((w.alloc (.deferred (some []))).alloc (.loop L)) := by
    rw [n2]
    refine (hF.kept hbA).new n1 av hfr (by rw [hsz]) (o := .loop L) ?_ rfl
    rcases hentc with rfl | ⟨gk, l, rfl, hpk⟩
    rotate_left
    ·refine ⟨by rw [hL]; exact hpk, ?_⟩
     refine ⟨hF.fresh (Nat.le_succ _), rfl, rfl, rfl, by rw [hL]; exact hcx.1, by rw [hL]; exact hcx.2, by rw [hL]; exact hE.1, hE.2.1, fun t z hz => by rw [hL]; exact hE.2.2 t z (pick_get _ _ _ _ hz), by rw [hL]; rfl, by rw [hL]; rfl⟩
    refine ⟨hF.fresh (Nat.le_succ _), by rw [hL], by rw [hL], by rw [hL], hcx.1, hcx.2, by rw [hL]; exact hE.1, hE.2.1, fun t z hz => by rw [hL]; exact hE.2.2 t z hz, by rw [hL]; rfl, by rw [hL]; rfl⟩
   have hsub := qF (r := ⟨w.heap.size + 1, 0, 0, 0⟩) hfr
   have hext := fW ρ S.next ⟨w.heap.size + 1, 0, 0, 0⟩
   rw [← n3] at hext
   have hown : bW ρ S.next ⟨w.heap.size + 1, 0, 0, 0⟩ S.next = some ⟨w.heap.size + 1, 0, 0, 0⟩ := by simp [bW]
   have hargs : aH C (bW ρ S.next ⟨w.heap.size + 1, 0, 0, 0⟩) (first ++ (.yl S.next :: cap)) (as ++ (.func (.yield (w.heap.size + 1)) #[] #[] :: cs)) := by
    refine (aH.mono hsub _ _ hr1).app ?_
    simp only [aH]
    exact ⟨_, _, rfl, by simp only [Rel]; exact ⟨_, hown, rfl⟩, aH.mono hsub _ _ hr2⟩
   have hbo : fn.body.isSome = true := by rw [qw.body]; exact hbody
   have harr : (⟨as⟩ ++ #[Value.func (.yield (w.heap.size + 1)) #[] #[]] ++ ⟨cs⟩ : Array Value) = ⟨as ++ (.func (.yield (w.heap.size + 1)) #[] #[] :: cs)⟩ := by
    apply Array.toList_inj.1; simp
   refine ⟨w.heap.size + 1, [mkD w.heap.size], (w.alloc (.deferred (some []))).alloc (.loop L), { target := .fn (.func gf) ⟨cs⟩, args := ⟨as⟩ ++ #[.func (.yield (w.heap.size + 1)) #[] #[]] }, (w.alloc (.deferred (some []))).alloc (.loop L), gf, ⟨as ++ (.func (.yield (w.heap.size + 1)) #[] #[] :: cs)⟩, (w.alloc (.deferred (some []))).alloc (.loop L), ?_, ?_, fun f' _ => hΦ.fn f', ?_, hΦ.deep ν, ?_⟩
   ·rw [hro, run_enterLoop_outer, hL]; rfl
   ·simp only [resolve, hg, Deferred.ofValue]
    rw [Sem.run_pure]
    simp [Act.eval]
   ·simp only [invoke]
    rw [harr]
    exact jv qw.at_ qw.name hbo
   ·have hcl := (hcall f (by omega)).1 gf _ _ _ _ _ _ _ { dst := none, op := default, type := 0, pos := "", after := #[], guard := none } a (fun _ w3 => rangePost Φ ν C.P (w.heap.size + 1) Q { a with defers := [mkD w.heap.size] ++ a.defers } (.returned undef) w3)
     (fun e _ w3 => Q e { a with defers := [mkD w.heap.size] ++ a.defers } w3) Φ ν hΦ h5 hF1 (by omega) hargs ((hfree.right (by omega) hext).left (by omega)) ?_
    ·rw [jv qw.at_ qw.name hbo, Oper.uponIn_enter] at hcl
     refine CallsIn.mono hcl.2 fun e w3 he => ?_
     cases e with
     | returned v => exact he
     | panicked chain => exact he
     | outgrown => obtain ⟨_, w4, hq⟩ := he; exact ⟨_, w4, hq⟩
    ·intro ρ2 xv w2 q1 q2 q3 q4
     have hs2 := q3.sub ((hfree.right (by omega) hext).left (by omega))
     have hown2 := hs2 _ _ hown
     obtain ⟨L2, hL2, hk2⟩ := q2.entry hfn h7 h7k hown2
     have hend := run_endLoop (P := C.P) hL2 (by rw [hk2.st]; exact stOf_busy hst)
     have hbB : Below B w2 (w2.putObj (w.heap.size + 1) (.loop { L2 with state := .exhausted })) := Below.putObj _ hL2 rfl hk2.own
     have hbelow : Below B w (w2.putObj (w.heap.size + 1) (.loop { L2 with state := .exhausted })) := ((hb0.trans hb1).trans q4).trans hbB
     have hdat : ((w.alloc (.deferred (some []))).alloc (.loop L)).heap[w.heap.size]? = some (.deferred (some [])) := hb1.walk _ _ (World.alloc_heap_new w _) rfl
     have hq : Q (mX k.pend) { a with defers := [mkD w.heap.size] ++ a.defers } (w2.putObj (w.heap.size + 1) (.loop { L2 with state := .exhausted })) := by
      refine hP ρ2 _ _ (eA.mono (a := a) hE fun v r hv => hs2 _ _ (hsub _ _ hv)) ⟨[w.heap.size], rfl, by simp, fun D hD => ?_⟩ ?_ (hext.trans (by rw [k4, h9]; exact q3) (by omega) (by omega)) hbelow
      ·rw [List.mem_singleton] at hD; subst hD
       exact ⟨Nat.le_refl _, (q4.trans hbB).walk _ _ hdat rfl⟩
      ·rw [k3, h8]
       exact q2.drop _ n1 h7 hown2 hk2 hL2
     refine ⟨L2.pending, _, hend, ?_⟩
     rw [hk2.pend] at hq ⊢
     generalize k.pend = ex at hq ⊢
     cases ex with
     | normal => exact hq
     | exit id => exact wpIn_exit hq
     | goto l => exact wpIn_goto hq
     | ret => exact wpIn_ret hq
  | _ => unfold code at h; exact (ar h).elim
end
end Go.AX
end
