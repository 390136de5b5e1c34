/- A part of the proof: an interpreter of the model's own code on partly known states, and that what it answers is what the program answers. No condition of its own. -/
import Derived.Test.YtojgdbbjblaalaaDoorAXs
set_option linter.unusedSimpArgs false
set_option linter.unusedVariables false
namespace Go.AX
open Go.RowKit (Below)
section
variable {C : Cx} {tb : Tab} {B : Nat} {ρ : Rho} {w : World} {S S' : St}
set_option maxHeartbeats 1000000 in
theorem appd_ok (hF : Fits C tb.ng B ρ S.heap w) (hng : tb.ng ≤ S.next) {ats : Array Nat} {st e ty n : Nat} {ie : TypeInfo} {s v : AV} {sv x : Value} {news : List Value} {z : Value} (h0 : ats[0]? = some st) (hst : C.P.underlying st = some (.slice e)) (hie : C.P.info? e = some ie)
    (hz : ie.zero = some z) (hzl : z.cells.toList.length = ie.size) (hzo : ∀ y ∈ z.cells.toList, y.oneCell' = true) (hA : Apd C.P w ats e ie x n news)
    {d : Cells} (hd : RelL C ρ d.toL news) (hdw : CW d) (hd1 : ∀ y ∈ news, y.oneCell' = true) (hdl : news.length = n * ie.size) (hs : Rel C ρ s sv)
    (h : appd e ie.size ie.bytes s n d S = some (v, S')) (hfree : Free ρ S.next S'.next) : ApdOut C tb.ng B ρ w S S' v ats ty sv x := by
  unfold appd at h
  obtain ⟨hsz, h1⟩ := cond_inv' h
  have hsz := beq_false_inv hsz
  cases s <;> try exact (fail_inv h1).elim
  case nils =>
    simp only [Rel] at hs; subst hs
    cases hn0 : Nat.beq n 0 with
    | true =>
      rw [hn0] at h1
      have := beq_inv hn0; subst this
      obtain ⟨rfl, rfl⟩ := ret_inv h1
      have hnw : news = [] := List.eq_nil_of_length_eq_zero (by omega)
      subst hnw
      have := app_roomN (ty := ty) (sLen := 0) (sCap := 0) h0 hst hie hA (by omega)
      exact .same hF rfl this (by simp only [Rel])
    | false =>
      rw [hn0] at h1
      have hn0 := beq_false_inv hn0
      obtain ⟨hb, h2⟩ := cond_inv' h1
      obtain ⟨b1, b2⟩ := big_spec hb
      unfold grow at h2
      obtain ⟨b, S1, h3, h4⟩ := bnd_inv h2
      obtain ⟨rfl, rfl⟩ := ret_inv h4
      have he : (emptyLike d).toL = [] ∧ CW (emptyLike d) := by cases d <;> simp [emptyLike, Cells.toL, CW, unp]
      have := grow_ok (ty := ty) (sLen := 0) (sCap := 0) (base := none) (olds := []) (old := emptyLike d) (d := d) (fr := 0) (sti := false) (b := b) hF hng h0 hst hie hz hzl hzo hA (by omega) (fun w' _ => by simp [Builtin.firstCells])
        (by rw [Nat.zero_add, Nat.mul_comm]; exact b1) (by rw [Nat.zero_add]; exact b2) (by rw [he.1]; simp [RelL]) hd he.2 hdw (by simp) hd1 (by simp) hdl (by rw [Nat.zero_add]; exact h3) hfree
      simpa [ApdOut] using this
  case sl b o len cap r =>
    obtain ⟨rr, a, c', hr, rfl, hlc, ha⟩ := sl_addr hs
    cases hn0 : Nat.beq n 0 with
    | true =>
      rw [hn0] at h1
      have := beq_inv hn0; subst this
      obtain ⟨rfl, rfl⟩ := ret_inv h1
      have hnw : news = [] := List.eq_nil_of_length_eq_zero (by omega)
      subst hnw
      have := app_room (ty := ty) (a := a) (sLen := len) (sCap := c') h0 hst hie hA (by omega)
      exact .same hF rfl (by rw [this]; simp [storeCells]) hs
    | false =>
      rw [hn0] at h1
      have hn0 := beq_false_inv hn0
      simp only [cond_false] at h1
      obtain ⟨k, S1, e1, e2, e3, h2⟩ := rb h1
      obtain ⟨hb, h3⟩ := cond_inv' h2
      obtain ⟨b1, b2⟩ := big_spec hb
      have b1 : ie.bytes * (len + n) ≤ 140737488355328 := b1
      have b2 : len + n ≤ 140737488355328 := b2
      obtain ⟨arr, fz, hbk, hk⟩ := get_block hF e1 hr
      have hatl : o + len * ie.size ≤ k.c.len → ∃ vs : List Value, vs.length = len * ie.size ∧ RelL C ρ ((k.c.toL.drop o).take (len * ie.size)) vs ∧ (∀ x ∈ vs, x.oneCell' = true) ∧ (∀ w', w'.heap = w.heap → (Builtin.firstCells ie.size len (.slice (some a) len c')).run C.P w' = .ok vs.toArray w') := fun hle => by
        obtain ⟨vs, v1, v2, v3, v4⟩ := read_ok hbk hk.cells hle
        refine ⟨vs, v1, v2, v3, fun w' hw' => ?_⟩
        have hcells : ∀ (j : Nat) u, vs[j]? = some u → w'.cell? (a.add j) = some u := by
          intro j u hj
          rcases ha with rfl | h0
          · have := v4 j u hj; simpa [World.cell?, hw'] using this
          · have : vs = [] := List.eq_nil_of_length_eq_zero (by rw [v1, h0]; simp); subst this; simp at hj
        have := run_loadCells_list (P := C.P) w' a vs hcells
        rw [v1] at this
        exact this
      -- writing in place
      have inplace : ∀ (c2 : Cells) (hput : k.c.put (o + len * ie.size) d = some c2) (hfr : k.fr ≤ o + len * ie.size) (hfit : rr.base + (o + len * ie.size) + n * ie.size ≤ arr.size) (hgm : k.g = true → o + len * ie.size + n * ie.size ≤ k.m) (hold : rr.blk < B → news = []) (hadr : a = ⟨rr.blk, rr.base + o, none⟩) (hroom : len + n ≤ c') (hub : b ≤ 16777213),
          ∃ w', (Builtin.append_ ats ty #[.slice (some a) len c', x]).run C.P w = .ok (.slice (some a) (len + n) c') w' ∧ Fits C tb.ng B ρ (S.heap.set b { k with c := c2 }) w' ∧ Below B w w' := by
        intro c2 hput hfr hfit hgm hold hadr hroom hub
        obtain ⟨p1, p2, p3⟩ := Cells.put_spec hk.cells.1 hdw hput
        obtain ⟨w', g1, g2, g3⟩ := write_ok hF e1 hub hr hbk hk hd hd1 hfr p1 (by rw [hdl]; exact hfit) (fun hg => by rw [hdl]; exact hgm hg) hold p2 p3
        refine ⟨w', ?_, g2, g3⟩
        rw [app_room (ty := ty) h0 hst hie hA hroom, hadr, Addr.add_lit]
        have : (⟨rr.blk, rr.base + o + len * ie.size, none⟩ : Addr) = ⟨rr.blk, rr.base + (o + len * ie.size), none⟩ := by rw [Nat.add_assoc]
        rw [this, g1]; rfl
      cases r with
      | false =>
        simp only [cond_false] at h3
        have hs0 := hs
        simp only [Rel] at hs
        obtain ⟨rr', hr', hle', heq⟩ := hs
        rw [hr] at hr'; injection hr' with hr'; subst hr'
        simp only [Value.slice.injEq, Option.some.injEq, true_and] at heq
        obtain ⟨rfl, rfl⟩ := heq
        cases hroom : Nat.ble (Nat.add len n) c' with
        | true =>
          rw [hroom, cond_true] at h3
          have hroom : len + n ≤ c' := Nat.le_of_ble_eq_true hroom
          obtain ⟨hc, h4⟩ := cond_inv h3
          simp only [Bool.and_eq_true, Bool.not_eq_true'] at hc
          obtain ⟨⟨c1, c2⟩, c3⟩ := hc
          have c1 : k.fr ≤ o + len * ie.size := Nat.le_of_ble_eq_true c1
          have c2 : o + len * ie.size + n * ie.size ≤ k.c.len := Nat.le_of_ble_eq_true c2
          obtain ⟨c4, h5, h6⟩ := lb h4
          obtain ⟨u, S2, h7, h8⟩ := bnd_inv h6
          obtain ⟨rfl, rfl⟩ := ret_inv h8
          obtain ⟨u1, u2, u3, u4⟩ := upd_inv h7
          have hroom2 := hk.room
          obtain ⟨w', g1, g2, g3⟩ := inplace c4 h5 c1 (by omega) (fun hg => by rw [c3] at hg; cases hg) (fun hB => by have := (hk.old hB).1; exact List.eq_nil_of_length_eq_zero (by rw [hdl]; omega)) rfl hroom u2
          refine ⟨ρ, _, w', g1, ?_, by rw [u3, e2]; exact g2, Ext.refl _ _ _, g3⟩
          simp only [Rel]
          exact ⟨rr, hr, hroom, rfl⟩
        | false =>
          rw [hroom, cond_false] at h3
          have hroom : c' < len + n := by
            rcases Nat.lt_or_ge c' (len + n) with h | h
            · exact h
            · have : Nat.ble (Nat.add len n) c' = true := ble_true h
              rw [this] at hroom; cases hroom
          obtain ⟨old, h4, h5⟩ := lb h3
          unfold grow at h5
          obtain ⟨b', S2, h6, h7⟩ := bnd_inv h5
          obtain ⟨rfl, rfl⟩ := ret_inv h7
          obtain ⟨q1, q2, q3⟩ := Cells.sub_spec h4
          obtain ⟨vs, v1, v2, v3, v4⟩ := hatl q1
          have hF1 : Fits C tb.ng B ρ S1.heap w := by rw [e2]; exact hF
          have := grow_ok (ty := ty) (tb := tb) (S := S1) (sLen := len) (sCap := c') (olds := vs) (old := old) (d := d) (fr := 0) (sti := false) (b := b') hF1 (by rw [e3]; exact hng) h0 hst hie hz hzl hzo hA hroom v4
            (by rw [Nat.mul_comm]; exact b1) b2 (by rw [q2]; exact v2) hd q3 hdw v3 hd1 v1 hdl h6 (by rw [e3]; exact hfree)
          obtain ⟨ρ', y, w', t1, t2, t3, t4, t5⟩ := this
          exact ⟨ρ', y, w', t1, t2, t3, by rw [← e3]; exact t4, t5⟩
      | true =>
        simp only [cond_true] at h3
        obtain ⟨hc, h4⟩ := cond_inv h3
        simp only [Bool.and_eq_true] at hc
        obtain ⟨⟨⟨c1, c2⟩, c3⟩, c4⟩ := hc
        have c2 := beq_inv c2
        have c3 : o = cap * ie.size := beq_inv c3
        have c4 : k.fr ≤ o + len * ie.size := Nat.le_of_ble_eq_true c4
        obtain ⟨g1, g2, g3, g4⟩ := hk.grown c1
        simp only [Rel] at hs
        obtain ⟨rr', a', hr', hle', heq, hadr⟩ := hs
        rw [hr] at hr'; injection hr' with hr'; subst hr'
        simp only [Value.slice.injEq, Option.some.injEq, true_and] at heq
        obtain ⟨rfl, rfl⟩ := heq
        have hes : rr.es = ie.size := by rw [g4, c2]
        rw [hes] at g1 g2
        have hBB : ¬ rr.blk < B := fun hB => by have := (hk.old hB).2.2; rw [c1] at this; cases this
        cases hm : Nat.ble (Nat.mul (Nat.add cap (Nat.add len n)) ie.size) k.m with
        | true =>
          rw [hm, cond_true] at h4
          have hm : (cap + (len + n)) * ie.size ≤ k.m := Nat.le_of_ble_eq_true hm
          obtain ⟨cc, h5, h6⟩ := lb h4
          obtain ⟨u, S2, h7, h8⟩ := bnd_inv h6
          obtain ⟨rfl, rfl⟩ := ret_inv h8
          obtain ⟨u1, u2, u3, u4⟩ := upd_inv h7
          have hmm : (cap + (len + n)) * ie.size = cap * ie.size + len * ie.size + n * ie.size := by rw [← Nat.add_assoc, Nat.add_mul, Nat.add_mul]
          have hcapl : cap + (len + n) ≤ rr.cap := Nat.le_of_mul_le_mul_right (Nat.le_trans hm g2) (by omega)
          have hadr' : a = ⟨rr.blk, rr.base + o, none⟩ := by
            rcases hadr with h | ⟨_, h⟩
            · exact h
            · omega
          obtain ⟨w', i1, i2, i3⟩ := inplace cc h5 c4 (by omega) (fun _ => by omega) (fun hB => absurd hB hBB) hadr' (by omega) u2
          refine ⟨ρ, _, w', i1, ?_, by rw [u3, e2]; exact i2, Ext.refl _ _ _, i3⟩
          simp only [Rel]
          exact ⟨rr, a, hr, hcapl, rfl, .inl hadr'⟩
        | false =>
          rw [hm, cond_false] at h4
          obtain ⟨old, h5, h6⟩ := lb h4
          obtain ⟨u, S2, h7, h8⟩ := bnd_inv h6
          obtain ⟨b', S3, h9, h10⟩ := bnd_inv h8
          obtain ⟨hke, h11⟩ := cond_inv h10
          have hke := beq_inv hke
          obtain ⟨rfl, rfl⟩ := ret_inv h11
          obtain ⟨u1, u2, u3, u4⟩ := kill_inv h7
          obtain ⟨q1, q2, q3⟩ := Cells.sub_spec h5
          obtain ⟨vs, v1, v2, v3, v4⟩ := hatl q1
          have hF2 : Fits C tb.ng B ρ S2.heap w := by rw [u3, e2]; exact hF.del u2
          have hn2 : S2.next = S.next := by rw [u4, e3]
          by_cases hroom : len + n ≤ rr.cap - cap
          · -- it stays where it is
            have q2 : old.toL = (k.c.toL.drop o).take (len * ie.size) := q2
            have hadr' : a = ⟨rr.blk, rr.base + o, none⟩ := by
              rcases hadr with h | ⟨_, h⟩
              · exact h
              · omega
            have hcapl : cap + (len + n) ≤ rr.cap := by omega
            have hmul : (cap + (len + n)) * ie.size ≤ rr.cap * ie.size := Nat.mul_le_mul_right _ hcapl
            have hmm : (cap + (len + n)) * ie.size = cap * ie.size + len * ie.size + n * ie.size := by rw [← Nat.add_assoc, Nat.add_mul, Nat.add_mul]
            have hrun := run_lay C.P rr.blk k.e fz (rr.base + (o + len * ie.size)) news 0 arr w hbk (fun y hy hys => hk.cold y (by omega) hys) (by rw [hdl]; omega) hd1
            simp only [Nat.add_zero] at hrun
            obtain ⟨a1, a2⟩ := Cells.app_spec q3 hdw
            have hAl : (layV arr.toList (rr.base + (o + len * ie.size)) news).toArray.size = arr.size := by
              simp only [List.size_toArray]; rw [layV_length _ _ _ (by rw [hdl]; simp; omega)]; simp
            obtain ⟨n1, n2, n3, n4⟩ := new_inv h9
            rw [hn2] at n2
            have hfn : ρ S.next = none := hfree _ (Nat.le_refl _) (by omega)
            have hol : old.len = len * ie.size := by rw [Cells.len_eq, q2, ← v2.len]; exact v1
            have hcl : (old.app d).len = (len + n) * ie.size := by
              rw [Cells.len_eq, a1, List.length_append, ← Cells.len_eq, hol, ← hd.len, hdl, Nat.add_mul]
            have hbase : cap * ie.size + (rr.cap - cap) * ie.size = rr.cap * ie.size := by rw [← Nat.add_mul, Nat.add_sub_cancel' (Nat.le_trans (Nat.le_add_right _ _) hcapl)]
            have hln : (len + n) * ie.size = len * ie.size + n * ie.size := Nat.add_mul _ _ _
            have hgetA : ∀ j, (layV arr.toList (rr.base + (o + len * ie.size)) news).toArray[rr.base + o + j]? = if j < len * ie.size then arr[rr.base + o + j]? else if j < len * ie.size + news.length then news[j - len * ie.size]? else arr[rr.base + o + j]? := fun j => by
              rw [List.getElem?_toArray, layV_get _ _ _ _ (by rw [hdl]; simp; omega)]
              simp only [Array.getElem?_toList]
              by_cases e1' : j < len * ie.size
              · rw [if_pos e1', if_pos (by omega)]
              · rw [if_neg e1', if_neg (by omega)]
                by_cases e2' : j < len * ie.size + news.length
                · rw [if_pos e2', if_pos (by omega)]; congr 1; omega
                · rw [if_neg e2', if_neg (by omega)]
            have hba : BlkAt C ρ B ⟨k.e, old.app d, Nat.mul (Nat.add len n) ie.size, ie.size, Nat.sub k.fr o, k.st, true⟩ ⟨rr.blk, rr.base + o, rr.cap - cap, ie.size⟩ (layV arr.toList (rr.base + (o + len * ie.size)) news).toArray fz := by
              constructor
              · refine ⟨a2, fun j y hj => ?_⟩
                simp only [] at hj ⊢
                rw [a1, List.getElem?_append, ← Cells.len_eq, hol] at hj
                rw [hgetA j]
                split at hj
                · rename_i e1'
                  rw [if_pos e1']
                  rw [q2, List.getElem?_take, if_pos (by exact e1'), List.getElem?_drop] at hj
                  have := hk.cells.2 (o + j) y hj
                  rwa [← Nat.add_assoc] at this
                · rename_i e1'
                  rw [if_neg e1']
                  obtain ⟨xx, hx1, hx2⟩ := hd.get hj
                  have hlt : j - len * ie.size < news.length := by
                    rcases Nat.lt_or_ge (j - len * ie.size) news.length with h | h
                    · exact h
                    · rw [List.getElem?_eq_none h] at hx1; cases hx1
                  rw [if_pos (by omega)]
                  exact ⟨xx, hx1, hx2, hd1 xx (List.mem_of_getElem? hx1)⟩
              · intro _
                refine ⟨?_, ?_, ?_, rfl⟩
                · rw [hAl]; show rr.base + o + (rr.cap - cap) * ie.size = arr.size; omega
                · show (len + n) * ie.size ≤ (rr.cap - cap) * ie.size; exact Nat.mul_le_mul_right _ hroom
                · show (old.app d).len ≤ (len + n) * ie.size; omega
              · intro y hy1 hy2
                rw [hAl] at hy2
                have hy1 : rr.base + o + (k.fr - o) ≤ y := hy1
                exact hk.cold y (by omega) hy2
              · intro hst'
                rcases hk.plain hst' with h | h
                · exact .inl h
                · right; show fz.2 ≤ rr.base + o + (k.fr - o); omega
              · intro hB; exact absurd hB hBB
              · rw [hAl]; show rr.base + o + (old.app d).len ≤ arr.size; rw [hcl]; omega
              · intro h; cases h
            have hmv := hF.move (k' := ⟨k.e, old.app d, Nat.mul (Nat.add len n) ie.size, ie.size, Nat.sub k.fr o, k.st, true⟩) e1 hr u2 n2 hfn hba rfl (setRow_heap w rr.blk arr _ k.e fz hbk) (fun b hb' => setRow_other w _ _ _ hb') (by simp) (fun b hb' => setRow_other w _ _ _ (by omega))
            refine ⟨put1 ρ S.next ⟨rr.blk, rr.base + o, rr.cap - cap, ie.size⟩, .slice (some a) (len + n) (rr.cap - cap), w.setRow rr.blk (layV arr.toList (rr.base + (o + len * ie.size)) news).toArray, ?_, ?_, ?_, ?_, Below.row (by omega)⟩
            · rw [app_room (ty := ty) h0 hst hie hA hroom, hadr', Addr.add_lit]
              have : (⟨rr.blk, rr.base + o + len * ie.size, none⟩ : Addr) = ⟨rr.blk, rr.base + (o + len * ie.size), none⟩ := by rw [Nat.add_assoc]
              rw [this, hrun]; rfl
            · simp only [Rel]
              refine ⟨⟨rr.blk, rr.base + o, rr.cap - cap, ie.size⟩, a, ?_, ?_, rfl, .inl ?_⟩
              · rw [n1, hn2]; simp [put1]
              · show 0 + (len + n) ≤ rr.cap - cap; omega
              · rw [hadr']; rfl
            · rw [n3, hn2, u3, e2]; exact hmv
            · rw [n4, hn2]; exact put1_ext _ _ _
          · have hroom' : rr.cap - cap < len + n := by omega
            have hnew : new ⟨e, old.app d, (len + n) * ie.size, ie.size, Nat.sub k.fr o, k.st, true⟩ S2 = some (b', S') := by rw [← hke]; exact h9
            have := grow_ok (ty := ty) (tb := tb) (S := S2) (sLen := len) (sCap := rr.cap - cap) (olds := vs) (old := old) (d := d) (fr := Nat.sub k.fr o) (sti := k.st) (b := b') hF2 (by rw [hn2]; exact hng) h0 hst hie hz hzl hzo hA hroom' v4
              (by rw [Nat.mul_comm]; exact b1) b2 (by rw [q2]; exact v2) hd q3 hdw v3 hd1 v1 hdl hnew (by rw [hn2]; exact hfree)
            obtain ⟨ρ', y, w', t1, t2, t3, t4, t5⟩ := this
            exact ⟨ρ', y, w', t1, t2, t3, by rw [← hn2]; exact t4, t5⟩
end
end Go.AX
