/- A part of the proof: an interpreter of the model's own code on partly known states, and that what it answers is what the program answers. No condition of its own. -/
import Derived.Test.YtipdlfkjablekaaDoorR1PathBackO2
set_option maxRecDepth 100000
set_option linter.unusedVariables false
set_option linter.unusedSimpArgs false
set_option maxHeartbeats 4000000
namespace Go.Proofs.YtipdlfkjablekaaDoor.pathBack
open Go Go.AX Go.Proofs Go.Proofs.YtipdlfkjablekaaDoor
variable {nu : Nat → Value} {one : ∀ i, i < 1000000 → (nu i).oneCell' = true} {E' : Cx} {x' : Ex} {e' : LA} {h' : LE}
def stM (r : LB) (k : LL) : LB := if dcS r = none then dcM r else mOut
section
variable {f : LB} {o : LL}
theorem dc_ne (h : ¬ dcS f = none) : decG unS f = some ((dcS f).getD []) := by
  cases e : decG unS f with
  | none => exact absurd e h
  | some t => show _ = some ((decG unS f).getD []); rw [e]; rfl
theorem st_bad (h : dcS f = none) : stpG unS f o = none ∧ stM f o = dcM f := ⟨by unfold stpG; rw [show decG unS f = none from h], if_pos h⟩
theorem st_out (h : ¬ dcS f = none) (h1 : (dcS f).getD [] = [u8 46, u8 46]) (h2 : o = []) : stpG unS f o = none ∧ stM f o = mOut := by
  subst h2
  refine ⟨?_, if_neg h⟩
  unfold stpG; rw [dc_ne h, h1]; rfl
theorem st_pop (h : ¬ dcS f = none) (h1 : (dcS f).getD [] = [u8 46, u8 46]) (h2 : ¬ (o.length : Int) = 0) : stpG unS f o = some (o.take (Int.toNat ((o.length : Int) - 1))) ∧ kpB unS f = false := by
  have e : o.take (Int.toNat ((o.length : Int) - 1)) = o.dropLast := by rw [List.dropLast_eq_take]; congr 1; omega
  have hne : o ≠ [] := fun e => h2 (by rw [e]; rfl)
  unfold stpG kpB
  rw [dc_ne h, h1, e]
  exact ⟨by simp only [show ddB [u8 46, u8 46] = true by decide, if_true]; rw [if_neg hne], rfl⟩
theorem st_ps (h : ¬ dcS f = none) (h1 : ((dcS f).getD []).length = 0 ∨ (dcS f).getD [] = [u8 46]) : stpG unS f o = some o ∧ kpB unS f = false ∧ (psB ((dcS f).getD []) || ddB ((dcS f).getD [])) = true := by
  have h2 : (dcS f).getD [] = [] ∨ (dcS f).getD [] = [u8 46] := h1.imp List.eq_nil_of_length_eq_zero id
  unfold stpG kpB
  rw [dc_ne h]
  rcases h2 with e | e <;> rw [e] <;> exact ⟨rfl, rfl, rfl⟩
theorem st_ap (h : ¬ dcS f = none) (h1 : ¬ (dcS f).getD [] = [u8 46, u8 46]) (h2 : ¬ ((dcS f).getD []).length = 0) (h3 : ¬ (dcS f).getD [] = [u8 46]) : stpG unS f o = some (o ++ [(dcS f).getD []]) ∧ kpB unS f = true ∧ (psB ((dcS f).getD []) || ddB ((dcS f).getD [])) = false := by
  have h4 : ¬ (dcS f).getD [] = [] := fun e => h2 (by rw [e]; rfl)
  have hd : ddB ((dcS f).getD []) = false := by unfold ddB; exact beq_eq_false_iff_ne.2 h1
  have hp : psB ((dcS f).getD []) = false := by unfold psB; rw [beq_eq_false_iff_ne.2 h4, show ((dcS f).getD [] == [46]) = false from beq_eq_false_iff_ne.2 h3]; rfl
  unfold stpG kpB
  rw [dc_ne h]
  simp only [hd, hp]
  exact ⟨by simp, rfl, rfl⟩
end
section
variable {r : LB} {o To k' : LL} {Tr M : LB} {X : Option (LL × LB)} {A B : Bool}
theorem one_e (he : [u8 47] = r) : idxB r 47 = 0 := by subst he; rfl
theorem dc_0 (r : LB) : ¬ dcS (List.take (Int.toNat (0)) r) = none ∧ ¬ ((dcS (List.take (Int.toNat (0)) r)).getD []) = [u8 46, u8 46] ∧ ((dcS (List.take (Int.toNat (0)) r)).getD []).length = 0 := by
  have e : List.take (Int.toNat (0)) r = [] := rfl
  have h : dcS [] = some [] := by unfold dcS decG; rw [un_nil rfl]; rfl
  rw [e, h]; exact ⟨by simp, by simp, rfl⟩
theorem ex_r (h1 : X = some (o, r)) (h2 : X = some (To, Tr)) : o = To ∧ r = Tr := by
  rw [h1] at h2; injection h2 with h; injection h with h3 h4; exact ⟨h3, h4⟩
theorem cl_0 (he : [u8 47] = r) (h : stpG unS (List.take (Int.toNat (0)) r) o = some k') (h1 : clL unS (sp47 [] r) o = X) (h2 : clE unS stM (sp47 [] r) o = M) : clL unS (sp47 [] (List.drop (Int.toNat (1)) r)) k' = X ∧ clE unS stM (sp47 [] (List.drop (Int.toNat (1)) r)) k' = M := by
  have hq := one_e he
  have h' : stpG unS (List.take (idxB r 47).toNat r) o = some k' := by rw [hq]; exact h
  have a := cl_go (by omega) h' h1; have b := ce_go (by omega) h' h2
  rw [hq] at a b; exact ⟨a, b⟩
theorem ap_0 (he : [u8 47] = r) (hk : kpB unS (List.take (Int.toNat (0)) r) = false) (h1 : (A || apL unS (sp47 [] r)) = B) : (A || apL unS (sp47 [] (List.drop (Int.toNat (1)) r))) = B := by
  have hq := one_e he
  have a := ap_no (by omega) (by rw [hq]; exact hk) h1
  rw [hq] at a; exact a
theorem sg_e (he : [u8 47] = r) (h1 : o ++ sgL (sp47 [] r) = To) (h2 : lsP (sp47 [] r) = Tr) : o ++ sgL (sp47 [] (List.drop (Int.toNat (1)) r)) = To ∧ lsP (sp47 [] (List.drop (Int.toNat (1)) r)) = Tr := by
  have hq := one_e he
  have a := sg_0 (by omega) (by rw [hq]; rfl) h1; have b := sg_l (by omega) h2
  rw [hq] at a b; exact ⟨a, b⟩
theorem tk0 (h : idxB r 47 = 0) : r.take (idxB r 47).toNat = [] := by rw [h]; rfl
theorem tkn (h : ¬ idxB r 47 = 0) (h1 : ¬ idxB r 47 < 0) : ¬ r.take (idxB r 47).toNat = [] := fun e => by
  have := congrArg List.length e; rw [List.length_take] at this; have := ix_bd r 47; simp only [List.length_nil] at *; omega
end
theorem cl_ap : ∀ (rs : LL) (o : LL × LB), apL unS rs = false → clL unS rs [] = some o → o.1 = []
  | [], o, _, e => by simp only [clL, Option.some.injEq] at e; subst e; rfl
  | r :: rs, o, h, e => by
    rw [clL] at e
    rw [apL] at h
    split at e
    · simp only [Option.some.injEq] at e; subst e; rfl
    · rename_i hr
      rw [if_neg hr, Bool.or_eq_false_iff] at h
      split at e
      · cases e
      · rename_i k' hk
        have : k' = [] := by
          have h1 := h.1
          unfold stpG at hk; unfold kpB at h1
          split at hk
          · cases hk
          · rename_i p hp
            rw [hp] at h1
            split at hk
            · rw [if_pos rfl] at hk; cases hk
            · split at hk
              · injection hk with hk; exact hk.symm
              · rename_i a b
                simp only [Bool.not_eq_true] at a b
                simp only [a, b] at h1; exact absurd h1 (by decide)
        subst this
        exact cl_ap rs o h.2 e
def cT (s : LB) : LL × LB := (clL unS (sp47 [] s) []).getD ([], [])
theorem cT_some {s : LB} (h : ¬ clL unS (sp47 [] s) [] = none) : clL unS (sp47 [] s) [] = some ((cT s).1, (cT s).2) := by
  unfold cT
  cases e : clL unS (sp47 [] s) [] with
  | none => exact absurd e h
  | some o => rfl
theorem cT_nil {s : LB} (h : ¬ clL unS (sp47 [] s) [] = none) (ha : apL unS (sp47 [] s) = false) : (cT s).1 = [] := cl_ap _ _ ha (cT_some h)
theorem cT_nils {s : LB} (h : ¬ clL unS (sp47 [] s) [] = none) (ha : apL unS (sp47 [] s) = false) : clL unS (sp47 [] s) [] = some ([], (cT s).2) := by have e := cT_some h; rw [cT_nil h ha] at e; exact e
theorem un_le {r p : LB} (h : unS r = some p) : p.length ≤ r.length := (unS_len h).1
theorem fl_len : ∀ k : LL, k.length ≤ (fl47 k).length
  | [] => Nat.le_refl _
  | a :: k => by have := fl_len k; simp only [fl47, List.length_cons, List.length_append]; omega
theorem cT_fl (s : LB) : (fl47 (cT s).1).length + (cT s).2.length ≤ s.length ∧ (cT s).1.length ≤ (fl47 (cT s).1).length := by
  refine ⟨?_, fl_len _⟩
  by_cases h : clL unS (sp47 [] s) [] = none
  · unfold cT; rw [h]; simp [fl47]
  · have := clL_len (un := unS) (fun r p => un_le) _ _ _ (sp_ne _ _) (cT_some h)
    rw [tot_sp] at this; simp only [fl47, List.length_nil] at this; omega
theorem jn1 (k : LL) : (join47 k).length ≤ (fl47 k).length := by
  cases k with
  | nil => exact Nat.le_refl _
  | cons a r => simp only [join47, fl47, List.length_cons, List.length_append]; omega
theorem fl_ap (k : LL) (a : LB) : (fl47 (k ++ [a])).length = (fl47 k).length + a.length + 1 := by
  rw [flat_app]; simp only [fl47, List.length_cons, List.length_append, List.length_nil]; omega
theorem fl_tk (k : LL) (n : Nat) : (fl47 (k.take n)).length ≤ (fl47 k).length := by
  have e : k = k.take n ++ k.drop n := (List.take_append_drop n k).symm
  conv => rhs; rw [e, flat_app]
  rw [List.length_append]; omega
-- what is put out
def clnM (s : LB) : LB := if ¬ s.head? = some 47 then mHd else if clL unS (sp47 [] s) [] = none then clE unS stM (sp47 [] s) [] else stM (cT s).2 (cT s).1
section
variable {s : LB} {k' : LL}
theorem hd_1 (h : ¬ (s.length : Int) < 1) : List.take (Int.toNat (1)) s = [u8 (bt s 0)] := by
  cases s with
  | nil => simp at h
  | cons a r => show [a] = [u8 (a.toNat : Int)]; unfold u8; simp
theorem hd_y (h : List.take (Int.toNat (1)) s = [u8 47]) : s.head? = some 47 := by
  cases s with
  | nil => simp at h
  | cons a r => have h : [a] = [u8 47] := h; injection h with h; subst h; rfl
theorem hd_n (h : (s.length : Int) < 1 ∨ ¬ List.take (Int.toNat (1)) s = [u8 47]) : ¬ s.head? = some 47 := by
  cases s with
  | nil => simp
  | cons a r =>
    rcases h with h | h
    · simp only [List.length_cons] at h; omega
    · intro e
      have e : some a = some 47 := e
      injection e with e; subst e; exact h rfl
theorem cn_hd (h : (s.length : Int) < 1 ∨ ¬ List.take (Int.toNat (1)) s = [u8 47]) : cleanG unS s = none ∧ clnM s = mHd := by
  have := hd_n h
  exact ⟨by unfold cleanG; rw [if_neg this], if_pos this⟩
theorem cn_cl (hh : List.take (Int.toNat (1)) s = [u8 47]) (h : clL unS (sp47 [] s) [] = none) : cleanG unS s = none ∧ clnM s = clE unS stM (sp47 [] s) [] := by
  have := hd_y hh
  exact ⟨by unfold cleanG; rw [if_pos this, h], by unfold clnM; rw [if_neg (not_not_intro this), if_pos h]⟩
theorem cn_st (hh : List.take (Int.toNat (1)) s = [u8 47]) (h : ¬ clL unS (sp47 [] s) [] = none) (hs : stpG unS (cT s).2 (cT s).1 = none) : cleanG unS s = none ∧ clnM s = stM (cT s).2 (cT s).1 := by
  have := hd_y hh
  exact ⟨by unfold cleanG; rw [if_pos this, cT_some h]; simp only [hs], by unfold clnM; rw [if_neg (not_not_intro this), if_neg h]⟩
theorem cn_ok (hh : List.take (Int.toNat (1)) s = [u8 47]) (h : ¬ clL unS (sp47 [] s) [] = none) (hs : stpG unS (cT s).2 (cT s).1 = some k') : cleanG unS s = some (outS (k', (dcS (cT s).2).getD [])) := by
  unfold cleanG; rw [if_pos (hd_y hh), cT_some h]; simp only [hs]
theorem ou_n {t : LB} : outS ([], t) = [u8 47] := rfl
theorem ou_0 {t : LB} (h : (psB t || ddB t) = false) : outS (k', t) = [u8 47] ++ join47 k' := by unfold outS; rw [if_neg (by rw [h]; simp), List.append_nil]; rfl
theorem ou_1 {t : LB} (hk : ¬ (k'.length : Int) = 0) (h : (psB t || ddB t) = true) : outS (k', t) = [u8 47] ++ (join47 k' ++ [u8 47]) := by
  unfold outS; rw [if_pos ⟨fun e => hk (by have e : k' = [] := e; rw [e]; rfl), h⟩]; rfl
theorem ou_z {t : LB} (hk : (k'.length : Int) = 0) : outS (k', t) = [u8 47] ++ join47 k' := by
  have : k' = [] := List.eq_nil_of_length_eq_zero (by omega)
  rw [this]; rfl
theorem dd_f {t : LB} (h : t = [u8 46, u8 46]) : t.length = 2 ∧ ¬ t = [u8 46] := by subst h; exact ⟨rfl, by decide⟩
theorem dd_y {t : LB} (h : t = [u8 46, u8 46]) : (psB t || ddB t) = true := by rw [h]; rfl
end
theorem exFIx : Tryd.prog.funcs[46]? = some Tryd.f46 := Tryd.func46
theorem exAIx : (Extern.findNext Tryd.f46).isNone = true := by kernel_rfl
theorem exBIx : Extern.find Tryd.f46 = some Extern.BytealgIndexByte.indexByte := by kernel_rfl
section
open Go.Shelf
def sh_sJ_ren : Go.Shelf.Ren := ⟨fun | 156 => 16 | 165 => 26 | 166 => 27 | 169 => 28 | 240 => 34 | 241 => 35 | 276 => 39 | 277 => 40 | n => n, fun | 31 => 28 | 9 => 9 | 3 => 3 | 4 => 4 | 0 => 0 | 20 => 20 | 72 => 52 | 76 => 54 | 70 => 50 | 37 => 42 | 75 => 24 | 127 => 74 | 164 => 77 | 5 => 5 | 80 => 56 | n => n, fun | n => n⟩
theorem sh_sJ : Go.Proofs.Lays.n156 Tryd.prog sh_sJ_ren := {
  mixed := by kernel_rfl
  f156 := Tryd.func16.trans (congrArg some (by kernel_rfl))
  f165 := Tryd.func26.trans (congrArg some (by kernel_rfl))
  f166 := Tryd.func27.trans (congrArg some (by kernel_rfl))
  f169 := Tryd.func28.trans (congrArg some (by kernel_rfl))
  f240 := Tryd.func34.trans (congrArg some (by kernel_rfl))
  f241 := Tryd.func35.trans (congrArg some (by kernel_rfl))
  f276 := Tryd.func39.trans (congrArg some (by kernel_rfl))
  f277 := Tryd.func40.trans (congrArg some (by kernel_rfl))
  t0 := Tryd.underlying0
  a0 := Tryd.isAgg0
  z0 := Tryd.sizeOf0
  v0 := Tryd.zeroValue0
  t3 := Tryd.underlying3
  a3 := Tryd.isAgg3
  z3 := Tryd.sizeOf3
  v3 := Tryd.zeroValue3
  t4 := Tryd.underlying4
  a4 := Tryd.isAgg4
  z4 := Tryd.sizeOf4
  v4 := Tryd.zeroValue4
  t9 := Tryd.underlying9
  a9 := Tryd.isAgg9
  z9 := Tryd.sizeOf9
  v9 := Tryd.zeroValue9
  t20 := Tryd.underlying20
  a20 := Tryd.isAgg20
  z20 := Tryd.sizeOf20
  v20 := Tryd.zeroValue20
  t31 := Tryd.underlying28
  a31 := Tryd.isAgg28
  z31 := Tryd.sizeOf28
  v31 := Tryd.zeroValue28
  t37 := Tryd.underlying42
  a37 := Tryd.isAgg42
  z37 := Tryd.sizeOf42
  v37 := Tryd.zeroValue42
  t70 := Tryd.underlying50
  a70 := Tryd.isAgg50
  z70 := Tryd.sizeOf50
  v70 := Tryd.zeroValue50
  t72 := Tryd.underlying52
  a72 := Tryd.isAgg52
  z72 := Tryd.sizeOf52
  v72 := Tryd.zeroValue52
  t75 := Tryd.underlying24
  a75 := Tryd.isAgg24
  z75 := Tryd.sizeOf24
  v75 := Tryd.zeroValue24
  t76 := Tryd.underlying54
  a76 := Tryd.isAgg54
  z76 := Tryd.sizeOf54
  v76 := Tryd.zeroValue54
  t127 := Tryd.underlying74
  a127 := Tryd.isAgg74
  z127 := Tryd.sizeOf74
  v127 := Tryd.zeroValue74
  t164 := Tryd.underlying77
  a164 := Tryd.isAgg77
  z164 := Tryd.sizeOf77
  v164 := Tryd.zeroValue77 }
theorem shX_sJ : Builder.Extra Tryd.prog sh_sJ_ren := {
  sizeBuilder := by kernel_rfl
  liesBuilder := by kernel_rfl
  t5 := Tryd.underlying5
  a5 := Tryd.isAgg5
  z5 := Tryd.sizeOf5
  v5 := Tryd.zeroValue5
  infoByte := by kernel_rfl
  cellsByte := by kernel_rfl
  sizeByte := by kernel_rfl
  neB5 := by decide }
open Go.RowKit in
theorem sJ (bk o c : Nat) (xs : List ByteArray) (sep : ByteArray) (w : World) (hcells : ∀ (j : Nat) x, xs[j]? = some x → w.cell? ⟨bk, o + j, none⟩ = some (.string x)) (hbk : bk < w.heap.size) (hN : xs.length ≤ 140737488355328) (hcap : xs.length ≤ c) (hlen : (Lib.join (xs.map (·.data.toList)) sep.data.toList).length ≤ 140737488355328) :
    Calls Tryd.prog 16 #[.slice (some ⟨bk, o, none⟩) xs.length c, .string sep] w fun e w' => e = .returned (.string ⟨(Lib.join (xs.map (·.data.toList)) sep.data.toList).toArray⟩) ∧ Below w.heap.size w w' := Any.strings_Join sh_sJ shX_sJ bk o c xs sep w hcells hbk hN hcap hlen
end
theorem dl (l : LB) : (⟨l.toArray⟩ : ByteArray).data.toList = l := by simp
theorem lj_eq : ∀ K : LL, Lib.join K [47] = join47 K
  | [] => rfl
  | [a] => by rw [Lib.join_one]; simp [join47, fl47]
  | a :: b :: r => by
    have := lj_eq (b :: r)
    rw [Lib.join_cons] at this ⊢
    show a ++ (([47] ++ b) ++ Lib.joinTail [47] r) = a ++ fl47 (b :: r)
    show _ = a ++ (47 :: (b ++ fl47 r))
    have e : b ++ Lib.joinTail [47] r = b ++ fl47 r := this
    rw [List.append_assoc, e]; rfl
theorem cfJ {nu : Nat → Value} {one : ∀ i, i < 1000000 → (nu i).oneCell' = true} {l : LF} {h : LH} {v id e j : Nat} {K : LL} (hl : l.hp = some h) (hq : l.post = [(0, .x j)]) (hp : l.pre.map (·.2) = [.sr v, .s 1 47]) (hpre : h.pre = [(v, .r id e 1 false)]) (hpost : h.post = h.pre) (hn : h.n1 = h.n0)
    (hid : nu id = rwS K) (hj : nu j = St' (join47 K)) (hN : K.length ≤ 140737488355328) (hlen : (join47 K).length ≤ 140737488355328) : CfOk (cx nu one 0 laidE laidE_stab) 16 l := by
  have hm : (K.map (fun q : LB => (⟨q.toArray⟩ : ByteArray))).map (·.data.toList) = K := by rw [List.map_map]; exact (List.map_congr_left fun x _ => dl x).trans (List.map_id _)
  have hs : (⟨#[47]⟩ : ByteArray).data.toList = [47] := rfl
  refine cfJoin (xs := K.map (fun q : LB => (⟨q.toArray⟩ : ByteArray))) (sep := ⟨#[47]⟩) (out := ⟨(join47 K).toArray⟩) hl hq hp hpre hpost hn (hid.trans ?_) (fun ρ y hy => ?_) (fun ρ => ?_) fun bk o c w _ hc hb hcap => ?_
  · unfold rwS; rw [List.map_map]; rfl
  · simp only [Rel] at hy; rw [hy.1]; rfl
  · show Rel _ _ (.x j) _; simp only [Rel]; exact hj.symm
  · have := sJ bk o c (K.map (fun q : LB => (⟨q.toArray⟩ : ByteArray))) ⟨#[47]⟩ w hc hb (by rw [List.length_map]; exact hN) hcap (by rw [hm, hs, lj_eq]; exact hlen)
    rw [hm, hs, lj_eq] at this; exact this
end Go.Proofs.YtipdlfkjablekaaDoor.pathBack
