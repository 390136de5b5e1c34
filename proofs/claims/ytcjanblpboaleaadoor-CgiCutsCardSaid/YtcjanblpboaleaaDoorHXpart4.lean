/- A part of the proof: what an interpreter answers on partly known states is what the program answers. No condition. -/
import Derived.Test.YtcjanblpboaleaaDoorHXpart3
import Derived.ChangeSame
import Derived.Lib.Bytealg
import Derived.OpenShut
import Derived.ChangeArms
set_option linter.unusedSimpArgs false
set_option linter.unusedVariables false
section
namespace Go.AX
def tl {α : Type} : T α → Nat → Nat → List (Nat × α)
 | .leaf, _, _ => []
 | .node v l r, s, m => (match v with | some x => [(s, x)] | none => []) ++ (tl l (Nat.add s m) (Nat.mul 2 m) ++ tl r (Nat.add s (Nat.mul 2 m)) (Nat.mul 2 m))
theorem Bp {α : Type} : ∀ (t : T α) (s m n : Nat) (x : α), t.get n = some x → (s + m * n, x) ∈ tl t s m
 | .leaf, s, m, n, x, h => by simp [T.dH] at h
 | .node v l r, s, m, n, x, h => by
  rw [T.lq] at h
  unfold tl
  by_cases h0 : n = 0
  ·subst h0
   simp only [Nat.beq_refl, cond_true] at h
   subst h
   simp
  ·have e0 : Nat.beq n 0 = false := by
    cases hb : Nat.beq n 0 with
    | false => rfl
    | true => exact absurd (Nat.eq_of_beq_eq_true hb) h0
   rw [e0, cond_false] at h
   have hmd : Nat.mod n 2 = n % 2 := rfl
   have hdv : Nat.div n 2 = n / 2 := rfl
   rw [hmd, hdv] at h
   refine List.mem_append_right _ ?_
   cases hm : Nat.beq (n % 2) 1 with
   | true =>
    rw [hm, cond_true] at h
    have h1 := Nat.eq_of_beq_eq_true hm
    refine List.mem_append_left _ ?_
    have := Bp l (Nat.add s m) (Nat.mul 2 m) (n / 2) x h
    have e : Nat.add s m + Nat.mul 2 m * (n / 2) = s + m * n := by
     show s + m + 2 * m * (n / 2) = _
     have : n = 2 * (n / 2) + 1 := by omega
     generalize n / 2 = q at this
     subst this
     rw [Nat.mul_add, Nat.mul_one, ← Nat.mul_assoc, Nat.mul_comm 2 m]; omega
    rw [e] at this; exact this
   | false =>
    rw [hm, cond_false] at h
    have h1 : n % 2 = 0 := by
     have : n % 2 ≠ 1 := fun e => by rw [e] at hm; cases hm
     omega
    have hsb : Nat.sub (n / 2) 1 = n / 2 - 1 := rfl
    rw [hsb] at h
    refine List.mem_append_right _ ?_
    have := Bp r (Nat.add s (Nat.mul 2 m)) (Nat.mul 2 m) (n / 2 - 1) x h
    have e : Nat.add s (Nat.mul 2 m) + Nat.mul 2 m * (n / 2 - 1) = s + m * n := by
     show s + 2 * m + 2 * m * (n / 2 - 1) = _
     have : n = 2 * (n / 2 - 1) + 2 := by omega
     generalize n / 2 - 1 = q at this
     subst this
     rw [Nat.mul_add, ← Nat.mul_assoc, Nat.mul_comm 2 m, Nat.mul_comm m 2]; omega
    rw [e] at this; exact this
theorem o6 {α : Type} {t : T α} {n : Nat} {x : α} (h : t.get n = some x) : (n, x) ∈ tl t 0 1 := by
 have := Bp t 0 1 n x h
 rwa [Nat.zero_add, Nat.one_mul] at this
theorem sf {α β : Type} {f g : α → β} : ∀ {l : List α}, l.map f = l.map g → ∀ x ∈ l, f x = g x
 | [], _, x, hx => by simp at hx
 | a :: l, h, x, hx => by
  simp only [List.map_cons, List.cons.injEq] at h
  rcases List.mem_cons.1 hx with e | e
  ·rw [e]; exact h.1
  ·exact sf h.2 x e
/- what is asked of a seat's tables -/
def TyEq (P : Program) (tb : Tab) : Prop := (tl tb.ty 0 1).map (fun p => some p.2) = (tl tb.ty 0 1).map fun p => (P.info? p.1).map (dU P p.1)
def zC (P : Program) (t d : Nat) : Option Bool := match P.underlying t, P.info? d with
 | some (.interface want), some i => some (Instr.missingMethod want i.methods).isNone
 | _, _ => none
def BB (P : Program) (tb : Tab) : Prop := tb.imp.map (fun p => some p.2.2) = tb.imp.map fun p => zC P p.1 p.2.1
def FnEq (P : Program) (tb : Tab) : Prop := (tl tb.fn 0 1).map (fun p => some (p.2.body, p.2.ntmps, p.2.res)) = (tl tb.fn 0 1).map fun p => (P.funcs[p.1]?).map fun fn => (fn.body, fn.ntmps, fn.results.toList)
noncomputable def fnChk (P : Program) (tb : Tab) : Bool := (tl tb.fn 0 1).all fun p => match P.funcs[p.1]? with
 | some fn => !(fn.name == "runtime.NumGoroutine") && (match p.2.body with | some c => codeOk c | none => true) && p.2.sum.isNone && p.2.lps.isEmpty
 | none => false
def qn (P : Program) (t : Nat) (m : String) (g : Nat) : Prop := ∀ (x : Value) (w : World), (method (P.types.size + Made.depth) t x m).run P w = .ok (g, x) w
theorem zB : ∀ (l : List (Nat × Nat × Bool)) (t d : Nat) (r : Bool), impl l t d = some r → (t, d, r) ∈ l
 | [], _, _, _, h => by simp [impl] at h
 | (a, b, q) :: l, t, d, r, h => by
  unfold impl at h
  cases hc : (Nat.beq a t && Nat.beq b d) with
  | true =>
   rw [hc, cond_true] at h; injection h with h; subst h
   rw [Bool.and_eq_true] at hc
   have e1 := Nat.eq_of_beq_eq_true hc.1
   have e2 := Nat.eq_of_beq_eq_true hc.2
   subst e1; subst e2; exact List.mem_cons_self ..
  | false => rw [hc, cond_false] at h; exact List.mem_cons_of_mem _ (zB l t d r h)
theorem aE9 : ∀ (l : List (Nat × String × Nat × Bool)) (t : Nat) (m : String) (r : Nat × Bool), oA l t m = some r → (t, m, r) ∈ l
 | [], _, _, _, h => by simp [oA] at h
 | (a, b, q) :: l, t, m, r, h => by
  unfold oA at h
  cases hc : (Nat.beq a t && b == m) with
  | true =>
   rw [hc, cond_true] at h; injection h with h; subst h
   rw [Bool.and_eq_true] at hc
   have e1 := Nat.eq_of_beq_eq_true hc.1
   have e2 := eq_of_beq hc.2
   subst e1; subst e2; exact List.mem_cons_self ..
  | false => rw [hc, cond_false] at h; exact List.mem_cons_of_mem _ (aE9 l t m r h)
noncomputable def addSum (tb : Tab) (g : Nat) (fi : FI) (v : AV) : Tab := { tb with fn := tb.fn.set g { fi with sum := some v } }
theorem aq.sum {C : Cx} {tb : Tab} (h : aq C tb) {g : Nat} {fi : FI} {v : AV} (hg : g ≤ 16777213) (hfi : tb.fn.get g = some fi) (hb : fi.body.isSome = true) (hs : Gd C g v) : aq C (addSum tb g fi v) where
 tab := ⟨⟨h.tab.ty⟩, ⟨h.tab.hyp⟩, h.tab.imp, h.tab.ngl⟩
 met := h.met
 mix := h.mix
 fn := fun g' fi' h' => by
  have h'' : (tb.fn.set g { fi with sum := some v }).get g' = some fi' := h'
  rw [dY _ _ _ _ hg] at h''
  split at h''
  ·rename_i e; subst e
   injection h'' with h''; subst h''
   obtain ⟨fn, hfn⟩ := h.fn _ _ hfi
   exact ⟨fn, hfn.at_, hfn.name, hfn.body, hfn.nt, hfn.res, hfn.reg, fun u hu => by
       simp only [Option.some.injEq] at hu; subst hu; exact ⟨hb, hs⟩, hfn.lps, hfn.cfs, hfn.ext⟩
  ·obtain ⟨fn, hfn⟩ := h.fn _ _ h''
   exact ⟨fn, hfn.at_, hfn.name, hfn.body, hfn.nt, hfn.res, hfn.reg, hfn.sum, hfn.lps, hfn.cfs, hfn.ext⟩
theorem aq.hyps {C : Cx} {tb : Tab} (h : aq C tb) {hs : List (HK × AV)} (hh : ∀ k r, (k, r) ∈ hs → aM C k r) : aq C { tb with hyp := hs } where
 tab := ⟨⟨h.tab.ty⟩, ⟨hh⟩, h.tab.imp, h.tab.ngl⟩
 met := h.met
 mix := h.mix
 fn := fun g fi hg => by
  obtain ⟨fn, hfn⟩ := h.fn g fi hg
  exact ⟨fn, hfn.at_, hfn.name, hfn.body, hfn.nt, hfn.res, hfn.reg, hfn.sum, hfn.lps, hfn.cfs, hfn.ext⟩
/- the whole run -/
def nZ (ng : Nat) : aY := fun v => if v < ng then some ⟨v, 0, 0, 0⟩ else none
end Go.AX
end
section
namespace Go.AX
open Go.ChangeShapes Go.WideShapes
theorem Below.keptBut {w w' : World} (h : Below (Fz.lt w.heap.size) w w') (may : MemPlace → Prop) : w.keptBut w' may := by
 refine World.keptBut_mono (may := fun _ => False) (fun _ f => f.elim) ⟨h.os, h.output, fun i hi => ?_⟩
 have hk := (World.keptBut_refl w (fun _ => False)).2.2 i hi
 rw [h.block i hi]; exact hk
theorem post_below {H : Type} {enc : TypeId × Value → H} {P : Program} {f : Func} {s : ChangeSpec} {apart fresh handsOn again : Bool} {W W' : World} {args : Array Value} {v : Value} {ds gs : List (DataW H)} {old pa pv : List MemPlace}
 (hW : DataW.Whole enc P f.params.toList s.vars apart W args.toList ds gs old)
 (hr : ∀ (b : Nat) (sp : Nat → Bool) (hd : Bool), DataW.TrodAll enc P W' b sp hd f.resultTypes.toList (v.resultList f.resultTypes.size) (s.fn H (ds ++ gs)).results [])
 (ha : ∀ sp : Nat → Bool, (∀ p ∈ old, sp p.block = true) → DataW.TrodAll enc P W' 0 sp true f.params.toList args.toList (s.fn H (ds ++ gs)).args pa)
 (hv : ∀ sp : Nat → Bool, (∀ p ∈ old, sp p.block = true) → DataW.TrodVars enc P W' sp s.vars (s.fn H (ds ++ gs)).vars pv)
 (hp : old = pa ++ pv) (hb : Below (Fz.lt W.heap.size) W W')
 (hok : ∀ (j : Nat) (t : TypeId) (r : Value), f.resultTypes[j]? = some t → (v.resultList f.resultTypes.size)[j]? = some r → Value.okWide P W' .any 0 t r) :
 s.post enc P f apart fresh handsOn again W args v W' := by
 have hlt : ∀ p ∈ old, decide (p.block < W.heap.size) = true := fun p h => decide_eq_true (hW.lt p h)
 have hkeep : W.keptBut W' (fun p => p ∈ old ∧ (p ∈ ([] : List MemPlace) ∨ p ∈ pa ∨ p ∈ pv)) := Below.keptBut hb _
 have hfz : ∀ p : MemPlace, p ∈ old → ∀ off, W'.frozen? ⟨p.block, off, none⟩ = W.frozen? ⟨p.block, off, none⟩ := fun p h off => by
  unfold World.frozen?
  simp only [hb.block _ (hW.lt p h)]
 refine ⟨ds, gs, old, [], pa, pv, hW, hr _ _ _, ha _ hlt, hv _ hlt, hkeep, fun _ => ?_⟩
 obtain ⟨_, _, _, _, _, hz, hn⟩ := hW
 have hpp : ([] ++ pa) ++ pv = old := by rw [hp]; rfl
 refine ⟨hok, _, _, ([] ++ pa) ++ pv, ⟨[] ++ pa, pv, trodAll_append (ha _ (fun _ _ => rfl)) (hr _ _ _), hv _ (fun _ _ => rfl), rfl, fun b off hm => ?_, fun hh => ?_⟩, fun p hm _ => ?_⟩
 ·rw [hpp] at hm
  exact (hfz _ hm off).trans (hz b off hm)
 ·rw [hpp]; exact hn hh
 ·rw [hpp] at hm; exact hm
end Go.AX
end
section
namespace Go.AX
def hasAll (want : Array (String × TypeId)) (got : Array Method) : Bool := (want.toList.filter fun x => !got.any fun m => m.name == x.1 && m.sig == x.2).isEmpty
theorem aA8 (l : List String) : (Instr.least l).isNone = l.isEmpty := by cases l <;> rfl
theorem orElse_isNone {α : Type} (a b : Option α) : (a <|> b).isNone = (a.isNone && b.isNone) := by cases a <;> rfl
theorem missing_none (want : Array (String × TypeId)) (got : Array Method) : (Instr.missingMethod want got).isNone = hasAll want got := by
 unfold Instr.missingMethod hasAll
 have key : ∀ (L : List (String × TypeId)), (Instr.least ((L.map (·.1)).partition (·.contains (Char.ofNat 46))).2 <|> Instr.least (((L.map (·.1)).partition (·.contains (Char.ofNat 46))).1.map fun id => (id.splitOn ".").getLastD id)).isNone = L.isEmpty := by
  intro L
  rw [orElse_isNone, aA8, aA8, List.partition_eq_filter_filter]
  cases L with
  | nil => rfl
  | cons x L =>
   simp only [List.map_cons, List.isEmpty_cons]
   cases hc : x.1.contains (Char.ofNat 46) with
   | true => simp [hc]; intro h1 _ h2; exact absurd h1 h2
   | false => simp [hc]; intro h1 _ h2; exact absurd h1 h2
 exact key _
def impAns' (P : Program) (t d : Nat) : Option Bool := match P.underlying t, P.info? d with
 | some (.interface want), some i => some (hasAll want i.methods)
 | _, _ => none
theorem impAns_eq (P : Program) (t d : Nat) : zC P t d = impAns' P t d := by
 unfold zC impAns'
 generalize P.underlying t = u
 generalize P.info? d = i
 cases u with
 | none => rfl
 | some u => cases u <;> first | rfl | (cases i with | none => rfl | some i => simp only [missing_none])
theorem impEq_of {P : Program} {tb : Tab} (h : tb.imp.map (fun p => some p.2.2) = tb.imp.map fun p => impAns' P p.1 p.2.1) : BB P tb := by
 unfold BB
 simp only [impAns_eq]; exact h
end Go.AX
end
section
namespace Go.AX
section
variable {C : Cx} {tb : Tab} {fn : Func}
theorem iD {α : Type} {o : Option α} (h : o.isNone = true) : o = none := by cases o with | none => rfl | some x => cases h
theorem mN {ρ : aY} {a : AV} {vs : List Value} (h : aJ C ρ [a] vs) : ∃ x, vs = [x] ∧ Rel C ρ a x := by
 simp only [aJ] at h
 obtain ⟨x, vt, rfl, h1, rfl⟩ := h; exact ⟨x, rfl, h1⟩
theorem ext5_ok (h1 : (Extern.findNext fn).isNone = true) (h2 : Extern.find fn = some Extern.ReflectliteType.typeOf) (h3 : ∀ (t : TypeId) (w : World), (Extern.ReflectliteType.toType t).run C.P w = .ok (.iface tb.rty (.agg #[typeHandle C.P t])) w) : dP C tb 5 fn := by
 refine ⟨iD h1, _, h2, fun B l S v S' ρ w args h hF aW hl hfree => ?_⟩
 match l, h, hl with
 | [x], h, hl =>
  obtain ⟨y, rfl, hy⟩ := mN hl
  simp only [ext] at h
  cases x <;> try exact (aU h).elim
  rename_i t u
  obtain ⟨rfl, rfl⟩ := aX h
  simp only [Rel] at hy
  obtain ⟨z, rfl, _⟩ := hy
  refine ⟨ρ, .iface tb.rty (.agg #[typeHandle C.P t]), w, ?_, ?_, hF, Ext.refl _ _ _, Below.refl _ _⟩
  ·exact h3 t w
  ·simp only [Rel, aJ]; exact ⟨_, rfl, _, rfl, _, _, rfl, rfl, rfl⟩
 | [], h, _ => simp only [ext] at h; exact (aU h).elim
 | _ :: _ :: _, h, _ => simp only [ext] at h; exact (aU h).elim
theorem vf {P : Program} {t : Nat} {w : World} (hp : P.packed t = false) : (Extern.ReflectliteType.ofRtype (.agg #[typeHandle P t])).run P w = .ok t w := by
 obtain ⟨s, hdef⟩ : ∃ s : String, Extern.ReflectliteType.ofRtype (.agg #[typeHandle P t]) = (do
  let u ← Extern.Rtype.ofHandle (typeHandle P t)
  Extern.Rtype.noPack s u
  pure u : Sem TypeId) := ⟨_, rfl⟩
 have e1 : (Extern.Rtype.ofHandle (typeHandle P t)).run P w = .ok t w := by
  simp [Extern.Rtype.ofHandle, handleType, typeHandle]
 have e2 : ∀ s, (Extern.Rtype.noPack s t).run P w = .ok () w := fun s => by simp [Extern.Rtype.noPack, hp]
 rw [hdef, Sem.run_bind, e1]
 simp only [Result.andThen_ok]
 rw [Sem.run_bind, e2]; rfl
theorem ext6_ok (hty : TyOk C.P tb) (h1 : (Extern.findNext fn).isNone = true)
 (h2 : Extern.find fn = some (Extern.ReflectliteType.method fun t => do Extern.Rtype.noPackHeld "Comparable" t; pure (.bool (← typeInfo t).comparable)))
 (h3 : ((tl tb.ty 0 1).all fun p => !C.P.packed p.1 && !C.P.holdsPacked C.P.depth p.1) = true) : dP C tb 6 fn := by
 refine ⟨iD h1, _, h2, fun B l S v S' ρ w args h hF aW hl hfree => ?_⟩
 have hform : ∃ t, l = [.ag [.h t]] := by
  cases l with
  | nil => simp only [ext] at h; exact (aU h).elim
  | cons a l =>
   cases l with
   | cons => simp only [ext] at h; exact (aU h).elim
   | nil =>
    cases a with
    | ag m =>
     cases m with
     | nil => simp only [ext] at h; exact (aU h).elim
     | cons c m =>
      cases m with
      | cons => simp only [ext] at h; exact (aU h).elim
      | nil =>
       cases c with
       | h t => exact ⟨t, rfl⟩
       | _ => simp only [ext] at h; exact (aU h).elim
    | _ => simp only [ext] at h; exact (aU h).elim
 obtain ⟨t, rfl⟩ := hform
 obtain ⟨y, rfl, hy⟩ := mN hl
 have h' : (bnd (aE (tb.ty.get t)) fun ti => ret (.b ti.cmp)) S = some (v, S') := h
 obtain ⟨ti, e1, h4⟩ := lb h'
 obtain ⟨rfl, rfl⟩ := aX h4
 obtain ⟨i, hi, rfl⟩ := hty.ty _ _ e1
 have hp := List.all_eq_true.1 h3 _ (o6 e1)
 simp only [Bool.and_eq_true, Bool.not_eq_true'] at hp
 simp only [Rel, aJ] at hy
 obtain ⟨cs, rfl, x, vt, rfl, rfl, rfl⟩ := hy
 refine ⟨ρ, .bool i.comparable, w, ?_, ?_, hF, Ext.refl _ _ _, Below.refl _ _⟩
 ·have hdef : Extern.ReflectliteType.method (fun t => do Extern.Rtype.noPackHeld "Comparable" t; pure (.bool (← typeInfo t).comparable)) ⟨[Value.agg ⟨[typeHandle C.P t]⟩]⟩ = (do
   let u ← Extern.ReflectliteType.ofRtype (.agg #[typeHandle C.P t])
   Extern.Rtype.noPackHeld "Comparable" u
   pure (.bool (← typeInfo u).comparable) : Sem Value) := rfl
  rw [hdef, Sem.run_bind, vf hp.1]
  simp only [Result.andThen_ok]
  have e2 : ∀ s, (Extern.Rtype.noPackHeld s t).run C.P w = .ok () w := fun s => by simp [Extern.Rtype.noPackHeld, hp.2]
  rw [Sem.run_bind, e2]
  simp only [Result.andThen_ok]
  rw [Sem.run_bind, ed hi]; rfl
 ·simp only [Rel]; rfl
end
end Go.AX
end
section
namespace Go.AX
open Go.Extern
structure kb (P : Program) (tb : Tab) : Prop where
 kd : ∀ t k, gz tb.kd t = some k → (∀ w, (Rtype.kind t).run P w = .ok k w) ∧ P.packed t = false
 el : ∀ t e, gz tb.el t = some e → (∀ w, (Rtype.elem? t).run P w = .ok (some e) w) ∧ P.packed t = false
 fD : ∀ u t r, impl tb.fD u t = some r → (∀ w, (ReflectliteType.assignableTo u t).run P w = .ok r w) ∧ P.packed u = false ∧ P.packed t = false
 im2 : ∀ u t r, impl tb.im2 u t = some r → (∀ w, (ReflectliteType.implements_ u t).run P w = .ok r w) ∧ P.packed u = false ∧ P.packed t = false
 ty : ∀ (t : TypeId) (w : World), (ReflectliteType.toType t).run P w = .ok (.iface tb.rty (.agg #[typeHandle P t])) w
section
variable {C : Cx} {tb : Tab} {fn : Func} {ρ : aY}
theorem rR {x : AV} {r : Nat × Nat × Nat × Nat} (h : rv x = some r) : x = .ag [.h r.1, .p r.2.1 r.2.2.1, .i .u64 (.ofNat r.2.2.2)] := by
 unfold rv at h
 split at h
 ·unfold rvL at h
  split at h
  ·injection h with h; subst h; rfl
  ·cases h
 ·cases h
theorem vV {x : AV} {t : Nat} (h : rh x = some t) : x = .ag [.h t] := by
 unfold rh at h
 split at h
 ·unfold rhL at h
  split at h
  ·injection h with h; subst h; rfl
  ·cases h
 ·cases h
theorem aR2 {x : AV} {t : Nat} (h : rti x = some t) : ∃ a, x = .aZ a (.ag [.h t]) := by
 unfold rti at h
 split at h
 ·exact ⟨_, by rw [vV h]⟩
 ·cases h
theorem re {t b o f : Nat} {v : Value} (h : Rel C ρ (.ag [.h t, .p b o, .i .u64 (.ofNat f)]) v) : ∃ r, ρ b = some r ∧ v = .agg #[typeHandle C.P t, .pointer (some ⟨r.blk, r.base + o, none⟩), .int .u64 (.ofNat f)] := by
 simp only [Rel, aJ] at h
 obtain ⟨cs, rfl, x, vt, rfl, hx, y, vt2, rfl, ⟨r, hr, rfl⟩, z, vt3, rfl, rfl, rfl⟩ := h
 exact ⟨r, hr, by rw [hx]⟩
theorem ri {t : Nat} {v : Value} (h : Rel C ρ (.ag [.h t]) v) : v = .agg #[typeHandle C.P t] := by
 simp only [Rel, aJ] at h
 obtain ⟨cs, rfl, x, vt, rfl, rfl, rfl⟩ := h; rfl
theorem rp {a b : AV} {vs : List Value} (h : aJ C ρ [a, b] vs) : ∃ x y, vs = [x, y] ∧ Rel C ρ a x ∧ Rel C ρ b y := by
 simp only [aJ] at h
 obtain ⟨x, vt, rfl, h1, y, vt2, rfl, h2, rfl⟩ := h; exact ⟨x, y, rfl, h1, h2⟩
theorem mkrv {t b o f : Nat} {r : R} (h : ρ b = some r) : Rel C ρ (.ag [.h t, .p b o, .i .u64 (.ofNat f)]) (.agg #[typeHandle C.P t, .pointer (some ⟨r.blk, r.base + o, none⟩), .int .u64 (.ofNat f)]) := by
 simp only [Rel, aJ]
 exact ⟨_, rfl, _, _, rfl, rfl, _, _, rfl, ⟨r, h, rfl⟩, _, _, rfl, rfl, rfl⟩
theorem mkty {t : Nat} : Rel C ρ (.aZ tb.rty (.ag [.h t])) (.iface tb.rty (.agg #[typeHandle C.P t])) := by
 simp only [Rel, aJ]
 exact ⟨_, rfl, _, rfl, _, _, rfl, rfl, rfl⟩
theorem inv7 {l : List AV} {S S' : St} {v : AV} (h : ext tb 7 l S = some (v, S')) : ∃ x, l = [x] ∧ x7 tb x S = some (v, S') := by
 match l, h with
 | [x], h => exact ⟨x, rfl, h⟩
 | [], h => simp only [ext] at h; exact (aU h).elim
 | _ :: _ :: _, h => simp only [ext] at h; exact (aU h).elim
theorem inv8 {l : List AV} {S S' : St} {v : AV} (h : ext tb 8 l S = some (v, S')) : ∃ x, l = [x] ∧ x8 tb x S = some (v, S') := by
 match l, h with
 | [x], h => exact ⟨x, rfl, h⟩
 | [], h => simp only [ext] at h; exact (aU h).elim
 | _ :: _ :: _, h => simp only [ext] at h; exact (aU h).elim
theorem inv9 {l : List AV} {S S' : St} {v : AV} (h : ext tb 9 l S = some (v, S')) : ∃ x, l = [x] ∧ x9 tb x S = some (v, S') := by
 match l, h with
 | [x], h => exact ⟨x, rfl, h⟩
 | [], h => simp only [ext] at h; exact (aU h).elim
 | _ :: _ :: _, h => simp only [ext] at h; exact (aU h).elim
theorem inv10 {l : List AV} {S S' : St} {v : AV} (h : ext tb 10 l S = some (v, S')) : ∃ x, l = [x] ∧ x10 tb x S = some (v, S') := by
 match l, h with
 | [x], h => exact ⟨x, rfl, h⟩
 | [], h => simp only [ext] at h; exact (aU h).elim
 | _ :: _ :: _, h => simp only [ext] at h; exact (aU h).elim
theorem inv11 {l : List AV} {S S' : St} {v : AV} (h : ext tb 11 l S = some (v, S')) : ∃ x, l = [x] ∧ x11 tb x S = some (v, S') := by
 match l, h with
 | [x], h => exact ⟨x, rfl, h⟩
 | [], h => simp only [ext] at h; exact (aU h).elim
 | _ :: _ :: _, h => simp only [ext] at h; exact (aU h).elim
theorem inv12 {l : List AV} {S S' : St} {v : AV} (h : ext tb 12 l S = some (v, S')) : ∃ x y, l = [x, y] ∧ x12 tb x y S = some (v, S') := by
 match l, h with
 | [x, y], h => exact ⟨x, y, rfl, h⟩
 | [], h => simp only [ext] at h; exact (aU h).elim
 | [_], h => simp only [ext] at h; exact (aU h).elim
 | _ :: _ :: _ :: _, h => simp only [ext] at h; exact (aU h).elim
theorem inv13 {l : List AV} {S S' : St} {v : AV} (h : ext tb 13 l S = some (v, S')) : ∃ x y, l = [x, y] ∧ x13 tb x y S = some (v, S') := by
 match l, h with
 | [x, y], h => exact ⟨x, y, rfl, h⟩
 | [], h => simp only [ext] at h; exact (aU h).elim
 | [_], h => simp only [ext] at h; exact (aU h).elim
 | _ :: _ :: _ :: _, h => simp only [ext] at h; exact (aU h).elim
theorem inv14 {l : List AV} {S S' : St} {v : AV} (h : ext tb 14 l S = some (v, S')) : ∃ x, l = [x] ∧ x14 tb x S = some (v, S') := by
 match l, h with
 | [x], h => exact ⟨x, rfl, h⟩
 | [], h => simp only [ext] at h; exact (aU h).elim
 | _ :: _ :: _, h => simp only [ext] at h; exact (aU h).elim
theorem inv15 {l : List AV} {S S' : St} {v : AV} (h : ext tb 15 l S = some (v, S')) : ∃ x y, l = [x, y] ∧ x15 tb x y S = some (v, S') := by
 match l, h with
 | [x, y], h => exact ⟨x, y, rfl, h⟩
 | [], h => simp only [ext] at h; exact (aU h).elim
 | [_], h => simp only [ext] at h; exact (aU h).elim
 | _ :: _ :: _ :: _, h => simp only [ext] at h; exact (aU h).elim
theorem aA6 {P : Program} {t f : Nat} {a : Addr} (hf : f ≠ 0) (w : World) : (ReflectliteValue.partsAny (.agg #[typeHandle P t, .pointer (some a), .int .u64 (.ofNat f)])).run P w = .ok (some (t, a, f)) w := by
 cases f with
 | zero => exact absurd rfl hf
 | succ f =>
  have e1 : (Rtype.ofHandle (typeHandle P t)).run P w = .ok t w := by simp [Rtype.ofHandle, handleType, typeHandle]
  have hdef : ReflectliteValue.partsAny (.agg #[typeHandle P t, .pointer (some a), .int .u64 (.ofNat (f + 1))]) = (do pure (some (← Rtype.ofHandle (typeHandle P t), a, f + 1)) : Sem (Option (TypeId × Addr × Nat))) := rfl
  rw [hdef, Sem.run_bind, e1]; rfl
theorem vY {P : Program} {t f : Nat} {a : Addr} (hf : f ≠ 0) (hp : P.packed t = false) (w : World) : (ReflectliteValue.parts (.agg #[typeHandle P t, .pointer (some a), .int .u64 (.ofNat f)])).run P w = .ok (some (t, a, f)) w := by
 unfold ReflectliteValue.parts
 rw [Sem.run_bind, aA6 hf]
 have e2 : ∀ s, (Rtype.noPack s t).run P w = .ok () w := fun s => by simp [Rtype.noPack, hp]
 simp only [Result.andThen_ok, Sem.run_bind, e2, Sem.run_pure]
theorem Cp (ht : TyOk C.P tb) {B : Fz} {S S' : St} {w : World} (hF : Fits C tb.ng B ρ S.heap w) {t b o : Nat} {r : R} (hr : ρ b = some r) {v : AV} (h : load tb t (.p b o) S = some (v, S')) :
 S'.heap = S.heap ∧ S'.next = S.next ∧ ∃ y, (loadVar t ⟨r.blk, r.base + o, none⟩).run C.P w = .ok y w ∧ Rel C ρ v y := Cq ht hF (xv := .pointer (some ⟨r.blk, r.base + o, none⟩)) (by simp only [Rel]; exact ⟨r, hr, rfl⟩) h
theorem ext7_ok (hty : TyOk C.P tb) (hr : kb C.P tb) (h1 : (Extern.findNext fn).isNone = true) (h2 : Extern.find fn = some fun args => ReflectliteValue.unpack (args.getD 0 (.tuple #[]))) : dP C tb 7 fn := by
 refine ⟨iD h1, _, h2, fun B l S v S' ρ w args h hF aW hl hfree => ?_⟩
 obtain ⟨x, rfl, h0⟩ := inv7 h
 clear h
 obtain ⟨y, rfl, hy⟩ := mN hl
 cases x <;> try exact (aU (show AX.fail S = some (v, S') from h0)).elim
 rename_i t u
 simp only [Rel] at hy
 obtain ⟨z, rfl, hz⟩ := hy
 obtain ⟨k, e1, h3⟩ := lb h0
 obtain ⟨m, e2, h4⟩ := lb h3
 obtain ⟨hs, h5⟩ := bT h4
 obtain ⟨b, S1, h6, h7⟩ := bZ h5
 obtain ⟨rfl, rfl⟩ := aX h7
 have hrel := GL e2 hz
 have hone : ∀ y ∈ z.cells.toList, y.oneCell' = true := fun y hy => by
  obtain ⟨j, hj, he⟩ := List.mem_iff_getElem.1 hy
  have hj' : j < m.length := by rw [← hrel.len]; exact hj
  obtain ⟨x', hx', hr'⟩ := hrel.get (List.getElem?_eq_getElem hj')
  rw [List.getElem?_eq_getElem hj, he] at hx'; injection hx' with hx'; subst hx'
  exact mL (List.all_eq_true.1 hs _ (List.getElem_mem hj')) hr'
 obtain ⟨ρ', w', r1, r2, r3, r4, r5, r6⟩ := Ay hF aW h6 hfree (c := .l m) trivial hrel hone
 refine ⟨ρ', _, w', ?_, mkrv (f := k + 128) r5, r2, r3, r4⟩
 show (ReflectliteValue.unpack (.iface t z)).run C.P w = _
 have hn : (newVar t z).run C.P w = .ok ⟨w.heap.size, 0, none⟩ w' := by simpa [newVar] using r1
 unfold ReflectliteValue.unpack
 simp only [Sem.run_bind, hn, Result.andThen_ok]
 have hp : (program).run C.P w' = .ok C.P w' := rfl
 simp only [ReflectliteValue.mk, Rtype.handle, Sem.run_bind, hp, Result.andThen_ok, Sem.run_pure, (hr.kd _ _ e1).1 w']
 rfl
theorem ext8_ok (hr : kb C.P tb) (h1 : (Extern.findNext fn).isNone = true) (h2 : Extern.find fn = some (ReflectliteValue.methodAny (ReflectliteValue.valueError "reflectlite.Value.Type" 0) fun t _ _ _ => ReflectliteType.toType t)) : dP C tb 8 fn := by
 refine ⟨iD h1, _, h2, fun B l S v S' ρ w args h hF aW hl hfree => ?_⟩
 obtain ⟨x, rfl, h⟩ := inv8 h
 obtain ⟨y, rfl, hy⟩ := mN hl
 obtain ⟨r, e1, h3⟩ := lb h
 obtain ⟨t, b, o, f⟩ := r
 obtain ⟨hf, h4⟩ := cond_inv' h3
 obtain ⟨rfl, rfl⟩ := aX h4
 rw [rR e1] at hy
 obtain ⟨r, hb, rfl⟩ := re hy
 refine ⟨ρ, _, w, ?_, mkty, hF, Ext.refl _ _ _, Below.refl _ _⟩
 have hf' : f ≠ 0 := fun e => by subst e; simp at hf
 show (do match ← ReflectliteValue.partsAny (.agg #[typeHandle C.P t, .pointer (some ⟨r.blk, r.base + o, none⟩), .int .u64 (.ofNat f)]) with
  | none => ReflectliteValue.valueError "reflectlite.Value.Type" 0
  | some (t, a, fl) => ReflectliteType.toType t : Sem Value).run C.P w = _
 rw [Sem.run_bind, aA6 hf']
 exact hr.ty t w
theorem rlm (z : Sem Value) (f : TypeId → Addr → Nat → Nat → Sem Value) (v : Value) :
 ReflectliteValue.method z f #[v] = (do match ← ReflectliteValue.parts v with | none => z | some (t, a, fl) => f t a fl (fl % 32)) := rfl
def isNilQ (v : Value) : Sem Value := match v with
 | .chan none | .nilFunc | .nilIface | .map none | .pointer none | .slice none _ _ => pure (.bool true)
 | _ => pure (.bool false)
theorem isNil_eq {t : TypeId} {a : Addr} {fl : Nat} : ReflectliteValue.isNil t a fl 22 = (do
 let v ← loadVar t a
 isNilQ v : Sem Value) := rfl
theorem ext9_ok (hty : TyOk C.P tb) (hr : kb C.P tb) (h1 : (Extern.findNext fn).isNone = true) (h2 : Extern.find fn = some (ReflectliteValue.method (ReflectliteValue.valueError "reflectlite.Value.IsNil" 0) ReflectliteValue.isNil)) : dP C tb 9 fn := by
 refine ⟨iD h1, _, h2, fun B l S v S' ρ w args h hF aW hl hfree => ?_⟩
 obtain ⟨x, rfl, h⟩ := inv9 h
 obtain ⟨y, rfl, hy⟩ := mN hl
 obtain ⟨r, e1, h3⟩ := lb h
 obtain ⟨e, e2, h3⟩ := lb h3
 obtain ⟨t, b, o, f⟩ := r
 obtain ⟨hf, h4⟩ := bT h3
 obtain ⟨u, S1, h5, h6⟩ := bZ h4
 rw [rR e1] at hy
 obtain ⟨r, hb, rfl⟩ := re hy
 have hf1 : f % 32 = 22 := Nat.eq_of_beq_eq_true hf
 have hf' : f ≠ 0 := fun e => by subst e; simp at hf1
 obtain ⟨g1, g2, z, g3, g4⟩ := Cp hty hF hb h5
 simp only [] at g3 e2
 have hrun : (ReflectliteValue.method (ReflectliteValue.valueError "reflectlite.Value.IsNil" 0) ReflectliteValue.isNil #[.agg #[typeHandle C.P t, .pointer (some ⟨r.blk, r.base + o, none⟩), .int .u64 (.ofNat f)]]).run C.P w =
  (isNilQ z).run C.P w := by
  rw [rlm, Sem.run_bind, vY hf' (hr.el _ _ e2).2]
  simp only [Result.andThen_ok, hf1]
  rw [isNil_eq]
  simp only [Sem.run_bind, g3, Result.andThen_ok]
 cases u <;> simp only [ga] at h6 <;> try exact (aU h6).elim
 ·obtain ⟨rfl, rfl⟩ := aX h6
  simp only [Rel] at g4
  subst g4
  exact ⟨ρ, .bool true, w, hrun, by simp only [Rel], by rw [g1]; exact hF, by rw [g2]; exact Ext.refl _ _ _, Below.refl _ _⟩
 ·obtain ⟨rfl, rfl⟩ := aX h6
  simp only [Rel] at g4
  obtain ⟨q, hq, rfl⟩ := g4
  exact ⟨ρ, .bool false, w, hrun, by simp only [Rel], by rw [g1]; exact hF, by rw [g2]; exact Ext.refl _ _ _, Below.refl _ _⟩
theorem ofHandle_run {P : Program} {t : Nat} {w : World} : (Rtype.ofHandle (typeHandle P t)).run P w = .ok t w := by simp [Rtype.ofHandle, handleType, typeHandle]
theorem noPack_run {P : Program} {t : Nat} {w : World} (hp : P.packed t = false) (s : String) : (Rtype.noPack s t).run P w = .ok () w := by simp [Rtype.noPack, hp]
theorem ext10_ok (hr : kb C.P tb) (h1 : (Extern.findNext fn).isNone = true) (h2 : Extern.find fn = some (ReflectliteType.abiMethod fun t => do pure (.int .u8 (← Rtype.kind t)))) : dP C tb 10 fn := by
 refine ⟨iD h1, _, h2, fun B l S v S' ρ w args h hF aW hl hfree => ?_⟩
 obtain ⟨x, rfl, h0⟩ := inv10 h
 clear h
 obtain ⟨y, rfl, hy⟩ := mN hl
 cases x <;> try exact (aU (show AX.fail S = some (v, S') from h0)).elim
 rename_i t
 obtain ⟨k, e1, h3⟩ := lb h0
 obtain ⟨rfl, rfl⟩ := aX h3
 simp only [Rel] at hy
 subst hy
 refine ⟨ρ, .int .u8 (.ofNat k), w, ?_, by simp only [Rel], hF, Ext.refl _ _ _, Below.refl _ _⟩
 obtain ⟨s, hdef⟩ : ∃ s : String, (ReflectliteType.abiMethod fun t => do pure (.int .u8 (← Rtype.kind t))) ⟨[typeHandle C.P t]⟩ = (do
  let u ← Rtype.ofHandle (typeHandle C.P t)
  Rtype.noPack s u
  (do pure (.int .u8 (← Rtype.kind u)) : Sem Value)) := ⟨_, rfl⟩
 rw [hdef, Sem.run_bind, ofHandle_run]
 simp only [Result.andThen_ok]
 rw [Sem.run_bind, noPack_run (hr.kd _ _ e1).2]
 simp only [Result.andThen_ok]
 rw [Sem.run_bind, (hr.kd _ _ e1).1 w]; rfl
theorem ext11_ok (hr : kb C.P tb) (h1 : (Extern.findNext fn).isNone = true) (h2 : Extern.find fn = some (ReflectliteType.method ReflectliteType.elem)) : dP C tb 11 fn := by
 refine ⟨iD h1, _, h2, fun B l S v S' ρ w args h hF aW hl hfree => ?_⟩
 obtain ⟨x, rfl, h⟩ := inv11 h
 obtain ⟨y, rfl, hy⟩ := mN hl
 obtain ⟨t, e1, h3⟩ := lb h
 obtain ⟨e, e2, h4⟩ := lb h3
 obtain ⟨rfl, rfl⟩ := aX h4
 rw [vV e1] at hy
 have hy := ri hy
 subst hy
 refine ⟨ρ, _, w, ?_, mkty, hF, Ext.refl _ _ _, Below.refl _ _⟩
 show (do ReflectliteType.elem (← ReflectliteType.ofRtype (.agg #[typeHandle C.P t])) : Sem Value).run C.P w = _
 rw [Sem.run_bind, vf (hr.el _ _ e2).2]
 simp only [Result.andThen_ok]
 unfold ReflectliteType.elem
 rw [Sem.run_bind, (hr.el _ _ e2).1 w]
 exact hr.ty e w
theorem aR6 {P : Program} {what : String} {f : TypeId → TypeId → Sem Bool} {a t u : Nat} {r : Bool} {w : World} (hu : P.packed u = false) (ht : P.packed t = false) (h : (f u t).run P w = .ok r w) :
 (ReflectliteType.relation what f ⟨[.agg #[typeHandle P t], .iface a (.agg #[typeHandle P u])]⟩).run P w = .ok (.bool r) w := by
 show (do pure (.bool (← f (← ReflectliteType.ofRtype (.agg #[typeHandle P u])) (← ReflectliteType.ofRtype (.agg #[typeHandle P t])))) : Sem Value).run P w = _
 simp only [Sem.run_bind, vf hu, vf ht, Result.andThen_ok, h, Sem.run_pure]
theorem ext12_ok (hr : kb C.P tb) (h1 : (Extern.findNext fn).isNone = true) (h2 : Extern.find fn = some (ReflectliteType.relation "Implements" ReflectliteType.implements_)) : dP C tb 12 fn := by
 refine ⟨iD h1, _, h2, fun B l S v S' ρ w args h hF aW hl hfree => ?_⟩
 obtain ⟨x, y, rfl, h⟩ := inv12 h
 obtain ⟨x', y', rfl, hx, hy⟩ := rp hl
 obtain ⟨t, e1, h3⟩ := lb h
 obtain ⟨u, e2, h4⟩ := lb h3
 obtain ⟨q, e3, h5⟩ := lb h4
 obtain ⟨rfl, rfl⟩ := aX h5
 rw [vV e1] at hx
 obtain ⟨a, e4⟩ := aR2 e2
 rw [e4] at hy
 have hx := ri hx
 simp only [Rel] at hy
 obtain ⟨z, rfl, hz⟩ := hy
 have hz : Rel C ρ (.ag [.h u]) z := by simpa only [Rel] using hz
 have hz := ri hz
 subst hx; subst hz
 obtain ⟨g1, g2, g3⟩ := hr.im2 _ _ _ e3
 exact ⟨ρ, _, w, aR6 g2 g3 (g1 w), by simp only [Rel], hF, Ext.refl _ _ _, Below.refl _ _⟩
theorem ext13_ok (hr : kb C.P tb) (h1 : (Extern.findNext fn).isNone = true) (h2 : Extern.find fn = some (ReflectliteType.relation "AssignableTo" ReflectliteType.assignableTo)) : dP C tb 13 fn := by
 refine ⟨iD h1, _, h2, fun B l S v S' ρ w args h hF aW hl hfree => ?_⟩
 obtain ⟨x, y, rfl, h⟩ := inv13 h
 obtain ⟨x', y', rfl, hx, hy⟩ := rp hl
 obtain ⟨t, e1, h3⟩ := lb h
 obtain ⟨u, e2, h4⟩ := lb h3
 obtain ⟨q, e3, h5⟩ := lb h4
 obtain ⟨rfl, rfl⟩ := aX h5
 rw [vV e1] at hx
 obtain ⟨a, e4⟩ := aR2 e2
 rw [e4] at hy
 have hx := ri hx
 simp only [Rel] at hy
 obtain ⟨z, rfl, hz⟩ := hy
 have hz : Rel C ρ (.ag [.h u]) z := by simpa only [Rel] using hz
 have hz := ri hz
 subst hx; subst hz
 obtain ⟨g1, g2, g3⟩ := hr.fD _ _ _ e3
 exact ⟨ρ, _, w, aR6 g2 g3 (g1 w), by simp only [Rel], hF, Ext.refl _ _ _, Below.refl _ _⟩
theorem ext14_ok (hty : TyOk C.P tb) (hr : kb C.P tb) (h1 : (Extern.findNext fn).isNone = true) (h2 : Extern.find fn = some (ReflectliteValue.method (ReflectliteValue.valueError "reflectlite.Value.Elem" 0) ReflectliteValue.elem)) : dP C tb 14 fn := by
 refine ⟨iD h1, _, h2, fun B l S v S' ρ w args h hF aW hl hfree => ?_⟩
 obtain ⟨x, rfl, h⟩ := inv14 h
 obtain ⟨y, rfl, hy⟩ := mN hl
 obtain ⟨r, e1, h3⟩ := lb h
 obtain ⟨e, e2, h3⟩ := lb h3
 obtain ⟨t, b, o, f⟩ := r
 obtain ⟨hf, h4⟩ := bT h3
 obtain ⟨u, S1, h5, h6⟩ := bZ h4
 rw [rR e1] at hy
 obtain ⟨r, hb, rfl⟩ := re hy
 have hf1 : f % 32 = 22 := Nat.eq_of_beq_eq_true hf
 have hf' : f ≠ 0 := fun e => by subst e; simp at hf1
 obtain ⟨g1, g2, z, g3, g4⟩ := Cp hty hF hb h5
 simp only [] at g3 e2
 cases u <;> simp only [gT] at h6 <;> try exact (aU h6).elim
 rename_i b2 o2
 obtain ⟨e', e3, h7⟩ := lb h6
 rw [e2] at e3; injection e3 with e3; subst e3
 obtain ⟨k, e4, h8⟩ := lb h7
 obtain ⟨rfl, rfl⟩ := aX h8
 simp only [Rel] at g4
 obtain ⟨q, hq, rfl⟩ := g4
 refine ⟨ρ, _, w, ?_, mkrv (f := k + 384) hq, by rw [g1]; exact hF, by rw [g2]; exact Ext.refl _ _ _, Below.refl _ _⟩
 show (ReflectliteValue.method (ReflectliteValue.valueError "reflectlite.Value.Elem" 0) ReflectliteValue.elem #[.agg #[typeHandle C.P t, .pointer (some ⟨r.blk, r.base + o, none⟩), .int .u64 (.ofNat f)]]).run C.P w = _
 rw [rlm, Sem.run_bind, vY hf' (hr.el _ _ e2).2]
 simp only [Result.andThen_ok, hf1]
 unfold ReflectliteValue.elem
 have hp : (program).run C.P w = .ok C.P w := rfl
 simp [g3, (hr.el _ _ e2).1 w, ReflectliteValue.mk, Rtype.handle, hp, (hr.kd _ _ e4).1 w, ReflectliteValue.flagAddr, ReflectliteValue.flagIndir]
 omega
theorem rls (v x : Value) : ReflectliteValue.set #[v, x] = (do
 let (some (dst, a, fl), some (src, b, _)) := (← ReflectliteValue.parts v, ← ReflectliteValue.parts x)
  | unsupported (.noEntry "extern/(internal/reflectlite.Value).Set.zeroValue")
 if fl / ReflectliteValue.flagAddr % 2 == 0 then unsupported (.noEntry "extern/(internal/reflectlite.Value).Set.unaddressable")
 let val ← loadVar src b
 if ← Rtype.directlyAssignable dst src then storeVar dst a val
 else if ← Rtype.implements dst src then
  if (← Rtype.kind src) == 20 then
   match val with
   | .nilIface => unsupported (.noEntry "extern/reflectlite: a nil value of one interface type handed on as a value of another")
   | _ => storeVar dst a val
  else storeVar dst a (.iface src val)
 else panicString ("reflectlite.Set: value of type " ++ (← Rtype.spelt src) ++ " is not assignable to type " ++ (← Rtype.spelt dst))
 pure (.tuple #[])) := rfl
theorem direct_run {P : Program} {t : Nat} {w : World} : (Rtype.directlyAssignable t t).run P w = .ok true w := by simp [Rtype.directlyAssignable]
theorem ext15_ok (hty : TyOk C.P tb) (hr : kb C.P tb) (h1 : (Extern.findNext fn).isNone = true) (h2 : Extern.find fn = some ReflectliteValue.set) : dP C tb 15 fn := by
 refine ⟨iD h1, _, h2, fun B l S v S' ρ w args h hF aW hl hfree => ?_⟩
 obtain ⟨x, y, rfl, h⟩ := inv15 h
 obtain ⟨x', y', rfl, hx, hy⟩ := rp hl
 obtain ⟨r, e1, h3⟩ := lb h
 obtain ⟨q, e2, h3⟩ := lb h3
 obtain ⟨k, e3, h3⟩ := lb h3
 obtain ⟨t, b, o, f⟩ := r
 obtain ⟨u, c, p, g⟩ := q
 obtain ⟨hc, h4⟩ := bT h3
 simp only [Bool.and_eq_true, Bool.not_eq_true'] at hc
 obtain ⟨hc1, hc2, hc3⟩ := hc
 have hc1 := Nat.eq_of_beq_eq_true hc1
 have hc2 : f / 256 % 2 = 1 := Nat.eq_of_beq_eq_true hc2
 subst hc1
 have hg : g ≠ 0 := fun e => by subst e; cases hc3
 have hf : f ≠ 0 := fun e => by subst e; simp at hc2
 obtain ⟨z, S1, h5, h6⟩ := bZ h4
 obtain ⟨un, S2, h7, h8⟩ := bZ h6
 obtain ⟨rfl, rfl⟩ := aX h8
 rw [rR e1] at hx
 rw [rR e2] at hy
 obtain ⟨r, hb, rfl⟩ := re hx
 obtain ⟨r2, hb2, rfl⟩ := re hy
 obtain ⟨g1, g2, zv, g3, g4⟩ := Cp hty hF hb2 h5
 have hpk := (hr.kd _ _ e3).2
 simp only [] at h7 g3 hpk
 obtain ⟨k1, w', k2, k3, k4⟩ := aJ2 hty (w := w) (S := S1) (by rw [g1]; exact hF) (x := .p b o) (xv := .pointer (some ⟨r.blk, r.base + o, none⟩)) (by simp only [Rel]; exact ⟨r, hb, rfl⟩) g4 h7
 have k2 : (storeVar t ⟨r.blk, r.base + o, none⟩ zv).run C.P w = .ok () w' := k2
 refine ⟨ρ, .tuple #[], w', ?_, by simp only [Rel, aJ]; exact ⟨[], rfl, rfl⟩, k3, by rw [k1, g2]; exact Ext.refl _ _ _, k4⟩
 show (ReflectliteValue.set #[.agg #[typeHandle C.P t, .pointer (some ⟨r.blk, r.base + o, none⟩), .int .u64 (.ofNat f)], .agg #[typeHandle C.P t, .pointer (some ⟨r2.blk, r2.base + p, none⟩), .int .u64 (.ofNat g)]]).run C.P w = _
 rw [rls, Sem.run_bind, vY hf hpk]
 simp only [Result.andThen_ok]
 rw [Sem.run_bind, vY hg hpk]
 simp only [Result.andThen_ok]
 have hq : (f / ReflectliteValue.flagAddr % 2 == 0) = false := by show (f / 256 % 2 == 0) = false; rw [hc2]; rfl
 simp [hq, g3, direct_run, k2]
def MetAt2 (P : Program) (t : Nat) (m : String) (g : Nat) : Prop := ∀ (x : Value) (w : World), (method (P.types.size + Made.depth) t (.agg #[x]) m).run P w = .ok (g, x) w
theorem allOk' {C : Cx} {tb : Tab} (hty : TyEq C.P tb) (himp : BB C.P tb) (aW : tb.ng = C.P.globals.size) (hhyp : tb.hyp = []) (hfn : FnEq C.P tb) (hchk : fnChk C.P tb = true)
 (hmet : ∀ t m g d, (t, m, g, d) ∈ tb.met → (d = false ∧ qn C.P t m g) ∨ (d = true ∧ MetAt2 C.P t m g)) (eQ : C.P.follows .mixedOrders = true)
 (hext : ∀ g fi fn, tb.fn.get g = some fi → C.P.funcs[g]? = some fn → fi.body = none → fi.ext = 0 ∨ dP C tb fi.ext fn) : aq C tb where
 tab := { ty := fun t ti h => by
           have := sf hty _ (o6 h)
           simp only [] at this
           cases hi : C.P.info? t with
           | none => rw [hi] at this; cases this
           | some i => rw [hi] at this; injection this with this; exact ⟨i, rfl, this⟩
          hyp := fun k r h => by rw [hhyp] at h; simp at h
          imp := fun t d r h => by
           have := sf himp _ (zB _ _ _ _ h)
           simp only [zC] at this
           split at this
           ·rename_i want i h1 h2
            injection this with this
            exact ⟨want, i, h1, h2, this.symm⟩
           ·cases this
          ngl := aW }
 met := fun t m g d v u ρ x w h1 h2 h3 => by
  rcases hmet t m g d (aE9 _ _ _ _ h1) with ⟨rfl, hm⟩ | ⟨rfl, hm⟩
  ·simp only [recv, cond_false, Option.some.injEq] at h2
   subst h2
   exact ⟨x, hm x w, h3⟩
  ·simp only [recv, cond_true] at h2
   split at h2
   ·injection h2 with h2; subst h2
    simp only [Rel, aJ] at h3
    obtain ⟨cs, rfl, y, vt, rfl, hy, rfl⟩ := h3
    exact ⟨y, hm y w, hy⟩
   ·cases h2
 fn := fun g fi h => by
  have h1 := sf hfn _ (o6 h)
  have h2 := List.all_eq_true.1 hchk _ (o6 h)
  simp only [] at h1 h2
  cases hf : C.P.funcs[g]? with
  | none => rw [hf] at h1; cases h1
  | some fn =>
   rw [hf] at h1 h2
   simp only [Option.map_some, Option.some.injEq, Prod.mk.injEq] at h1
   simp only [Bool.and_eq_true] at h2
   refine ⟨fn, hf, by simpa using h2.1.1.1, h1.1.symm, h1.2.1.symm, h1.2.2.symm, fun c hc => ?_, fun v hv => ?_, fun c hc => ?_, fun l hl _ => ?_, fun hb => hext g fi fn h hf hb⟩
   ·have := h2.1.1.2; rw [hc] at this; exact this
   ·have := h2.1.2; rw [hv] at this; cases this
   ·rw [List.isEmpty_iff.1 h2.2]; exact bV.nil c
   ·rw [List.isEmpty_iff.1 h2.2] at hl; cases hl
 mix := eQ
theorem GW : ∀ (l : List (Nat × Nat)) (t k : Nat), gz l t = some k → (t, k) ∈ l
 | [], _, _, h => by simp [gz] at h
 | (a, q) :: l, t, k, h => by
  unfold gz at h
  cases hc : Nat.beq a t with
  | true =>
   rw [hc, cond_true] at h; injection h with h; subst h
   have e1 := Nat.eq_of_beq_eq_true hc
   subst e1; exact List.mem_cons_self ..
  | false => rw [hc, cond_false] at h; exact List.mem_cons_of_mem _ (GW l t k h)
/- the whole run, some old blocks known -/
def oP (e : Nat) (c : Cells) : aS := .b ⟨e, c, 0, 0, c.len, true, false⟩
end
end Go.AX
end
section
namespace Go.AX
open Go.Extern
theorem strB_cons (k n : Nat) : bq (k + 1) n = UInt8.ofNat (n % 256) :: bq k (Nat.shiftRight n 8) := by
 unfold bq
 rw [List.range_succ_eq_map, List.map_cons, List.map_map]
 congr 1
 apply List.map_congr_left
 intro j _
 show UInt8.ofNat (byteAt n (j + 1)) = UInt8.ofNat (byteAt (n >>> 8) j)
 rw [kW, kW, Nat.shiftRight_eq_div_pow, Nat.div_div_eq_div_mul, ← Nat.pow_add, show 8 + 8 * j = 8 * (j + 1) by omega]
theorem ofNat_beq (a c : Nat) (ha : a < 256) (hc : c < 256) : (UInt8.ofNat a == UInt8.ofNat c) = Nat.beq a c := by
 have e : (UInt8.ofNat a = UInt8.ofNat c) ↔ a = c := by
  rw [← UInt8.toNat_inj]; simp [Nat.mod_eq_of_lt ha, Nat.mod_eq_of_lt hc]
 by_cases h : a = c
 ·subst h; simp
 ·have h2 : Nat.beq a c = false := by
   cases hb : Nat.beq a c with
   | false => rfl
   | true => exact absurd (Nat.eq_of_beq_eq_true hb) h
  rw [h2, beq_eq_false_iff_ne]; exact fun e' => h (e.1 e')
theorem find_spec (c : Nat) (hc : c < 256) : ∀ (k n j : Nat), (match jo k n c j with | some i => ((i - j : Nat) : Int) | none => -1) = Lib.indexByte (bq k n) (UInt8.ofNat c) ∧ ∀ i, jo k n c j = some i → j ≤ i
 | 0, n, j => ⟨rfl, fun i h => by simp [jo] at h⟩
 | k + 1, n, j => by
  rw [strB_cons]
  unfold Lib.indexByte jo
  rw [ofNat_beq _ _ (Nat.mod_lt _ (by omega)) hc]
  show (match cond (Nat.beq (n % 256) c) (some j) (jo k (Nat.shiftRight n 8) c (Nat.succ j)) with | some i => ((i - j : Nat) : Int) | none => -1) = _ ∧ ∀ i, cond (Nat.beq (n % 256) c) (some j) (jo k (Nat.shiftRight n 8) c (Nat.succ j)) = some i → j ≤ i
  cases hb : Nat.beq (n % 256) c with
  | true =>
   simp only [cond_true, if_true]
   refine ⟨by simp, fun i h => by injection h with h; omega⟩
  | false =>
   simp only [cond_false, Bool.false_eq_true, if_false]
   obtain ⟨h1, h2⟩ := find_spec c hc k (Nat.shiftRight n 8) (Nat.succ j)
   refine ⟨?_, fun i h => by have := h2 i h; omega⟩
   rw [← h1]
   cases hf : jo k (Nat.shiftRight n 8) c (Nat.succ j) with
   | none => rfl
   | some i =>
    have := h2 i hf
    simp only []
    have hne : (((i - Nat.succ j : Nat) : Int) == -1) = false := by
     rw [beq_eq_false_iff_ne]; omega
    rw [hne]
    simp only [Bool.false_eq_true, if_false]
    omega
section
variable {C : Cx} {tb : Tab} {fn : Func} {ρ : aY}
theorem inv3 {l : List AV} {S S' : St} {v : AV} (h : ext tb 3 l S = some (v, S')) : ∃ x y, l = [x, y] ∧ x3 x y S = some (v, S') := by
 match l, h with
 | [x, y], h => exact ⟨x, y, rfl, h⟩
 | [], h => simp only [ext] at h; exact (aU h).elim
 | [_], h => simp only [ext] at h; exact (aU h).elim
 | _ :: _ :: _ :: _, h => simp only [ext] at h; exact (aU h).elim
theorem byQ_inv {f : Nat → AV} {y : AV} {S S' : St} {v : AV} (h : l6 f y S = some (v, S')) : ∃ c, y = .i .u8 (.ofNat c) ∧ c < 256 ∧ v = f c ∧ S' = S := by
 unfold l6 at h
 split at h
 ·obtain ⟨hc, h2⟩ := bT h
  obtain ⟨rfl, rfl⟩ := aX h2
  exact ⟨_, rfl, Nat.le_of_ble_eq_true hc, rfl, rfl⟩
 ·exact (aU h).elim
theorem ext3_ok (h1 : (Extern.findNext fn).isNone = true) (h2 : Extern.find fn = some BytealgIndexByte.indexByte) : dP C tb 3 fn := by
 refine ⟨iD h1, _, h2, fun B l S v S' ρ w args h hF aW hl hfree => ?_⟩
 obtain ⟨x, y, rfl, h0⟩ := inv3 h
 clear h
 obtain ⟨x', y', rfl, hx, hy⟩ := rp hl
 unfold x3 at h0
 split at h0
 ·rename_i k n
  obtain ⟨c, rfl, hc, rfl, rfl⟩ := byQ_inv h0
  simp only [Rel] at hx hy
  obtain ⟨rfl, hn⟩ := hx
  subst hy
  refine ⟨ρ, _, w, Lib.run_indexByteString _ _ w, ?_, hF, Ext.refl _ _ _, Below.refl _ _⟩
  have := (find_spec c hc k n 0).1
  show Rel C ρ (DL (jo k n c 0)) (.int .i64 (Lib.indexByte (bq k n) (UInt8.ofNat c)))
  rw [← this]
  cases jo k n c 0 <;> simp [DL, Rel]
 ·exact (aU h0).elim
end
end Go.AX
end
section
namespace Go.AX
/- old blocks of which the first cells are known -/
def ow (C : Cx) (w : World) (g e : Nat) (l : List AV) : Prop :=
 ∃ arr fz, w.heap[g]? = some (.cells arr e fz) ∧ arr.size = l.length ∧ ∀ (j : Nat) (a : AV), l[j]? = some a → ∃ x, arr[j]? = some x ∧ Rel C (fun _ => none) a x ∧ x.oneCell' = true
def qs (l : List AV) (c : Cells) : Prop := CW c ∧ c.toL = l
theorem aR1 {C : Cx} {tb : Tab} (h : aq C tb) {f g : Nat} {fi : FI} {l : List AV} {v : AV} {S' : St} {args : List Value} {H : T aS} (hfi : tb.fn.get g = some fi) (hb : fi.body.isSome = true)
 (hc : call tb f g l ⟨H, tb.ng, 0, 0⟩ = some (v, S')) (hl : aJ C (fun _ => none) l args) (w : World) (hi : C.inv w) (hsz : C.br ≤ w.heap.size)
 (hH : ∀ v k, H.get v = some k → v < tb.ng ∧ ∃ e c m, k = oP e c ∧ qs m c ∧ ow C w v e m) :
 Calls C.P g ⟨args⟩ w fun e w' => ∃ x ρ, e = .returned x ∧ Rel C ρ v x ∧ Below (Fz.lt w.heap.size) w w' := by
 have hF : Fits C tb.ng (Fz.lt w.heap.size) (nZ tb.ng) H w := by
  refine ⟨fun k hk => hk, fun g hg => by simp [nZ, hg], fun v k hv => ?_, fun v v' k k' r r' hv hv' h1 h2 h3 => ?_, fun k hk => Nat.lt_of_lt_of_le hk hsz, hi⟩
  ·obtain ⟨hlt, e, c, m, rfl, ⟨hcw, hcm⟩, arr, fz, h1, h2, h3⟩ := hH v k hv
   refine ⟨⟨v, 0, 0, 0⟩, by simp [nZ, hlt], _, h1, rfl, ?_⟩
   have hcl : c.len = m.length := by rw [Cells.len_eq, hcm]
   refine ⟨⟨hcw, fun j a hj => ?_⟩, fun h => (by cases h), fun x hx1 hx2 hx3 => ?_, fun h => (by cases h), fun _ => ⟨Nat.le_refl _, rfl, rfl⟩, ?_, fun _ => rfl⟩
   ·have hj : c.toL[j]? = some a := hj
    rw [hcm] at hj
    obtain ⟨x, hx, hr, ho⟩ := h3 j a hj
    exact ⟨x, by simpa using hx, hr.vg, ho⟩
   ·have hx1 : 0 + c.len ≤ x := hx1
    omega
   ·show 0 + c.len ≤ arr.size; omega
  ·obtain ⟨l1, _⟩ := hH v k hv
   obtain ⟨l2, _⟩ := hH v' k' hv'
   simp only [nZ, if_pos l1, if_pos l2, Option.some.injEq] at h1 h2
   subst h1; subst h2; exact .inl h3
 have hfree : Free (nZ tb.ng) tb.ng S'.next := fun v h1 h2 => by simp only [nZ]; rw [if_neg (by omega)]
 obtain ⟨fn, hfn⟩ := h.fn g fi hfi
 have hu := GM (B := Fz.lt w.heap.size) h f g l ⟨H, tb.ng, 0, 0⟩ v S' (nZ tb.ng) w args ⟨some 0, .move (.const undef), 0, "", #[], none⟩ ⟨#[undef], []⟩
  (fun a' w' => ∃ ρ, Rel C ρ v (a'.tmps.getD 0 undef) ∧ Below (Fz.lt w.heap.size) w w') (fun _ _ _ => False) Fence.wide 0 u9 hc hF (Nat.le_refl _) (aJ.mono (fun v r hv => by cases hv) _ _ hl) hfree
  (fun ρ' x w' r1 r2 r3 r4 => ⟨ρ', by simpa [Act.put] using r1, r4⟩)
 rw [l5 hfn.at_ hfn.name (by rw [hfn.body]; exact hb), Oper.uponIn_enter] at hu
 refine Calls.mono (callsIn_wide.1 hu.2) fun e w' he => ?_
 cases e with
 | returned x =>
  obtain ⟨ρ, h1, h2⟩ := he
  exact ⟨x, ρ, rfl, by simpa [Act.put] using h1, h2⟩
 | panicked c => exact he.elim
 | outgrown => obtain ⟨_, _, h⟩ := he; exact h.elim
end Go.AX
namespace Go.AX
def ur (w : World) (g : Nat) (k : IntKind) (zs : List Int) : Prop :=
 ∃ ty arr fz, w.heap[g]? = some (.cells arr ty fz) ∧ arr.size = zs.length ∧ ∀ (j : Nat) (z : Int), zs[j]? = some z → arr[j]? = some (.int k z)
theorem ur.size {w : World} {g : Nat} {k : IntKind} {zs : List Int} (h : ur w g k zs) : g < w.heap.size := by
 obtain ⟨ty, arr, fz, hw, _⟩ := h
 rcases Nat.lt_or_ge g w.heap.size with h | h
 ·exact h
 ·rw [Array.getElem?_eq_none h] at hw; cases hw
theorem ur.same {w w' : World} {g : Nat} {k : IntKind} {zs : List Int} (h : ur w g k zs) (e : w'.heap[g]? = w.heap[g]?) : ur w' g k zs := by
 obtain ⟨ty, arr, fz, hw, hr⟩ := h
 exact ⟨ty, arr, fz, by rw [e]; exact hw, hr⟩
end Go.AX
end
section
namespace Go.AX
noncomputable section
def bD (l : List (Nat × AV)) (nt : Nat) : Env := ⟨ja l .leaf, nt⟩
def bH (ep : List (Nat × AV)) (keep : List Nat) : List (Nat × AV) := keep.foldl (fun l t => (t, .x (Nat.add 1000000 t)) :: l) ep
theorem aD1 (keep : List Nat) : ∀ (ep : List (Nat × AV)) s x, (s, x) ∈ bH ep keep → (s, x) ∈ ep ∨ (s ∈ keep ∧ x = .x (1000000 + s)) := by
 induction keep with
 | nil => intro ep s x h; exact .inl h
 | cons t r ih =>
  intro ep s x h
  rcases ih _ s x h with h1 | h1
  ·rcases List.mem_cons.1 h1 with e | h2
   ·injection e with e1 e2; subst e1; exact .inr ⟨List.mem_cons_self .., e2⟩
   ·exact .inl h2
  ·exact .inr ⟨List.mem_cons_of_mem _ h1.1, h1.2⟩
def Bz (E : Env) (s : Nat) (y : AV) : Bool := match E.tm.get s with
 | some a => fe 8 a y && iE 8 y
 | none => false
def rD (E : Env) : List (Nat × AV) → Bool
 | [] => true
 | p :: r => Bz E p.1 p.2 && rD E r
def lU (E : Env) : List Nat → Bool
 | [] => true
 | t :: r => Bz E t (.x (Nat.add 1000000 t)) && lU E r
theorem aB4 {E : Env} : ∀ {l : List Nat}, lU E l = true → ∀ t, t ∈ l → E.tm.get t = some (.x (1000000 + t))
 | [], _, t, h => by cases h
 | u :: r, h, t, hm => by
  simp only [lU, Bz, Bool.and_eq_true] at h
  rcases List.mem_cons.1 hm with e | hm
  ·subst e
   have h1 := h.1
   cases hg : E.tm.get t with
   | none => rw [hg] at h1; cases h1
   | some a => rw [hg] at h1; simp only [Bool.and_eq_true] at h1; rw [jV 8 a _ h1.1]; rfl
  ·exact aB4 h.2 t hm
structure Round (C : Cx) (body : Code) (l : LF) (ep : List (Nat × AV)) {α : Type} (I : α → Prop) (μ : α → Nat) (D : α → (Nat → Value) → Cx) (x : α) (X : Nat → Value) : Prop where
 run : ∃ (tb : Tab) (L : List LF) (f : Nat) (ex : Ex) (E1 : Env) (S1 : St), aq (D x X) tb ∧ bV (D x X) L body ∧ code tb f L body (bD (bH ep l.keep) l.nt) ⟨.leaf, tb.ng, 0, 0⟩ = some ((ex, E1), S1) ∧ lU E1 l.keep = true ∧ E1.nt = l.nt ∧
  ((ex = .normal ∧ ∃ (y : α) (q : List (Nat × AV)), I y ∧ μ y < μ x ∧ rD E1 q = true ∧ ∀ s a, (s, a) ∈ ep → ∃ b, (s, b) ∈ q ∧ ∀ v, Rel (D x X) (fun _ => none) b v → Rel (D y X) (fun _ => none) a v) ∨
   (ex ≠ .normal ∧ ex = l.ex ∧ ∃ q : List (Nat × AV), rD E1 q = true ∧ ∀ s a, (s, a) ∈ l.post → ∃ b, (s, b) ∈ q ∧ ∀ v, Rel (D x X) (fun _ => none) b v → Rel C (fun _ => none) a v))
end
end Go.AX
end
section

namespace Go.AX
noncomputable def fF (p : Nat → Bool) (lo n : Nat) : Bool := Nat.rec (motive := fun _ => Bool) true (fun j ih => Bool.rec (motive := fun _ => Bool) false ih (p (Nat.add lo j))) n
theorem ft {p : Nat → Bool} {lo : Nat} : ∀ {n : Nat}, fF p lo n = true → ∀ i, lo ≤ i → i < lo + n → p i = true
 | 0, _, i, h1, h2 => by omega
 | n + 1, h, i, h1, h2 => by
  have h : Bool.rec (motive := fun _ => Bool) false (fF p lo n) (p (Nat.add lo n)) = true := h
  cases hp : p (Nat.add lo n) with
  | false => rw [hp] at h; cases h
  | true =>
   rw [hp] at h
   have h : fF p lo n = true := h
   by_cases e : i = lo + n
   ·subst e; exact hp
   ·exact ft h i h1 (by omega)
section
variable {C : Cx}
end
end Go.AX
end
section
namespace Go.AX
abbrev St' (l : List UInt8) : Value := .string ⟨l.toArray⟩
def bt (l : List UInt8) (i : Nat) : Int := ((l.getD i 0).toNat : Int)
theorem bQ (l : List UInt8) (i : Nat) : 0 ≤ bt l i := by unfold bt; omega
theorem bR (l : List UInt8) (i : Nat) : bt l i ≤ 255 := by unfold bt; have := (l.getD i 0).toNat_lt; omega
def Is (C : Cx) (a : AV) (v : Value) : Prop := ∀ ρ x, Rel C ρ a x → x = v
def Den (C : Cx) (a : AV) (v : Value) : Prop := ∀ ρ, Rel C ρ a v
section
variable {C : Cx}
theorem aA {i : Nat} {v : Value} (h : C.nu i = v) : Is C (.x i) v := fun ρ x hx => by simp only [Rel] at hx; rw [hx, h]
theorem ct (k : IntKind) (n : Int) : Is C (.i k n) (.int k n) := fun ρ x hx => by simpa only [Rel] using hx
theorem isS (len n : Nat) : Is C (.s len n) (St' (bq len n)) := fun ρ x hx => by simp only [Rel] at hx; exact hx.1
theorem aG {i : Nat} {v : Value} (h : C.nu i = v) : Den C (.x i) v := fun ρ => by simp only [Rel]; exact h.symm
theorem denI (k : IntKind) (n : Int) : Den C (.i k n) (.int k n) := fun ρ => by simp only [Rel]
theorem uJ (b : Bool) : Den C (.b b) (.bool b) := fun ρ => by simp only [Rel]
theorem eS {n : Int} (h1 : -9223372036854775808 ≤ n) (h2 : n ≤ 9223372036854775807) : fits .i64 n = true := by
 cases n with
 | ofNat a => exact Nat.ble_eq_true_of_le (by have : Int.ofNat a = (a : Int) := rfl; omega)
 | negSucc a => exact Nat.ble_eq_true_of_le (by omega)
theorem fU {k : IntKind} {n : Int} (h0 : 0 ≤ n) (hk : ∀ a : Nat, (a : Int) = n → fits k (.ofNat a) = true) : fits k n = true := by
 obtain ⟨a, rfl⟩ := Int.eq_ofNat_of_zero_le h0
 exact hk a rfl
theorem fU8 {n : Int} (h0 : 0 ≤ n) (h : n ≤ 255) : fits .u8 n = true := fU h0 fun a e => Nat.ble_eq_true_of_le (by omega)
variable {x y r : AV} {k : IntKind} {a b c : Int}
theorem tY {o : BinOp} {v : Value} (hx : Is C x (.int k a)) (hy : Is C y (.int k b)) (hr : Den C r v) (hrun : ∀ t w, (binOp o t (.int k a) (.int k b)).run C.P w = .ok v w) : aM C (.bin o x y) r := by
 intro ρ vx vy h1 h2
 have e1 := hx ρ vx h1; have e2 := hy ρ vy h2; subst e1; subst e2
 exact ⟨.inl ⟨k, a, b, rfl, rfl⟩, v, hr ρ, hrun⟩
theorem kAdd (hx : Is C x (.int k a)) (hy : Is C y (.int k b)) (hr : Den C r (.int k c)) (hc : a + b = c) (hf : fits k c = true) : aM C (.bin .add x y) r :=
 tY hx hy hr fun t w => by subst hc; simp [binOp, Op.intArith, tg k _ hf]
theorem kSub (hx : Is C x (.int k a)) (hy : Is C y (.int k b)) (hr : Den C r (.int k c)) (hc : a - b = c) (hf : fits k c = true) : aM C (.bin .sub x y) r :=
 tY hx hy hr fun t w => by subst hc; simp [binOp, Op.intArith, tg k _ hf]
theorem kMul (hx : Is C x (.int k a)) (hy : Is C y (.int k b)) (hr : Den C r (.int k c)) (hc : a * b = c) (hf : fits k c = true) : aM C (.bin .mul x y) r :=
 tY hx hy hr fun t w => by subst hc; simp [binOp, Op.intArith, tg k _ hf]
theorem fR (hx : Is C x (.int k a)) (hy : Is C y (.int k b)) (hr : Den C r (.int k c)) (h0 : 0 ≤ a) (hb : 0 < b) (hc : a % b = c) : aM C (.bin .rem x y) r :=
 tY hx hy hr fun t w => by
  have e : a.tmod b = c := by rw [Int.tmod_eq_emod_of_nonneg h0]; exact hc
  have hz : b ≠ 0 := by omega
  simp [binOp, Op.intDiv, hz, e]
theorem py {o : BinOp} {q : Bool} (hx : Is C x (.int k a)) (hy : Is C y (.int k b)) (h : (o = .lss ∧ q = decide (a < b)) ∨ (o = .leq ∧ q = decide (a ≤ b)) ∨ (o = .gtr ∧ q = decide (b < a)) ∨ (o = .geq ∧ q = decide (b ≤ a)) ∨ (o = .eql ∧ q = decide (a = b)) ∨ (o = .neq ∧ q = !decide (a = b))) : aM C (.bin o x y) (.b q) :=
 tY hx hy (uJ q) fun t w => by
  rcases h with ⟨rfl, rfl⟩ | ⟨rfl, rfl⟩ | ⟨rfl, rfl⟩ | ⟨rfl, rfl⟩ | ⟨rfl, rfl⟩ | ⟨rfl, rfl⟩ <;> simp [binOp, Op.intCmp] <;> rfl
theorem mj {q : Bool} (hx : Is C x (.int k a)) (hy : Is C y (.int k b)) (h : decide (a < b) = q) : aM C (.bin .lss x y) (.b q) := py hx hy (.inl ⟨rfl, h.symm⟩)
theorem kLe {q : Bool} (hx : Is C x (.int k a)) (hy : Is C y (.int k b)) (h : decide (a ≤ b) = q) : aM C (.bin .leq x y) (.b q) := py hx hy (.inr (.inl ⟨rfl, h.symm⟩))
theorem kGt {q : Bool} (hx : Is C x (.int k a)) (hy : Is C y (.int k b)) (h : decide (b < a) = q) : aM C (.bin .gtr x y) (.b q) := py hx hy (.inr (.inr (.inl ⟨rfl, h.symm⟩)))
theorem kGe {q : Bool} (hx : Is C x (.int k a)) (hy : Is C y (.int k b)) (h : decide (b ≤ a) = q) : aM C (.bin .geq x y) (.b q) := py hx hy (.inr (.inr (.inr (.inl ⟨rfl, h.symm⟩))))
theorem kEqI {q : Bool} (hx : Is C x (.int k a)) (hy : Is C y (.int k b)) (h : decide (a = b) = q) : aM C (.bin .eql x y) (.b q) := py hx hy (.inr (.inr (.inr (.inr (.inl ⟨rfl, h.symm⟩)))))
theorem yy {q : Bool} (hx : Is C x (.int k a)) (hy : Is C y (.int k b)) (h : (!decide (a = b)) = q) : aM C (.bin .neq x y) (.b q) := py hx hy (.inr (.inr (.inr (.inr (.inr ⟨rfl, h.symm⟩)))))
theorem kConv {t : Nat} {q : IntKind} (hx : Is C x (.int k a)) (ht : C.P.underlying t = some (.int q)) (hr : Den C r (.int q c)) (hc : q.wrap a = c) : aM C (.conv t x) r := by
 intro ρ vx h1
 have e1 := hx ρ vx h1; subst e1; subst hc
 refine ⟨.inl ⟨k, a, rfl⟩, _, hr ρ, fun src w hs => ?_⟩
 obtain ⟨d, hd⟩ := Option.isSome_iff_exists.1 hs
 simp only [convert, Sem.run_bind, run_underlying hd, run_underlying ht, Result.andThen_ok]
 simp [Conv.intToInt]
theorem fT {t : Nat} {q : IntKind} (hx : Is C x (.int k a)) (ht : C.P.underlying t = some (.int q)) (hr : Den C r (.int q a)) (hf : fits q a = true) : aM C (.conv t x) r := kConv hx ht hr (tg q a hf)
theorem cm (hx : Is C x (.int k a)) (hy : Is C y (.int k b)) (hr : Den C r (.int k c)) (hc : min a b = c) : aM C (.mm false x y) r := by
 intro ρ vx vy h1 h2
 have e1 := hx ρ vx h1; have e2 := hy ρ vy h2; subst e1; subst e2; subst hc
 refine ⟨_, hr ρ, fun w => ?_⟩
 simp only [Bool.false_eq_true, if_false]
 show Result.ok (Value.int k (if b < a then b else a)) w = _
 congr 2
 rw [Int.min_def]; split <;> split <;> omega
/- strings -/
variable {l m n : List UInt8}
theorem Fq {o : BinOp} {v : Value} (hx : Is C x (St' l)) (hy : Is C y (St' m)) (hr : Den C r v) (hrun : ∀ t w, (binOp o t (St' l) (St' m)).run C.P w = .ok v w) : aM C (.bin o x y) r := by
 intro ρ vx vy h1 h2
 have e1 := hx ρ vx h1; have e2 := hy ρ vy h2; subst e1; subst e2
 exact ⟨.inr (.inl ⟨_, _, rfl, rfl⟩), v, hr ρ, hrun⟩
theorem fh (hx : Is C x (St' l)) (hy : Is C y (St' m)) (hr : Den C r (St' n)) (hc : l ++ m = n) (hsz : l.length + m.length ≤ 9223372036854775807) : aM C (.bin .add x y) r :=
 Fq hx hy hr fun t w => by
  subst hc
  have h1 : (⟨l.toArray⟩ : ByteArray).size = l.length := by simp [ByteArray.size]
  have h2 : (⟨m.toArray⟩ : ByteArray).size = m.length := by simp [ByteArray.size]
  have e : (⟨l.toArray⟩ : ByteArray) ++ ⟨m.toArray⟩ = ⟨(l ++ m).toArray⟩ := by
   apply ByteArray.ext
   simp
  simp only [binOp, Op.stringOp, h1, h2]
  rw [if_neg (by simp [IntKind.max, IntKind.signed, IntKind.bits]; omega)]
  simp [e]
theorem toL_eq (l : List UInt8) : (⟨l.toArray⟩ : ByteArray).toList = l := by rw [ByteArray.toList_eq]
theorem C7 (l m : List UInt8) : (l == m) = decide (l = m) := by rw [Bool.eq_iff_iff]; simp
theorem bu {q : Bool} (hx : Is C x (St' l)) (hy : Is C y (St' m)) (h : decide (l = m) = q) : aM C (.bin .eql x y) (.b q) :=
 Fq hx hy (uJ q) fun t w => by
  subst h
  simp only [binOp, Op.stringOp, toL_eq]
  simp only [Sem.run_pure, C7]
theorem kNeS {q : Bool} (hx : Is C x (St' l)) (hy : Is C y (St' m)) (h : (!decide (l = m)) = q) : aM C (.bin .neq x y) (.b q) :=
 Fq hx hy (uJ q) fun t w => by
  subst h
  simp only [binOp, Op.stringOp, toL_eq]
  simp only [Sem.run_pure, C7]
theorem kLen (hx : Is C x (St' l)) (hr : Den C r (.int .i64 (l.length : Int))) : aM C (.len x) r := by
 intro ρ vx h1
 have e1 := hx ρ vx h1; subst e1
 exact ⟨_, hr ρ, _, rfl, by simp [ByteArray.size]⟩
theorem kIdx {i : Nat} (hx : Is C x (St' l)) (hy : Is C y (.int k b)) (hr : Den C r (.int .u8 (bt l i))) (hb : b = (i : Int)) (hi : i < l.length) : aM C (.idx x y) r := by
 intro ρ vx vy h1 h2
 have e1 := hx ρ vx h1; have e2 := hy ρ vy h2; subst e1; subst e2; subst hb
 refine ⟨_, hr ρ, fun t w hu => ?_⟩
 have hsz : (⟨l.toArray⟩ : ByteArray).size = l.length := by simp [ByteArray.size]
 have hg : (⟨l.toArray⟩ : ByteArray).data[i]? = some (l.getD i 0) := by
  simp [List.getElem?_eq_getElem hi, List.getD_eq_getElem?_getD]
 have h0 : (0 : Int) ≤ i ∧ (i : Int) < l.length := by omega
 simp [Instr.index, asIntOf, run_underlying hu, hsz, h0, hi]
 unfold bt
 have e : (⟨l.toArray⟩ : ByteArray)[i]'(by simpa [ByteArray.size] using hi) = l.getD i 0 := by
  rw [ByteArray.getElem_eq_getElem_data]
  simp [List.getD_eq_getElem?_getD, List.getElem?_eq_getElem hi]
 simp [e]
theorem kSub' {lo hi : Option AV} {p q : Nat} (hx : Is C x (St' l)) (hlo : (lo = none ∧ p = 0) ∨ ∃ e k, lo = some e ∧ Is C e (.int k (p : Int))) (hhi : (hi = none ∧ q = l.length) ∨ ∃ e k, hi = some e ∧ Is C e (.int k (q : Int)))
 (h1 : p ≤ q) (h2 : q ≤ l.length) (hr : Den C r (St' n)) (hc : (l.drop p).take (q - p) = n) : aM C (.sub x lo hi) r := by
 intro ρ vx h3
 have e1 := hx ρ vx h3; subst e1
 refine ⟨_, hr ρ, fun vl vh hl hh t w hu => ?_⟩
 have hsz : (⟨l.toArray⟩ : ByteArray).size = l.length := by simp [ByteArray.size]
 have bl : (vl = none ∧ p = 0) ∨ ∃ k, vl = some (.int k (p : Int)) := by
  rcases hlo with ⟨rfl, e⟩ | ⟨e, k, rfl, he⟩
  ·exact .inl ⟨hl, e⟩
  ·obtain ⟨y, rfl, hy⟩ := hl; exact .inr ⟨k, by rw [he ρ y hy]⟩
 have bh : (vh = none ∧ q = l.length) ∨ ∃ k, vh = some (.int k (q : Int)) := by
  rcases hhi with ⟨rfl, e⟩ | ⟨e, k, rfl, he⟩
  ·exact .inl ⟨hh, e⟩
  ·obtain ⟨y, rfl, hy⟩ := hh; exact .inr ⟨k, by rw [he ρ y hy]⟩
 have he : (⟨l.toArray⟩ : ByteArray).extract p q = ⟨n.toArray⟩ := by
  subst hc
  apply ByteArray.ext
  simp [ByteArray.data_extract, List.extract_eq_take_drop]
 simp [Instr.slice, run_underlying hu, hsz, jJ bl bh h1 h2, he]
/- a row of bytes made a string -/
theorem kBytes {vs : List AV} (bs : List UInt8) (h : ∀ ρ xs, aJ C ρ vs xs → xs = bs.map fun b => .int .u8 (b.toNat : Int)) (hr : Den C r (St' bs)) : aM C (.bytes vs) r := fun ρ xs hx => ⟨bs, _, h ρ xs hx, rfl, hr ρ⟩
theorem pw {t : Nat} {q : Bool} (hx : Is C x (.int k a)) (hy : Is C y (.int k b)) (ht : C.P.underlying t = some (.int k)) (h : decide (a = b) = q) : aM C (.eq t x y) (.b q) := by
 refine ⟨q, rfl, fun ρ vx vy h1 h2 D w hD => ?_⟩
 have e1 := hx ρ vx h1; have e2 := hy ρ vy h2; subst e1; subst e2; subst h
 obtain ⟨d, rfl⟩ : ∃ d, D = d + 1 := ⟨D - 1, by omega⟩
 rw [run_equalIn_int w d t _ k _ _ ht]; congr 1
theorem kEqTS {t : Nat} {q : Bool} (hx : Is C x (St' l)) (hy : Is C y (St' m)) (ht : C.P.underlying t = some .string) (h : decide (l = m) = q) : aM C (.eq t x y) (.b q) := by
 refine ⟨q, rfl, fun ρ vx vy h1 h2 D w hD => ?_⟩
 have e1 := hx ρ vx h1; have e2 := hy ρ vy h2; subst e1; subst e2; subst h
 obtain ⟨d, rfl⟩ : ∃ d, D = d + 1 := ⟨D - 1, by omega⟩
 rw [run_equalIn_string w d t _ _ ht, toL_eq, toL_eq, C7]
end
end Go.AX
end
section
namespace Go.AX
def u8 (n : Int) : UInt8 := UInt8.ofNat n.toNat
theorem nU {n : Int} (h0 : 0 ≤ n) (h : n ≤ 255) : ((u8 n).toNat : Int) = n := by
 unfold u8
 rw [UInt8.toNat_ofNat']
 have : n.toNat % 2 ^ 8 = n.toNat := Nat.mod_eq_of_lt (by omega)
 omega
theorem qz (l : List UInt8) (i : Nat) : u8 (bt l i) = l.getD i 0 := by
 unfold u8 bt
 simp
section
variable {C : Cx} {x y r : AV} {k : IntKind} {a b c : Int} {l m n : List UInt8}
theorem kLenE (hx : Is C x (St' l)) (hr : Den C r (.int .i64 c)) (hc : (l.length : Int) = c) : aM C (.len x) r := by subst hc; exact kLen hx hr
theorem kIdxE {i : Nat} (hx : Is C x (St' l)) (hy : Is C y (.int k b)) (hr : Den C r (.int .u8 c)) (hb : b = (i : Int)) (hi : i < l.length) (hc : bt l i = c) : aM C (.idx x y) r := by subst hc; exact kIdx hx hy hr hb hi
theorem bt_at {i : Nat} {q : Int} (h : l.getD i 0 = u8 q) (h0 : 0 ≤ q) (h1 : q ≤ 255) : bt l i = q := by unfold bt; rw [h]; exact nU h0 h1
theorem isB8 (h : Is C x (.int .u8 a)) (h0 : 0 ≤ a) (h1 : a ≤ 255) : Is C x (.int .u8 ((u8 a).toNat : Int)) := by rw [nU h0 h1]; exact h
inductive BY (C : Cx) : List AV → List UInt8 → Prop
 | nil : BY C [] []
 | cons {a : AV} {b : UInt8} {vs : List AV} {bs : List UInt8} : Is C a (.int .u8 (b.toNat : Int)) → BY C vs bs → BY C (a :: vs) (b :: bs)
theorem BY.rel {vs : List AV} {bs : List UInt8} (h : BY C vs bs) : ∀ ρ xs, aJ C ρ vs xs → xs = bs.map fun b => .int .u8 (b.toNat : Int) := by
 induction h with
 | nil => intro ρ xs hx; simp only [aJ] at hx; rw [hx]; rfl
 | cons h1 _ ih =>
  intro ρ xs hx
  simp only [aJ] at hx
  obtain ⟨v, vt, rfl, g1, g2⟩ := hx
  rw [h1 ρ v g1, ih ρ vt g2]; rfl
theorem kBytesB {vs : List AV} {bs : List UInt8} (h : BY C vs bs) (hr : Den C r (St' bs)) : aM C (.bytes vs) r := kBytes bs h.rel hr
theorem neT {a b : Int} (h : ¬ a = b) : (!decide (a = b)) = true := by simp [h]
theorem neF {a b : Int} (h : a = b) : (!decide (a = b)) = false := by simp [h]
theorem bnT {b : Bool} (h : b = false) : (!b) = true := by rw [h]; rfl
theorem bnF {b : Bool} (h : b = true) : (!b) = false := by rw [h]; rfl
theorem b7 {k : IntKind} {n m : Int} (h : n = m) : Is C (.i k n) (.int k m) := h ▸ ct k n
theorem denZ {k : IntKind} {n m : Int} (h : n = m) : Den C (.i k n) (.int k m) := h ▸ denI k n
theorem ar (len n : Nat) {l : List UInt8} (h : bq len n = l) : Is C (.s len n) (St' l) := h ▸ isS len n
theorem mU {l : List UInt8} (h : (l.length : Int) = 0) : decide (l = []) = true := decide_eq_true (List.eq_nil_of_length_eq_zero (by omega))
theorem fO {l : List UInt8} (h : ¬ (l.length : Int) = 0) : decide (l = []) = false := decide_eq_false fun e => h (by rw [e]; rfl)
def okB (o : Option (AV × St)) : Bool := match o with
 | some (.b true, _) => true
 | _ => false
theorem aS1 {o : Option (AV × St)} (h : okB o = true) : ∃ S, o = some (.b true, S) := by
 unfold okB at h
 split at h
 ·exact ⟨_, rfl⟩
 ·cases h
theorem hcons {h : List (HK × AV)} {k : HK} {r : AV} (h1 : aM C k r) (h2 : ∀ k r, (k, r) ∈ h → aM C k r) : ∀ k' r', (k', r') ∈ (k, r) :: h → aM C k' r' := fun k' r' hm => by
 rcases List.mem_cons.1 hm with e | e
 ·injection e with e1 e2; subst e1; subst e2; exact h1
 ·exact h2 k' r' e
theorem hnil : ∀ k r, (k, r) ∈ ([] : List (HK × AV)) → aM C k r := fun k r h => by cases h
end
theorem intOf2 {k : IntKind} {a lo hi : Int} (h : (Lit.int k a).wf = true) (h0 : IntKind.min k = lo) (hM : IntKind.max k = hi) : lo ≤ a ∧ a ≤ hi := by
 have h1 : IntKind.min k ≤ a ∧ a ≤ IntKind.max k := by simpa [Lit.wf] using h
 rw [h0, hM] at h1; exact h1
def bA (l : List Value) (i : Nat) : Value := l.getD i (.bool true)
theorem aV {l : List Value} (h : l.all (fun v => v.oneCell') = true) : ∀ i, (bA l i).oneCell' = true := fun i => by
 unfold bA
 rw [List.getD_eq_getElem?_getD]
 cases hl : l[i]? with
 | none => rfl
 | some v => exact List.all_eq_true.1 h v (List.mem_of_getElem? hl)
end Go.AX
end
section
namespace Go.AX
section
variable {C : Cx} {x y z r : AV} {k : IntKind} {a b c d : Int} {l m n : List UInt8}
theorem y4 {i : Nat} (hx : Is C x (St' l)) (hy : Is C y (.int k b)) (hr : Den C r (.int .u8 c)) (hb : b = (i : Int)) (hi : i < l.length) (hc : bt l i = c) : aM C (.gy x y) r := by
 intro ρ vx vi h1 h2
 have e1 := hx ρ vx h1; have e2 := hy ρ vi h2; subst e1; subst e2; subst hb; subst hc
 refine ⟨l, k, i, l[i], rfl, rfl, List.getElem?_eq_getElem hi, ?_⟩
 have e : l.getD i 0 = l[i] := by simp [List.getD_eq_getElem?_getD, List.getElem?_eq_getElem hi]
 have := hr ρ
 unfold bt at this
 rw [e] at this
 exact this
theorem kSet {i : Nat} (hx : Is C x (St' l)) (hy : Is C y (.int k b)) (hz : Is C z (.int .u8 d)) (hr : Den C r (St' n)) (hb : b = (i : Int)) (hi : i < l.length) (h0 : 0 ≤ d) (h1 : d ≤ 255) (hc : l.set i (u8 d) = n) : aM C (.set x y z) r := by
 intro ρ vx vi vy g1 g2 g3
 have e1 := hx ρ vx g1; have e2 := hy ρ vi g2; have e3 := hz ρ vy g3; subst e1; subst e2; subst e3; subst hb; subst hc
 exact ⟨l, k, i, u8 d, rfl, rfl, hi, by rw [nU h0 h1], hr ρ⟩
theorem kApp {ys : List AV} {bs : List UInt8} (hx : Is C x (St' l)) (hy : BY C ys bs) (hr : Den C r (St' n)) (hc : l ++ bs = n) : aM C (.app x ys) r := by
 intro ρ vx vs g1 g2
 have e1 := hx ρ vx g1; subst e1; subst hc
 exact ⟨l, bs, rfl, hy.rel ρ vs g2, hr ρ⟩
theorem yz (hx : Is C x (St' l)) (h : (l.length : Int) ≤ 140737488355328) : aM C (.fit x) r := by
 intro ρ vx g1
 have e1 := hx ρ vx g1; subst e1
 exact ⟨l, rfl, by omega⟩
theorem tE {lo hi : Option AV} {P Q : Int} (hx : Is C x (St' l)) (hlo : (lo = none ∧ P = 0) ∨ ∃ e k, lo = some e ∧ Is C e (.int k P)) (hhi : (hi = none ∧ Q = (l.length : Int)) ∨ ∃ e k, hi = some e ∧ Is C e (.int k Q))
 (h0 : 0 ≤ P) (h1 : P ≤ Q) (h2 : Q ≤ (l.length : Int)) (hr : Den C r (St' ((l.drop P.toNat).take (Q - P).toNat))) : aM C (.sub x lo hi) r := by
 have hp : P = (P.toNat : Int) := by omega
 have hq : Q = (Q.toNat : Int) := by omega
 refine kSub' (p := P.toNat) (q := Q.toNat) hx ?_ ?_ (by omega) (by omega) hr (by congr 1; omega)
 ·rcases hlo with ⟨g1, g2⟩ | ⟨e, k, g1, g2⟩
  ·exact .inl ⟨g1, by omega⟩
  ·exact .inr ⟨e, k, g1, by rw [← hp]; exact g2⟩
 ·rcases hhi with ⟨g1, g2⟩ | ⟨e, k, g1, g2⟩
  ·exact .inl ⟨g1, by omega⟩
  ·exact .inr ⟨e, k, g1, by rw [← hq]; exact g2⟩
end
end Go.AX
end
section
namespace Go.AX
section
variable {C : Cx} {x y r : AV} {l : List UInt8} {a c m n : Int}
def aF (l : List UInt8) (c : Int) : Int := Lib.indexByte l (u8 c)
theorem ew {g : Nat} {fn : Func} (hg : C.P.funcs[g]? = some fn) (h1 : (Extern.findNext fn).isNone = true) (h2 : Extern.find fn = some Extern.BytealgIndexByte.indexByte) (hx : Is C x (St' l)) (hy : Is C y (.int .u8 c)) (hr : Den C r (.int .i64 n)) (hc : aF l c = n) : aM C (.ext g [x, y]) r := by
 intro ρ args ha fn' hf
 rw [hg] at hf; injection hf with hf; subst hf
 obtain ⟨x', y', rfl, hx', hy'⟩ := rp ha
 have e1 := hx ρ x' hx'; have e2 := hy ρ y' hy'; subst e1; subst e2
 exact ⟨_, iD h1, h2, fun w => ⟨_, Lib.run_indexByteString _ _ w, by rw [← hc] at hr; exact hr ρ⟩⟩
end
end Go.AX
end
section
namespace Go.AX
section
variable {C : Cx} {x y r : AV} {l : List UInt8}
end
abbrev i6 (n : Nat) : AV := .i .i64 (.ofNat n)
abbrev u1 (n : Nat) : AV := .i .u8 (.ofNat n)
end Go.AX
end
section
namespace Go.AX
def okA (o : Option (AV × St)) (a : AV) : Bool := match o with
 | some (b, _) => fe 8 b a
 | _ => false
theorem okA_inv {o : Option (AV × St)} {a : AV} (h : okA o a = true) : ∃ S, o = some (a, S) := by
 unfold okA at h
 split at h
 ·rename_i b S
  exact ⟨S, by rw [jV 8 b a h]⟩
 ·cases h
section
variable {C : Cx}
theorem iO {a b : AV} {u v : Value} (h1 : Den C a u) (h2 : Den C b v) : Den C (.tu [a, b]) (.tuple #[u, v]) := fun ρ => by
 simp only [Rel, aJ]
 exact ⟨[u, v], rfl, u, [v], rfl, h1 ρ, v, [], rfl, h2 ρ, rfl⟩
end
end Go.AX
namespace Go.AX
end Go.AX
namespace Go.AX
end Go.AX
namespace Go.AX
section
variable {C : Cx} {x r : AV}
end
end Go.AX
namespace Go.AX
section
variable {C : Cx} {x y r : AV} {l p q : List UInt8} {k : IntKind} {b c : Int}
end
end Go.AX
namespace Go.AX
section
variable {C : Cx} {x y : AV} {l p q : List UInt8} {k : IntKind} {b : Int}
end
theorem hc {C : Cx} {k : HK} {r : AV} {l : List (HK × AV)} (h : aM C k r) (ht : ∀ k r, (k, r) ∈ l → aM C k r) : ∀ k' r', (k', r') ∈ (k, r) :: l → aM C k' r' := hcons h ht
end Go.AX
end
section
namespace Go.AX
noncomputable section
def bL (tb : Tab) (g : Nat) (fi : FI) (L : List LF) : Tab := { tb with fn := tb.fn.set g { fi with lps := L } }
theorem aq.lps {C : Cx} {tb : Tab} (h : aq C tb) {g : Nat} {fi : FI} {L : List LF} (hg : g ≤ 16777213) (hfi : tb.fn.get g = some fi) (hL : ∀ c, fi.body = some c → bV C L c) (hcf : ∀ l, l ∈ L → kM l = true → kA C g l) : aq C (bL tb g fi L) where
 tab := ⟨⟨h.tab.ty⟩, ⟨h.tab.hyp⟩, h.tab.imp, h.tab.ngl⟩
 met := h.met
 mix := h.mix
 fn := fun g' fi' h' => by
  have h'' : (tb.fn.set g { fi with lps := L }).get g' = some fi' := h'
  rw [dY _ _ _ _ hg] at h''
  split at h''
  ·rename_i e; subst e
   injection h'' with h''; subst h''
   obtain ⟨fn, hfn⟩ := h.fn _ _ hfi
   exact ⟨fn, hfn.at_, hfn.name, hfn.body, hfn.nt, hfn.res, hfn.reg, hfn.sum, hL, hcf, hfn.ext⟩
  ·obtain ⟨fn, hfn⟩ := h.fn _ _ h''
   exact ⟨fn, hfn.at_, hfn.name, hfn.body, hfn.nt, hfn.res, hfn.reg, hfn.sum, hfn.lps, hfn.cfs, hfn.ext⟩
def di : Code → List Code
 | .seq a b => di a ++ di b
 | .cond _ a b => di a ++ di b
 | .block _ b => di b
 | .loop b => b :: di b
 | _ => []
def fy : Code → List (List Nat × Code × Code)
 | .rangeFunc _ ps a b => [(ps.toList, a, b)]
 | .seq a b => fy a ++ fy b
 | .cond _ a b => fy a ++ fy b
 | .block _ b => fy b
 | .loop b => fy b
 | _ => []
theorem nb : ∀ c : Code, iB c = (fy c)[0]?
 | .seq a b => by
  unfold iB fy
  rw [nb a, nb b]
  cases h : fy a <;> simp
 | .cond _ a b => by
  unfold iB fy
  rw [nb a, nb b]
  cases h : fy a <;> simp
 | .block _ b => by unfold iB fy; exact nb b
 | .loop b => by unfold iB fy; exact nb b
 | .rangeFunc .. => rfl
 | .skip => rfl
 | .region .. => rfl
 | .exit _ => rfl
 | .scope _ => rfl
 | .label _ => rfl
 | .goto _ => rfl
 | .ret => rfl
 | .refuse _ => rfl
theorem oB {C : Cx} {L : List LF} : ∀ c : Code, (∀ b, b ∈ di c → ∀ l, l ∈ L → keyOf b = some l.key → dw C b l) → (∀ r, r ∈ fy c → ∀ l, l ∈ L → mn l = true → rfP C.P l.nt = some r) → bV C L c
 | .seq a b, h, g => ⟨oB a (fun x hx => h x (List.mem_append_left _ hx)) fun x hx => g x (List.mem_append_left _ hx), oB b (fun x hx => h x (List.mem_append_right _ hx)) fun x hx => g x (List.mem_append_right _ hx)⟩
 | .cond _ a b, h, g => ⟨oB a (fun x hx => h x (List.mem_append_left _ hx)) fun x hx => g x (List.mem_append_left _ hx), oB b (fun x hx => h x (List.mem_append_right _ hx)) fun x hx => g x (List.mem_append_right _ hx)⟩
 | .block _ b, h, g => oB b h g
 | .loop b, h, g => ⟨fun l hl hk => h b (List.mem_cons_self ..) l hl hk, oB b (fun x hx => h x (List.mem_cons_of_mem _ hx)) g⟩
 | .skip, _, _ => trivial
 | .region .., _, _ => trivial
 | .rangeFunc .., _, g => fun l hl hm => g _ (List.mem_singleton.2 rfl) l hl hm
 | .exit _, _, _ => trivial
 | .scope _, _, _ => trivial
 | .label _, _, _ => trivial
 | .goto _, _, _ => trivial
 | .ret, _, _ => trivial
 | .refuse _, _, _ => trivial
end
end Go.AX
end
section
namespace Go.AX
noncomputable section
def bG (l : List Value) (X : Nat → Value) (i : Nat) : Value := cond (Nat.blt i 1000000) (bA l i) (X (i - 1000000))
theorem bJ {l : List Value} {X : Nat → Value} (h : ∀ j, (bA l j).oneCell' = true) : ∀ i, i < 1000000 → (bG l X i).oneCell' = true := fun i hi => by
 have : Nat.blt i 1000000 = true := by simpa [Nat.blt_eq] using hi
 unfold bG; rw [this]; exact h i
theorem dT {l : List Value} {X : Nat → Value} {t : Nat} : bG l X (1000000 + t) = X t := by
 have h : Nat.blt (1000000 + t) 1000000 = false := by
  rw [Bool.eq_false_iff]; intro h; rw [Nat.blt_eq] at h; omega
 unfold bG; rw [h, cond_false, Nat.add_sub_cancel_left]
def cn : Ex → Ex → Bool
 | .normal, .normal => true
 | .exit a, .exit b => Nat.beq a b
 | .goto a, .goto b => Nat.beq a b
 | .ret, .ret => true
 | _, _ => false
theorem AO {a b : Ex} (h : cn a b = true) : a = b := by
 cases a <;> cases b <;> simp only [cn] at h <;> first | rfl | (cases h; done) | skip
 ·rw [Nat.eq_of_beq_eq_true h]
 ·rw [Nat.eq_of_beq_eq_true h]
def ve (o : Option ((Ex × Env) × St)) (ex : Ex) (q : List (Nat × AV)) (keep : List Nat) (nt : Nat) : Bool := match o with
 | some (p, _) => cn p.1 ex && lU p.2 keep && Nat.beq p.2.nt nt && rD p.2 q
 | none => false
theorem aK6 {o : Option ((Ex × Env) × St)} {ex : Ex} {q : List (Nat × AV)} {keep : List Nat} {nt : Nat} (h : ve o ex q keep nt = true) : ∃ E S, o = some ((ex, E), S) ∧ lU E keep = true ∧ E.nt = nt ∧ rD E q = true := by
 cases o with
 | none => cases h
 | some p =>
  obtain ⟨⟨e, E⟩, S⟩ := p
  simp only [ve, Bool.and_eq_true] at h
  obtain ⟨⟨⟨h1, h2⟩, h3⟩, h4⟩ := h
  exact ⟨E, S, by rw [AO h1], h2, Nat.eq_of_beq_eq_true h3, h4⟩
section
variable {C : Cx} {body : Code} {l : LF} {ep : List (Nat × AV)} {α : Type} {I : α → Prop} {μ : α → Nat} {D : α → (Nat → Value) → Cx} {x : α} {X : Nat → Value}
theorem Round.next {tb : Tab} {L : List LF} {f : Nat} {q : List (Nat × AV)} (y : α) (hall : aq (D x X) tb) (hlp : bV (D x X) L body) (hrun : ve (code tb f L body (bD (bH ep l.keep) l.nt) ⟨.leaf, tb.ng, 0, 0⟩) .normal q l.keep l.nt = true)
 (hy : I y) (hlt : μ y < μ x) (hm : ∀ s a, (s, a) ∈ ep → ∃ b, (s, b) ∈ q ∧ ∀ v, Rel (D x X) (fun _ => none) b v → Rel (D y X) (fun _ => none) a v) : Round C body l ep I μ D x X := by
 obtain ⟨E, S, h1, h2, h3, h4⟩ := aK6 hrun
 exact ⟨tb, L, f, .normal, E, S, hall, hlp, h1, h2, h3, .inl ⟨rfl, y, q, hy, hlt, h4, hm⟩⟩
theorem Round.leave {tb : Tab} {L : List LF} {f : Nat} {q : List (Nat × AV)} (hall : aq (D x X) tb) (hlp : bV (D x X) L body) (hrun : ve (code tb f L body (bD (bH ep l.keep) l.nt) ⟨.leaf, tb.ng, 0, 0⟩) l.ex q l.keep l.nt = true)
 (hne : l.ex ≠ .normal) (hm : ∀ s a, (s, a) ∈ l.post → ∃ b, (s, b) ∈ q ∧ ∀ v, Rel (D x X) (fun _ => none) b v → Rel C (fun _ => none) a v) : Round C body l ep I μ D x X := by
 obtain ⟨E, S, h1, h2, h3, h4⟩ := aK6 hrun
 exact ⟨tb, L, f, l.ex, E, S, hall, hlp, h1, h2, h3, .inr ⟨hne, rfl, q, h4, hm⟩⟩
end
def gC : List Code → Nat → Nat → Nat → Bool
 | [], _, _, _ => true
 | b :: r, k, j, i => (match keyOf b with | some k' => cond (Nat.beq k' k) (Nat.beq i j) true | none => true) && gC r k j (Nat.succ i)
theorem aC6 {k j : Nat} : ∀ (l : List Code) (i : Nat), gC l k j i = true → ∀ b, b ∈ l → keyOf b = some k → i ≤ j ∧ l[j - i]? = some b
 | [], _, _, b, hb, _ => by cases hb
 | c :: r, i, h, b, hb, hk => by
  simp only [gC, Bool.and_eq_true] at h
  rcases List.mem_cons.1 hb with e | hb
  ·subst e
   have h1 := h.1
   rw [hk] at h1
   simp only [Nat.beq_refl, cond_true] at h1
   have := Nat.eq_of_beq_eq_true h1
   subst this
   exact ⟨Nat.le_refl _, by simp⟩
  ·obtain ⟨h1, h2⟩ := aC6 r (i + 1) h.2 b hb hk
   refine ⟨by omega, ?_⟩
   rw [show j - i = (j - (i + 1)) + 1 by omega]
   simpa using h2
def gi (c : Code) (j : Nat) : Code := ((di c)[j]?).getD .skip
def A9 (C : Cx) (c : Code) (l : LF) : Prop := ((mn l || kM l) = false ∧ ∃ j, gC (di c) l.key j 0 = true ∧ dw C (gi c j) l) ∨ (kM l = false ∧ (di c).all (fun b => !(lT (keyOf b) l.key)) = true ∧ Nat.beq (fy c).length 1 = true ∧ ∃ fn, C.P.funcs[l.nt]? = some fn ∧ fn.body = some c)
def aN2 (C : Cx) (g : Nat) (c : Code) (l : LF) : Prop := A9 C c l ∨ ((mn l = false ∧ kM l = true) ∧ (di c).all (fun b => !(lT (keyOf b) l.key)) = true ∧ kA C g l)
theorem aL4 {C : Cx} {g : Nat} {c : Code} {L : List LF} (h : ∀ l, l ∈ L → aN2 C g c l) : bV C L c :=
 oB c (fun b hb l hl hk => by
  rcases h l hl with (⟨_, j, h1, h2⟩ | ⟨_, h1, _⟩) | ⟨_, h1, _⟩
  rotate_left
  ·rw [List.all_eq_true] at h1
   have := h1 b hb
   rw [hk] at this
   have e : lT (some l.key) l.key = true := Nat.beq_refl _
   rw [e] at this
   cases this
  ·rw [List.all_eq_true] at h1
   have := h1 b hb
   rw [hk] at this
   have e : lT (some l.key) l.key = true := Nat.beq_refl _
   rw [e] at this
   cases this
  obtain ⟨_, h3⟩ := aC6 _ _ h1 b hb hk
  simp only [Nat.sub_zero] at h3
  have : gi c j = b := by unfold gi; rw [h3]; rfl
  rw [this] at h2; exact h2) fun r hr l hl hm => by
  rcases h l hl with (⟨h1, _⟩ | ⟨_, _, h3, fn, h4, h5⟩) | ⟨h1, _⟩
  rotate_right
  ·rw [hm] at h1; cases h1.1
  ·rw [hm] at h1; cases h1
  ·unfold rfP
   rw [h4]
   simp only [h5]
   rw [nb]
   have hn := Nat.eq_of_beq_eq_true h3
   obtain ⟨x, hx⟩ := List.length_eq_one_iff.1 hn
   rw [hx] at hr ⊢
   rw [List.mem_singleton.1 hr]; rfl
theorem cK {C : Cx} {c : Code} {L : List LF} (h : ∀ l, l ∈ L → A9 C c l) : bV C L c := aL4 (g := 0) fun l hl => .inl (h l hl)
theorem bx {C : Cx} {c : Code} {l : LF} (hm : (mn l || kM l) = false) (h : ∃ j, gC (di c) l.key j 0 = true ∧ dw C (gi c j) l) : A9 C c l := .inl ⟨hm, h⟩
theorem aj {P : LF → Prop} : ∀ l, l ∈ ([] : List LF) → P l := fun l h => by cases h
theorem bK {P : LF → Prop} {a : LF} {r : List LF} (h : P a) (ht : ∀ l, l ∈ r → P l) : ∀ l, l ∈ a :: r → P l := fun l hl => by
 rcases List.mem_cons.1 hl with e | hl
 ·subst e; exact h
 ·exact ht l hl
theorem aq.bz {C : Cx} {tb : Tab} (h : aq C tb) {g : Nat} {fi : FI} {L : List LF} {c : Code} (hg : g ≤ 16777213) (hfi : tb.fn.get g = some fi) (hc : fi.body = some c) (hL : ∀ l, l ∈ L → A9 C c l) : aq C (bL tb g fi L) :=
 h.lps hg hfi (fun c' hc' => by rw [hc] at hc'; injection hc' with hc'; subst hc'; exact cK hL) fun l hl hcf => by
  rcases hL l hl with ⟨h1, _⟩ | ⟨h1, _⟩
  ·rw [hcf, Bool.or_true] at h1; cases h1
  ·rw [hcf] at h1; cases h1
theorem aq.lp2 {C : Cx} {tb : Tab} (h : aq C tb) {g : Nat} {fi : FI} {L : List LF} {c : Code} (hg : g ≤ 16777213) (hfi : tb.fn.get g = some fi) (hc : fi.body = some c) (hL : ∀ l, l ∈ L → aN2 C g c l) : aq C (bL tb g fi L) :=
 h.lps hg hfi (fun c' hc' => by rw [hc] at hc'; injection hc' with hc'; subst hc'; exact aL4 hL) fun l hl hcf => by
  rcases hL l hl with (⟨h1, _⟩ | ⟨h1, _⟩) | ⟨_, _, h1⟩
  ·rw [hcf, Bool.or_true] at h1; cases h1
  ·rw [hcf] at h1; cases h1
  ·exact h1
theorem ez {tb : Tab} {g : Nat} {fi : FI} {L : List LF} (hg : g ≤ 16777213) : (bL tb g fi L).fn.get g = some { fi with lps := L } := by
 show (tb.fn.set g { fi with lps := L }).get g = _
 rw [dY _ _ _ _ hg, if_pos rfl]
theorem dv {tb : Tab} {g f : Nat} {fi fj : FI} {L : List LF} (hg : g ≤ 16777213) (hne : f ≠ g) (h : tb.fn.get f = some fj) : (bL tb g fi L).fn.get f = some fj := by
 show (tb.fn.set g { fi with lps := L }).get f = _
 rw [dY _ _ _ _ hg, if_neg hne]; exact h
end
end Go.AX
end
section
namespace Go.AX
noncomputable section
/- what a run leaves, seen as a pattern: blocks renamed, symbols told -/
def gX : List (Nat × Nat) → Nat → Nat
 | [], v => v
 | p :: r, v => cond (Nat.beq p.1 v) p.2 (gX r v)
def lF : List (Nat × AV) → Nat → Option AV
 | [], _ => none
 | p :: r, i => cond (Nat.beq p.1 i) (some p.2) (lF r i)
def dK (n0 nh : Nat) (sg : List (Nat × Nat)) (v w : Nat) : Bool := cond (Nat.blt v n0) (Nat.beq v w) (Nat.blt v nh && Nat.beq (gX sg v) w)
def cC (n0 : Nat) (sg : List (Nat × Nat)) (v : Nat) : Nat := cond (Nat.blt v n0) v (gX sg v)
def inA (th : List (Nat × AV)) (q : Nat → Nat → Bool) : Nat → AV → AV → Bool
 | 0, _, _ => false
 | d + 1, a, b => match a, b with
  | .und, _ => true
  | .x i, b => (match lF th i with | some c => fe 8 c b && iE 8 b | none => false)
  | .p v o, .p w u => q v w && Nat.beq o u
  | .sl v o n c r, .sl w u m e s => q v w && Nat.beq o u && Nat.beq n m && Nat.beq c e && (r == s)
  | .sy v, .sy w => q v w
  | .mp v, .mp w => q v w
  | .yl v, .yl w => q v w
  | .sr v, .sr w => q v w
  | .pr v i z o, .pr w j t u => q v w && (inA th q d i j && (Nat.beq z t && Nat.beq o u))
  | .fn f a c, .fn g b e => Nat.beq f g && da (inA th q d) a b && da (inA th q d) c e
  | .ag l, .ag m => da (inA th q d) l m
  | .tu l, .tu m => da (inA th q d) l m
  | .aZ t x, .aZ u y => Nat.beq t u && inA th q d x y
  | .aL, .aL => true
  | .ni, .ni => true
  | .cF, .cF => true
  | .eu, .eu => true
  | .kF, .kF => true
  | .es, .es => true
  | .es, .aL => true
  | .h a, .h b => Nat.beq a b
  | .i k n, .i l m => kEq k l && ieq n m
  | .b x, .b y => x == y
  | .s k n, .s l m => Nat.beq k l && Nat.beq n m
  | _, _ => false
def inCe (th : List (Nat × AV)) (q : Nat → Nat → Bool) : Cells → Cells → Bool
 | .y k n, .y l m => Nat.beq k l && Nat.beq n m
 | .l a, c => da (inA th q 8) a c.toL
 | _, _ => false
def y9 (th : List (Nat × AV)) (q : Nat → Nat → Bool) (b : T AV) : List (Nat × AV) → Bool
 | [] => true
 | p :: r => (Nat.ble p.1 16777213 && (match b.get p.1 with | some y => inA th q 8 p.2 y | none => false)) && y9 th q b r
theorem DH {th : List (Nat × AV)} {q : Nat → Nat → Bool} {b : T AV} : ∀ {l : List (Nat × AV)}, y9 th q b l = true → ∀ s x, (s, x) ∈ l → s ≤ 16777213 ∧ ∃ y, b.get s = some y ∧ inA th q 8 x y = true
 | [], _, s, x, h => by cases h
 | p :: r, h, s, x, hm => by
  simp only [y9, Bool.and_eq_true] at h
  rcases List.mem_cons.1 hm with e | hm
  ·subst e
   obtain ⟨⟨h1, h2⟩, _⟩ := h
   simp only [] at h1 h2
   refine ⟨Nat.le_of_ble_eq_true h1, ?_⟩
   cases hg : b.get s with
   | none => rw [hg] at h2; cases h2
   | some y => rw [hg] at h2; exact ⟨y, rfl, h2⟩
  ·exact DH h.2 s x hm
def lX (th : List (Nat × AV)) (q : Nat → Nat → Bool) : aS → aS → Bool
 | .b k, .b j => Nat.beq k.e j.e && inCe th q k.c j.c && Nat.beq k.m j.m && Nat.beq k.es j.es && Nat.beq k.fr j.fr && (k.st == j.st) && (k.g == j.g)
 | .t i e, .t j f => Nat.beq e f && (match lF th i with | some c => fe 8 c (.x j) | none => false)
 | .r i e s o, .r j f t u => Nat.beq e f && (Nat.beq s t && ((o == u) && (match lF th i with | some c => fe 8 c (.x j) | none => false)))
 | .k g a n s x, .k h b m t y => Nat.beq g h && (y9 th q (ja b .leaf) a && (Nat.beq n m && (Nat.beq s t && eqX x y)))
 | _, _ => false
def kD : aS → Bool
 | .b k => !k.st || k.g
 | .r _ _ _ o => !o
 | _ => true
def iK (th : List (Nat × AV)) (q : Nat → Nat → Bool) (E : Env) : List (Nat × AV) → Bool
 | [] => true
 | p :: r => (match E.tm.get p.1 with | some b => inA th q 8 p.2 b | none => false) && iK th q E r
def dN (n0 nh : Nat) (th : List (Nat × AV)) (sg : List (Nat × Nat)) (H : T aS) : List (Nat × aS) → Bool
 | [] => true
 | p :: r => (match H.get (cC n0 sg p.1) with | some j => lX th (dK n0 nh sg) p.2 j | none => false) && cond (Nat.blt p.1 n0) true (Nat.blt p.1 nh && kD p.2) && Nat.ble p.1 16777213 && dN n0 nh th sg H r
def dM : List Nat → Bool
 | [] => true
 | a :: r => !(r.any fun b => Nat.beq a b) && dM r
def numsOf (n0 : Nat) (sg : List (Nat × Nat)) (l : List (Nat × aS)) : List Nat := l.map fun p => cC n0 sg p.1
theorem tI {th : List (Nat × AV)} {q : Nat → Nat → Bool} {k j : aS} (h : lX th q k j = true) : dh k = dh j := by
 cases k <;> cases j <;> simp only [lX] at h <;> first | rfl | (cases h; done) | skip
 simp only [Bool.and_eq_true, beq_iff_eq] at h
 exact h.2.2.1
def ren (ρ ρ2 : aY) (n0 nh : Nat) (sg : List (Nat × Nat)) : aY := fun v => if n0 ≤ v ∧ v < nh then ρ2 (gX sg v) else ρ v
section
variable {C1 C2 : Cx} {th : List (Nat × AV)} {q : Nat → Nat → Bool} {ρ1 ρ2 : aY}
def bE (C1 C2 : Cx) (th : List (Nat × AV)) : Prop := ∀ i c, lF th i = some c → Is C1 c (C2.nu i)
theorem zA (hP : C1.P = C2.P) (hth : bE C1 C2 th) (hq : ∀ v w r, q v w = true → ρ1 w = some r → ρ2 v = some r) : ∀ (d : Nat) (a b : AV), inA th q d a b = true → ∀ v, Rel C1 ρ1 b v → Rel C2 ρ2 a v
 | 0, a, b, h, v, hr => by cases h
 | d + 1, a, b, h, v, hr => by
  have ih := zA hP hth hq d
  have ihL : ∀ (l m : List AV), da (inA th q d) l m = true → ∀ vs, aJ C1 ρ1 m vs → aJ C2 ρ2 l vs := by
   intro l
   induction l with
   | nil => intro m hm vs hv; cases m with
    | nil => simpa only [aJ] using hv
    | cons => cases hm
   | cons x l ihl => intro m hm vs hv; cases m with
    | nil => cases hm
    | cons y m =>
     simp only [da, Bool.and_eq_true] at hm
     simp only [aJ] at hv ⊢
     obtain ⟨u, us, e, h1, h2⟩ := hv
     exact ⟨u, us, e, ih _ _ hm.1 u h1, ihl m hm.2 us h2⟩
  unfold inA at h
  split at h
  ·simp only [Rel]
  ·split at h
   ·rename_i i b c hc
    simp only [Bool.and_eq_true] at h
    have e := jV 8 _ _ h.1
    subst e
    simp only [Rel]
    exact hth _ _ hc ρ1 v hr
   ·cases h
  ·simp only [Bool.and_eq_true] at h
   simp only [Rel] at hr ⊢
   obtain ⟨r, h1, h2⟩ := hr
   exact ⟨r, hq _ _ _ h.1 h1, by rw [h2, Nat.eq_of_beq_eq_true h.2]⟩
  ·rename_i v0 o n c r w u m e s
   simp only [Bool.and_eq_true, beq_iff_eq] at h
   obtain ⟨⟨⟨⟨g1, g2⟩, g3⟩, g4⟩, g5⟩ := h
   have e2 := Nat.eq_of_beq_eq_true g2; have e3 := Nat.eq_of_beq_eq_true g3; have e4 := Nat.eq_of_beq_eq_true g4
   subst e2; subst e3; subst e4; subst g5
   cases r with
   | false =>
    simp only [Rel] at hr ⊢
    obtain ⟨r, h1, h2⟩ := hr
    exact ⟨r, hq _ _ _ g1 h1, h2⟩
   | true =>
    simp only [Rel] at hr ⊢
    obtain ⟨r, a, h1, h2⟩ := hr
    exact ⟨r, a, hq _ _ _ g1 h1, h2⟩
  ·simp only [Rel] at hr ⊢
   obtain ⟨r, h1, h2⟩ := hr
   exact ⟨r, hq _ _ _ h h1, h2⟩
  ·simp only [Rel] at hr ⊢
   obtain ⟨r, h1, h2⟩ := hr
   exact ⟨r, hq _ _ _ h h1, h2⟩
  ·simp only [Rel] at hr ⊢
   obtain ⟨r, h1, h2⟩ := hr
   exact ⟨r, hq _ _ _ h h1, h2⟩
  ·simp only [Rel] at hr ⊢
   obtain ⟨r, h1, h2⟩ := hr
   exact ⟨r, hq _ _ _ h h1, h2⟩
  ·simp only [Bool.and_eq_true] at h
   obtain ⟨g1, g2, g3, g4⟩ := h
   have e3 := Nat.eq_of_beq_eq_true g3; have e4 := Nat.eq_of_beq_eq_true g4
   subst e3; subst e4
   simp only [Rel] at hr ⊢
   obtain ⟨r, kk, jj, h1, h2, h3⟩ := hr
   exact ⟨r, kk, jj, hq _ _ _ g1 h1, ih _ _ g2 _ h2, h3⟩
  ·simp only [Bool.and_eq_true] at h
   have e := Nat.eq_of_beq_eq_true h.1.1
   subst e
   simp only [Rel] at hr ⊢
   obtain ⟨as, cs, e, h1, h2⟩ := hr
   exact ⟨as, cs, e, ihL _ _ h.1.2 _ h1, ihL _ _ h.2 _ h2⟩
  ·simp only [Rel] at hr ⊢
   obtain ⟨cs, e, h1⟩ := hr
   exact ⟨cs, e, ihL _ _ h _ h1⟩
  ·simp only [Rel] at hr ⊢
   obtain ⟨cs, e, h1⟩ := hr
   exact ⟨cs, e, ihL _ _ h _ h1⟩
  ·simp only [Bool.and_eq_true] at h
   have e := Nat.eq_of_beq_eq_true h.1
   subst e
   simp only [Rel] at hr ⊢
   obtain ⟨x, e, h1⟩ := hr
   exact ⟨x, e, ih _ _ h.2 _ h1⟩
  ·simpa only [Rel] using hr
  ·simpa only [Rel] using hr
  ·simpa only [Rel] using hr
  ·simpa only [Rel] using hr
  ·simpa only [Rel] using hr
  ·simpa only [Rel] using hr
  ·simp only [Rel] at hr ⊢; exact ⟨none, 0, hr⟩
  ·have e := Nat.eq_of_beq_eq_true h
   subst e
   simp only [Rel] at hr ⊢
   rw [← hP]; exact hr
  ·simp only [Bool.and_eq_true, mq, decide_eq_true_eq] at h
   simp only [Rel] at hr ⊢
   rw [hr, DB h.1, h.2]
  ·simp only [beq_iff_eq] at h
   subst h
   simpa only [Rel] using hr
  ·simp only [Bool.and_eq_true] at h
   have e1 := Nat.eq_of_beq_eq_true h.1; have e2 := Nat.eq_of_beq_eq_true h.2
   subst e1; subst e2
   simpa only [Rel] using hr
  ·cases h
theorem aN0 {s : AV → AV → Bool} : ∀ {l m : List AV}, da s l m = true → ∀ (j : Nat) a, l[j]? = some a → ∃ b, m[j]? = some b ∧ s a b = true
 | [], [], _, j, a, h => by simp at h
 | [], _ :: _, h, _, _, _ => by cases h
 | _ :: _, [], h, _, _, _ => by cases h
 | x :: l, y :: m, h, j, a, ha => by
  simp only [da, Bool.and_eq_true] at h
  cases j with
  | zero => simp at ha; subst ha; exact ⟨y, by simp, h.1⟩
  | succ j => simp at ha; obtain ⟨b, h1, h2⟩ := aN0 h.2 j a ha; exact ⟨b, by simpa using h1, h2⟩
theorem aM9 {s : AV → AV → Bool} : ∀ {l m : List AV}, da s l m = true → l.length = m.length
 | [], [], _ => rfl
 | [], _ :: _, h => by cases h
 | _ :: _, [], h => by cases h
 | x :: l, y :: m, h => by
  simp only [da, Bool.and_eq_true] at h
  simp [aM9 h.2]
theorem inCe_ok (hP : C1.P = C2.P) (hth : bE C1 C2 th) (hq : ∀ v w r, q v w = true → ρ1 w = some r → ρ2 v = some r) {c d : Cells} (h : inCe th q c d = true) {arr : Array Value} {base : Nat} (hc : ox C1 ρ1 d arr base) : ox C2 ρ2 c arr base ∧ c.len = d.len := by
 cases c with
 | y k n =>
  cases d with
  | l => cases h
  | y l m =>
   simp only [inCe, Bool.and_eq_true] at h
   have e1 := Nat.eq_of_beq_eq_true h.1; have e2 := Nat.eq_of_beq_eq_true h.2
   subst e1; subst e2
   refine ⟨⟨hc.1, fun j a hj => ?_⟩, rfl⟩
   obtain ⟨x, h1, h2, h3⟩ := hc.2 j a hj
   refine ⟨x, h1, ?_, h3⟩
   have hj : (dR k n)[j]? = some a := hj
   unfold dR at hj
   rw [List.getElem?_map] at hj
   cases hr : (List.range k)[j]? with
   | none => rw [hr] at hj; cases hj
   | some z => rw [hr] at hj; simp only [Option.map_some, Option.some.injEq] at hj; subst hj; simpa only [Rel] using h2
 | l a =>
  have h : da (inA th q 8) a d.toL = true := by cases d <;> exact h
  refine ⟨⟨trivial, fun j x hj => ?_⟩, by rw [Cells.len_eq, Cells.len_eq]; exact aM9 h⟩
  have hj : a[j]? = some x := hj
  obtain ⟨b, hb, hs⟩ := aN0 h j x hj
  obtain ⟨v, h1, h2, h3⟩ := hc.2 j b hb
  exact ⟨v, h1, zA hP hth hq 8 _ _ hs v h2, h3⟩
theorem inE_ok (hP : C1.P = C2.P) (hth : bE C1 C2 th) (hq : ∀ v w r, q v w = true → ρ1 w = some r → ρ2 v = some r) {B1 B2 : Fz} {k j : aS} (h : lX th q k j = true) {r : R} {o : Obj} (hB : dh k = false → B2 r.blk → B1 r.blk) (ho : fY C1 ρ1 B1 j r o) : fY C2 ρ2 B2 k r o := by
 cases k with
 | b k =>
  cases j with
  | b j =>
   cases o with
   | cells arr t fz =>
    simp only [lX, Bool.and_eq_true, beq_iff_eq] at h
    obtain ⟨⟨⟨⟨⟨⟨h1, h2⟩, h3⟩, h4⟩, h5⟩, h6⟩, h7⟩ := h
    have e1 := Nat.eq_of_beq_eq_true h1; have e3 := Nat.eq_of_beq_eq_true h3; have e4 := Nat.eq_of_beq_eq_true h4; have e5 := Nat.eq_of_beq_eq_true h5
    obtain ⟨t1, hb⟩ := ho
    obtain ⟨c1, c2⟩ := inCe_ok hP hth hq h2 hb.cells
    refine ⟨by rw [e1]; exact t1, c1, fun hg => ?_, fun x => by rw [e5]; exact hb.cold x, fun hs => by rw [e5]; exact hb.plain (by rw [← h6]; exact hs), fun hb2 => ?_, by rw [c2]; exact hb.room, fun hg => hb.base0 (by rw [← h7]; exact hg)⟩
    ·have := hb.grown (by rw [← h7]; exact hg)
     rw [e3, c2, e4]; exact this
    ·have := hb.old (hB rfl hb2)
     rw [c2, e5, h6, h7]; exact this
   | _ => exact ho.elim
  | _ => cases h
 | t i e =>
  cases j with
  | t j f =>
   cases o with
   | cells arr t fz =>
    simp only [lX, Bool.and_eq_true] at h
    obtain ⟨h1, h2⟩ := h
    have e1 := Nat.eq_of_beq_eq_true h1
    subst e1
    obtain ⟨t1, hb⟩ := ho
    cases hc : lF th i with
    | none => rw [hc] at h2; cases h2
    | some c =>
     rw [hc] at h2
     have e2 := jV 8 _ _ h2
     subst e2
     have hv : C1.nu j = C2.nu i := hth _ _ hc ρ1 _ (by simp only [Rel])
     refine ⟨t1, fun hb2 => hb.own (hB rfl hb2), hb.base, ?_, hb.cap, hb.room, hb.free⟩
     rw [← hv]; exact hb.str
   | _ => exact ho.elim
  | _ => cases h
 | r i e z ro =>
  cases j with
  | r j f t u =>
   cases o with
   | cells arr ty fz =>
    simp only [lX, Bool.and_eq_true, beq_iff_eq] at h
    obtain ⟨h1, h3, h4, h2⟩ := h
    have e1 := Nat.eq_of_beq_eq_true h1
    have e3 := Nat.eq_of_beq_eq_true h3
    subst e1; subst e3; subst h4
    obtain ⟨t1, hb⟩ := ho
    cases hc : lF th i with
    | none => rw [hc] at h2; cases h2
    | some c =>
     rw [hc] at h2
     have e2 := jV 8 _ _ h2
     subst e2
     have hv : C1.nu j = C2.nu i := hth _ _ hc ρ1 _ (by simp only [Rel])
     refine ⟨t1, fun hro => ?_, ?_, hb.cap, hb.pos⟩
     ·obtain ⟨q1, q2⟩ := hb.own hro
      exact ⟨fun hb2 => q1 (hB hro hb2), q2⟩
     ·rw [← hv]; exact hb.row
   | _ => exact ho.elim
  | _ => cases h
 | k g a n s x =>
  cases j with
  | k g2 b n2 s2 x2 =>
   cases o with
   | loop L =>
    simp only [lX, Bool.and_eq_true] at h
    obtain ⟨h1, h2, h3, h4, h5⟩ := h
    have e1 := Nat.eq_of_beq_eq_true h1; have e3 := Nat.eq_of_beq_eq_true h3; have e4 := Nat.eq_of_beq_eq_true h4; have e5 := eqX_eq h5
    subst e1; subst e3; subst e4; subst e5
    obtain ⟨t1, hb⟩ := ho
    refine ⟨hP ▸ t1, ⟨fun hb2 => hb.own (hB rfl hb2), rfl, rfl, rfl, hb.okA, hb.okB, hb.size, hb.nt, fun t y ht => ?_, hb.st, hb.pend⟩⟩
    rcases kG _ _ (fun p hp => (DH h2 p.1 p.2 hp).1) t y ht with hm | hm
    ·obtain ⟨_, z, hz, hi⟩ := DH h2 t y hm
     exact zA hP hth hq 8 y z hi _ (hb.tm t z hz)
    ·simp [T.dH] at hm
   | _ => exact ho.elim
  | _ => cases h
 | _ => cases j <;> cases h
end
theorem oI {th : List (Nat × AV)} {q : Nat → Nat → Bool} {E : Env} : ∀ {l : List (Nat × AV)}, iK th q E l = true → ∀ s a, (s, a) ∈ l → ∃ b, E.tm.get s = some b ∧ inA th q 8 a b = true
 | [], _, s, a, h => by cases h
 | p :: r, h, s, a, hm => by
  simp only [iK, Bool.and_eq_true] at h
  rcases List.mem_cons.1 hm with e | hm
  ·subst e
   have h1 := h.1
   simp only [] at h1
   cases hg : E.tm.get s with
   | none => rw [hg] at h1; cases h1
   | some b => rw [hg] at h1; exact ⟨b, rfl, h1⟩
  ·exact oI h.2 s a hm
structure HeapAt (n0 nh : Nat) (th : List (Nat × AV)) (sg : List (Nat × Nat)) (H : T aS) (v : Nat) (k : aS) : Prop where
 at_ : ∃ j, H.get (cC n0 sg v) = some j ∧ lX th (dK n0 nh sg) k j = true
 move : n0 ≤ v → v < nh ∧ kD k = true
 top : v ≤ 16777213
theorem iJ {n0 nh : Nat} {th : List (Nat × AV)} {sg : List (Nat × Nat)} {H : T aS} : ∀ {l : List (Nat × aS)}, dN n0 nh th sg H l = true → ∀ v k, (v, k) ∈ l → HeapAt n0 nh th sg H v k
 | [], _, v, k, h => by cases h
 | p :: r, h, v, k, hm => by
  simp only [dN, Bool.and_eq_true] at h
  rcases List.mem_cons.1 hm with e | hm
  ·subst e
   obtain ⟨⟨⟨h1, h2⟩, h3⟩, h4⟩ := h
   simp only [] at h1 h2 h3
   refine ⟨?_, fun hge => ?_, Nat.le_of_ble_eq_true h3⟩
   ·cases hg : H.get (cC n0 sg v) with
    | none => rw [hg] at h1; cases h1
    | some b => rw [hg] at h1; exact ⟨b, rfl, h1⟩
   ·have : Nat.blt v n0 = false := by rw [Bool.eq_false_iff]; intro hh; rw [Nat.blt_eq] at hh; omega
    rw [this] at h2
    simp only [cond_false, Bool.and_eq_true, Nat.blt_eq] at h2
    exact h2
  ·exact iJ h.2 v k hm
theorem aE8 {n0 : Nat} {sg : List (Nat × Nat)} : ∀ {l : List (Nat × aS)}, dM (numsOf n0 sg l) = true → ∀ v k u j, (v, k) ∈ l → (u, j) ∈ l → cC n0 sg v = cC n0 sg u → v = u
 | [], _, v, k, u, j, h, _, _ => by cases h
 | p :: r, h, v, k, u, j, hv, hu, e => by
  have h : (!((numsOf n0 sg r).any fun b => Nat.beq (cC n0 sg p.1) b) && dM (numsOf n0 sg r)) = true := h
  simp only [Bool.and_eq_true, Bool.not_eq_true', List.any_eq_false] at h
  have hno : ∀ u j, (u, j) ∈ r → cC n0 sg p.1 ≠ cC n0 sg u := fun u j hm e => by
   have := h.1 (cC n0 sg u) (List.mem_map.2 ⟨(u, j), hm, rfl⟩)
   rw [e, Nat.beq_refl] at this; exact this rfl
  rcases List.mem_cons.1 hv with e1 | g1
  ·rcases List.mem_cons.1 hu with e2 | g2
   ·rw [← e2] at e1; injection e1
   ·subst e1; exact absurd e (hno _ _ g2)
  ·rcases List.mem_cons.1 hu with e2 | g2
   ·subst e2; exact absurd e.symm (hno _ _ g1)
   ·exact aE8 h.2 v k u j g1 g2 e
theorem aR9 {C : Cx} {ρ : aY} {B : Fz} {k : aS} {r : R} {o : Obj} (ho : fY C ρ B k r o) (h : kD k = true) : ¬ B r.blk := by
 cases k <;> cases o <;> first | exact ho.elim | skip
 ·intro hb
  obtain ⟨_, h2, h3⟩ := ho.2.old hb
  simp only [kD, h2, h3] at h; cases h
 ·exact fH.own ho
 ·exact MapAt.own ho
 ·exact nN.own ho
 ·refine (ho.2.own ?_).1
  simpa [kD] using h
 ·exact ho.2.own
 ·exact fH.own ho.2
theorem inE_refl {C : Cx} {ρ : aY} {B B2 : Fz} {k : aS} {r : R} {o : Obj} (hB : B2 r.blk → B r.blk) (ho : fY C ρ B k r o) : fY C ρ B2 k r o := by
 cases k <;> cases o <;> first | exact ho.elim | skip
 ·exact ⟨ho.1, { ho.2 with old := fun h => ho.2.old (hB h) }⟩
 ·exact { (show fH C ρ B _ r _ from ho) with own := fun h => fH.own ho (hB h) }
 ·exact { (show MapAt C ρ B _ _ r _ _ from ho) with own := fun h => MapAt.own ho (hB h) }
 ·exact { (show nN C ρ B _ _ _ _ r _ _ _ _ from ho) with own := fun h => nN.own ho (hB h) }
 ·exact ⟨ho.1, { ho.2 with own := fun h => ⟨fun hb => (ho.2.own h).1 (hB hb), (ho.2.own h).2⟩ }⟩
 ·exact ⟨ho.1, { ho.2 with own := fun h => ho.2.own (hB h) }⟩
 ·exact ⟨ho.1, { (show fH C ρ B _ r _ from ho.2) with own := fun h => fH.own ho.2 (hB h) }⟩
theorem oC {l : List (Nat × aS)} (hb : ∀ v k, (v, k) ∈ l → v ≤ 16777213) {v : Nat} {k : aS} (h : (ae l .leaf).get v = some k) : (v, k) ∈ l := by
 rw [mW _ _ (fun u hu => by obtain ⟨j, hj⟩ := kL.1 hu; exact hb u j hj)] at h
 cases hg : eH l v with
 | some j => rw [hg] at h; simp only [Option.some_or, Option.some.injEq] at h; subst h; exact pZ hg
 | none => rw [hg] at h; simp [T.dH] at h
section
variable {C D : Cx} {ng n0 nh : Nat} {K : Fz} {ρ ρ2 : aY} {w : World}
theorem kU {S1 : T aS} {l : List (Nat × aS)} {th : List (Nat × AV)} {sg : List (Nat × Nat)} (hP : C.P = D.P) (hinv : C.inv = D.inv) (hnst : C.br = D.br) {B : Fz}
 (hF : Fits C ng B ρ2 S1 w) (hth : bE C D th) (my : ∀ v, v < n0 → ρ2 v = ρ v) (aW : ng ≤ n0) (hin : dN n0 nh th sg S1 l = true) (hnd : dM (numsOf n0 sg l) = true)
 (hK : ∀ k, K k → k < w.heap.size) (hlow : ∀ k, k < D.br → K k) (hKB : ∀ v k r, (v, k) ∈ l → dh k = false → ρ2 (cC n0 sg v) = some r → K r.blk → B r.blk) :
 Fits D ng K (ren ρ ρ2 n0 nh sg) (ae l .leaf) w ∧ (∀ a b v, inA th (dK n0 nh sg) 8 a b = true → Rel C ρ2 b v → Rel D (ren ρ ρ2 n0 nh sg) a v) := by
 have hq : ∀ v u r, dK n0 nh sg v u = true → ρ2 u = some r → ren ρ ρ2 n0 nh sg v = some r := fun v u r hs hr => by
  unfold dK at hs
  unfold ren
  cases hlt : Nat.blt v n0 with
  | true =>
   rw [hlt, cond_true] at hs
   have e := Nat.eq_of_beq_eq_true hs
   subst e
   rw [Nat.blt_eq] at hlt
   rw [if_neg (by omega), ← my v hlt]; exact hr
  | false =>
   rw [hlt, cond_false, Bool.and_eq_true, Nat.blt_eq] at hs
   have hlt : ¬ v < n0 := fun h => by rw [← Nat.blt_eq, hlt] at h; cases h
   rw [if_pos ⟨by omega, hs.1⟩, Nat.eq_of_beq_eq_true hs.2]; exact hr
 have hnum : ∀ v k, (v, k) ∈ l → ren ρ ρ2 n0 nh sg v = ρ2 (cC n0 sg v) := fun v k hm => by
  obtain ⟨_, h3, _⟩ := iJ hin v k hm
  unfold ren cC
  cases hlt : Nat.blt v n0 with
  | true => rw [Nat.blt_eq] at hlt; rw [if_neg (by omega), cond_true, my v hlt]
  | false =>
   have hlt : ¬ v < n0 := fun h => by rw [← Nat.blt_eq, hlt] at h; cases h
   rw [if_pos ⟨by omega, (h3 (by omega)).1⟩, cond_false]
 have hmem : ∀ v k, (ae l .leaf).get v = some k → (v, k) ∈ l := fun v k h => oC (fun u j hu => (iJ hin u j hu).top) h
 refine ⟨⟨hK, fun g hg => ?_, fun v k hv => ?_, fun v v' k k' r r' hv hv' hr hr' he => ?_, hlow, hinv ▸ hF.inv⟩, fun a b v hi hr => zA hP hth hq 8 a b hi v hr⟩
 ·unfold ren; rw [if_neg (by omega), ← my g (by omega)]; exact hF.glob g hg
 ·have hm := hmem v k hv
  obtain ⟨⟨j, h1, h2⟩, _⟩ := iJ hin v k hm
  obtain ⟨r, h3, o, h4, h5⟩ := hF.blk _ _ h1
  exact ⟨r, by rw [hnum v k hm]; exact h3, o, h4, inE_ok hP hth hq h2 (fun hro => hKB v k r hm hro h3) h5⟩
 ·have hm := hmem v k hv
  have hm' := hmem v' k' hv'
  obtain ⟨⟨j, h1, hq1⟩, _⟩ := iJ hin v k hm
  obtain ⟨⟨j', h1', hq2⟩, _⟩ := iJ hin v' k' hm'
  rw [hnum v k hm] at hr; rw [hnum v' k' hm'] at hr'
  rcases hF.inj _ _ _ _ _ _ h1 h1' hr hr' he with e | ⟨e1, e2⟩
  ·exact .inl (aE8 hnd v k v' k' hm hm' e)
  ·exact .inr ⟨by rw [tI hq1]; exact e1, by rw [tI hq2]; exact e2⟩
end
def dL (B : Fz) (ρ : aY) (h : LH) (w : World) : Fz := fun k => B k ∨ (k < w.heap.size ∧ ∀ v j r, (v, j) ∈ h.pre → dh j = false → ρ v = some r → r.blk ≠ k)
theorem AB {C : Cx} {B : Fz} {ρ ρ' : aY} {h : LH} {H : T aS} {w w' : World} (hh : nM h) (hF : Fits C h.ng B ρ H w) (hpre : ∀ v k, (v, k) ∈ h.pre → H.get v = some k) (hfree : Free ρ h.n0 h.n1)
 (hb : Below (dL B ρ h w) w w') (hF' : Fits C h.ng (dL B ρ h w) ρ' (ae h.post .leaf) w') (he : Ext ρ ρ' h.n0 h.n1) (hown : ∀ v k, (v, k) ∈ h.post → h.n0 ≤ v → kD k = true) : Fits C h.ng B ρ' (ee h H) w' := by
 have htop := hh.top
 have hsub := he.sub hfree
 have hget : ∀ v k, (ee h H).get v = some k → (eH h.post v = some k) ∨ (isK h.pre v = false ∧ ¬ (h.n0 ≤ v ∧ v < h.n1) ∧ H.get v = some k) := fun v k hv => by
  rw [pY hh] at hv
  cases hg : eH h.post v with
  | some j => rw [hg] at hv; left; simpa using hv
  | none =>
   rw [hg] at hv
   simp only [Option.none_or] at hv
   split at hv
   ·cases hv
   ·split at hv
    ·cases hv
    ·rename_i e1 e2; right; exact ⟨by simpa using e2, e1, hv⟩
 have hset : ∀ v k, eH h.post v = some k → (ae h.post .leaf).get v = some k := fun v k hv => by
  rw [mW _ _ (fun u hu => by have := (hh.post u hu).1; omega), hv]; rfl
 have hρ : ∀ v, ¬ (h.n0 ≤ v ∧ v < h.n1) → ρ' v = ρ v := fun v hv => he v (by have := hh.le; omega)
 have hfr : ∀ v k r, isK h.pre v = false → H.get v = some k → ρ v = some r → dL B ρ h w r.blk := fun v k r hn hv hr => by
  obtain ⟨r', h1, o, h2, _⟩ := hF.blk v k hv
  rw [hr] at h1; injection h1 with h1; subst h1
  refine .inr ⟨tW h2, fun u j ru hj hjr hru e => ?_⟩
  have hu : isK h.pre u = true := kL.2 ⟨j, hj⟩
  have := hF.solo hv (hpre u j hj) hr hru hjr e.symm
  subst this; rw [hn] at hu; cases hu
 refine ⟨fun k hk => Nat.lt_of_lt_of_le (hF.size k hk) hb.size, hF'.glob, fun v k hv => ?_, fun v v' k k' r r' hv hv' hr hr' e => ?_, hF.low, hF'.inv⟩
 ·rcases hget v k hv with g | ⟨g1, g2, g3⟩
  ·obtain ⟨r, h1, o, h2, h3⟩ := hF'.blk v k (hset v k g)
   exact ⟨r, h1, o, h2, inE_refl (fun hb => .inl hb) h3⟩
  ·obtain ⟨r, h1, o, h2, h3⟩ := hF.blk v k g3
   refine ⟨r, hsub _ _ h1, o, ?_, h3.mono hsub⟩
   rw [hb.block _ (hfr v k r g1 g3 h1)]; exact h2
 ·have cross : ∀ v v' k k' r r', eH h.post v = some k → isK h.pre v' = false → ¬ (h.n0 ≤ v' ∧ v' < h.n1) → H.get v' = some k' → ρ' v = some r → ρ' v' = some r' → r.blk = r'.blk → v = v' ∨ (dh k = true ∧ dh k' = true) := fun v v' k k' r r' g g1 g2 g3 hr hr' e => by
   rw [hρ v' g2] at hr'
   have hfz := hfr v' k' r' g1 g3 hr'
   have hm := pZ g
   by_cases hlt : v < h.n0
   ·have hp : isK h.pre v = true := (hh.post v (kL.2 ⟨k, hm⟩)).2.resolve_right (by omega)
    obtain ⟨j, hj⟩ := kL.1 hp
    rw [hρ v (by omega)] at hr
    rcases hF.inj v v' j k' r r' (hpre v j hj) g3 hr hr' e with e1 | ⟨e1, e2⟩
    ·subst e1; rw [g1] at hp; cases hp
    ·exact .inr ⟨hh.ro v k j hm hj e1, e2⟩
   ·obtain ⟨r2, h1, o, h2, h3⟩ := hF'.blk v k (hset v k g)
    rw [hr] at h1; injection h1 with h1; subst h1
    exact (aR9 h3 (hown v k hm (by omega)) (e ▸ hfz)).elim
  rcases hget v k hv with g | ⟨g1, g2, g3⟩ <;> rcases hget v' k' hv' with g' | ⟨g1', g2', g3'⟩
  ·exact hF'.inj v v' k k' r r' (hset v k g) (hset v' k' g') hr hr' e
  ·exact cross v v' k k' r r' g g1' g2' g3' hr hr' e
  ·exact (cross v' v k' k r' r g' g1 g2 g3 hr' hr e.symm).imp Eq.symm And.symm
  ·rw [hρ v g2] at hr; rw [hρ v' g2'] at hr'
   exact hF.inj v v' k k' r r' g3 g3' hr hr' e
end
end Go.AX
end
section
namespace Go.AX
noncomputable section
def bP (o : Option ((Ex × Env) × St)) (ex : Ex) (keep : List Nat) (nt n1 : Nat) (th : List (Nat × AV)) (sg : List (Nat × Nat)) (n0 nh : Nat) (ep : List (Nat × AV)) (hp : List (Nat × aS)) : Bool := match o with
 | some (p, S) => cn p.1 ex && Nat.ble S.next n1 && lU p.2 keep && Nat.beq p.2.nt nt && iK th (dK n0 nh sg) p.2 ep && dN n0 nh th sg S.heap hp && dM (numsOf n0 sg hp)
 | none => false
structure bj (E : Cx) (body : Code) (keep : List Nat) (nt : Nat) (ex' : Ex) (ng n0 nh n1 : Nat) {α : Type} (ep : α → List (Nat × AV)) (hp : α → List (Nat × aS)) (dn : List (Nat × AV)) (hpx : List (Nat × aS)) (I : α → Prop) (μ : α → Nat) (D : α → (Nat → Value) → Cx) (x : α) (X : Nat → Value) : Prop where
 run : ∃ (tb : Tab) (L : List LF) (f : Nat) (th : List (Nat × AV)) (sg : List (Nat × Nat)), aq (D x X) tb ∧ bV (D x X) L body ∧ tb.ng = ng ∧
  ((∃ y, I y ∧ μ y < μ x ∧ bE (D x X) (D y X) th ∧ bP (code tb f L body (bD (bH (ep x) keep) nt) ⟨ae (hp x) .leaf, nh, 0, 0⟩) .normal keep nt n1 th sg n0 nh (ep y) (hp y) = true) ∨
   (ex' ≠ .normal ∧ bE (D x X) E th ∧ bP (code tb f L body (bD (bH (ep x) keep) nt) ⟨ae (hp x) .leaf, nh, 0, 0⟩) ex' keep nt n1 th sg n0 n1 dn hpx = true))
theorem aE5 {o : Option ((Ex × Env) × St)} {ex : Ex} {keep : List Nat} {nt n1 : Nat} {th : List (Nat × AV)} {sg : List (Nat × Nat)} {n0 nh : Nat} {ep : List (Nat × AV)} {hp : List (Nat × aS)} (h : bP o ex keep nt n1 th sg n0 nh ep hp = true) :
 ∃ E1 S1, o = some ((ex, E1), S1) ∧ S1.next ≤ n1 ∧ lU E1 keep = true ∧ E1.nt = nt ∧ iK th (dK n0 nh sg) E1 ep = true ∧ dN n0 nh th sg S1.heap hp = true ∧ dM (numsOf n0 sg hp) = true := by
 cases o with
 | none => cases h
 | some p =>
  obtain ⟨⟨e, E⟩, S⟩ := p
  simp only [bP, Bool.and_eq_true] at h
  obtain ⟨⟨⟨⟨⟨⟨h1, h2⟩, h3⟩, h4⟩, h5⟩, h6⟩, h7⟩ := h
  exact ⟨E, S, by rw [AO h1], Nat.le_of_ble_eq_true h2, h3, Nat.eq_of_beq_eq_true h4, h5, h6, h7⟩
theorem headOf_bd {ep : List (Nat × AV)} {keep : List Nat} (hb : (dX ep && ef keep) = true) : ∀ p, p ∈ bH ep keep → p.1 ≤ 16777213 := fun p hp => by
 rw [Bool.and_eq_true] at hb
 obtain ⟨s, x⟩ := p
 rcases aD1 _ _ _ _ hp with h | h
 ·exact oF hb.1 _ h
 ·exact Cw hb.2 _ h.1
theorem loop_okH {C E : Cx} {body : Code} {l : LF} {h : LH} {keep : List Nat} {nt : Nat} {ex : Ex} {ng n0 nh n1 : Nat} {α : Type} {ep : α → List (Nat × AV)} {hp : α → List (Nat × aS)} {dn : List (Nat × AV)} {hpx : List (Nat × aS)} (I : α → Prop) (μ : α → Nat) (D : α → (Nat → Value) → Cx)
 (hP : ∀ x X, (D x X).P = C.P) (hi : ∀ x X, (D x X).inv = C.inv) (hn : ∀ x X, (D x X).br = C.br) (hX : ∀ x X t, t ∈ keep → (D x X).nu (1000000 + t) = X t)
 (lk : E.P = C.P) (lh : E.inv = C.inv) (jl : E.br = C.br)
 (hkeep : l.keep = keep) (hlnt : l.nt = nt) (hex : l.ex = ex) (hgn : h.ng = ng) (hn0 : h.n0 = n0) (hn1 : h.n1 = n1)
 (hb : ∀ x, (dX (ep x) && ef keep) = true) (hbx : dX dn = true) (jk : n0 ≤ nh ∧ nh ≤ n1)
 (start : α) (hstart : I start) {ao : List (Nat × AV)} {ai : List (Nat × Nat)} (dt : ∀ X, bE C (D start X) ao) (h0e : iK ao (dK n0 nh ai) (bD l.pre nt) (ep start) = true) (hlp : dX l.pre = true)
 (h0h : dN n0 nh ao ai (ae h.pre .leaf) (hp start) = true) (h0n : dM (numsOf n0 ai (hp start)) = true)
 {ak : List (Nat × AV)} (dr : bE E C ak) (hxe : iK ak (dK n0 n1 []) (bD dn nt) l.post = true) (hxh : dN n0 n1 ak [] (ae hpx .leaf) h.post = true) (hxn : dM (numsOf n0 [] h.post) = true)
 (hr : ∀ x X, I x → bj E body keep nt ex ng n0 nh n1 ep hp dn hpx I μ D x X) : qo C body l h := by
 subst hkeep; subst hlnt; subst hex; subst hgn; subst hn0; subst hn1
 intro Φ ν Q a w B ρ H hΦ hc hF aW hh hpre hfree hsz hnt FX hK
 have hle := hh.le
 have htop := hh.top
 have kT : ∀ k, B k → dL B ρ h w k := fun k hk => .inl hk
 -- the heads
 have key : ∀ (n : Nat) (x : α), μ x < n → I x → ∀ (X : Nat → Value) (ρ1 : aY) (a1 : Act) (w1 : World),
  Fits (D x X) h.ng (dL B ρ h w) ρ1 (ae (hp x) .leaf) w1 → Ext ρ ρ1 h.n0 nh → Below (dL B ρ h w) w w1 → a1.tmps.size = l.nt →
  (∀ s y, (s, y) ∈ ep x → Rel (D x X) ρ1 y (a1.tmps.getD s undef)) → (∀ t, t ∈ l.keep → a1.tmps.getD t undef = X t) →
  (∀ ρ' a' w', a'.tmps.size = l.nt → (∀ s, s ∈ l.keep → a'.tmps.getD s undef = X s) → (∀ s y, (s, y) ∈ l.post → Rel C ρ' y (a'.tmps.getD s undef)) → iT a1 a' w1 w' →
    Fits C h.ng (dL B ρ h w) ρ' (ae h.post .leaf) w' → (∀ v k, (v, k) ∈ h.post → h.n0 ≤ v → kD k = true) → Ext ρ ρ' h.n0 h.n1 → Below (dL B ρ h w) w1 w' → Q (oQ l.ex) a' w') →
  fX Φ ν C.P body Q a1 w1 := by
  intro n
  induction n with
  | zero => intro x hx; omega
  | succ n ih =>
   intro x hx hI X ρ1 a1 w1 hF1 he1 hb1 hsz1 hep hkeep hK1
   obtain ⟨tb, L, f, th, sg, hall, hlpo, htn, hcase⟩ := (hr x X hI).run
   obtain ⟨ex, E1, S1, hrun, hnx, hkept, hnt1, hcase⟩ : ∃ ex E1 S1, code tb f L body (bD (bH (ep x) l.keep) l.nt) ⟨ae (hp x) .leaf, nh, 0, 0⟩ = some ((ex, E1), S1) ∧ S1.next ≤ h.n1 ∧ lU E1 l.keep = true ∧ E1.nt = l.nt ∧
    ((ex = .normal ∧ ∃ y, I y ∧ μ y < μ x ∧ bE (D x X) (D y X) th ∧ iK th (dK h.n0 nh sg) E1 (ep y) = true ∧ dN h.n0 nh th sg S1.heap (hp y) = true ∧ dM (numsOf h.n0 sg (hp y)) = true) ∨
     (ex ≠ .normal ∧ ex = l.ex ∧ bE (D x X) E th ∧ iK th (dK h.n0 h.n1 sg) E1 dn = true ∧ dN h.n0 h.n1 th sg S1.heap hpx = true ∧ dM (numsOf h.n0 sg hpx) = true)) := by
    rcases hcase with ⟨y, hy, hlt, hth, hrd⟩ | ⟨hne, hth, hrd⟩
    ·obtain ⟨E1, S1, g1, g2, g3, g4, g5, g6, g7⟩ := aE5 hrd
     exact ⟨_, E1, S1, g1, g2, g3, g4, .inl ⟨rfl, y, hy, hlt, hth, g5, g6, g7⟩⟩
    ·obtain ⟨E1, S1, g1, g2, g3, g4, g5, g6, g7⟩ := aE5 hrd
     exact ⟨_, E1, S1, g1, g2, g3, g4, .inr ⟨hne, rfl, hth, g5, g6, g7⟩⟩
   have hP' := hP x X
   refine fX.step ?_
   have hE : eV (D x X) ρ1 (bD (bH (ep x) l.keep) l.nt) a1 := by
    refine ⟨hsz1, hnt, fun t y ht => ?_⟩
    rcases kG _ _ (headOf_bd (hb x)) t y ht with g | g
    ·rcases aD1 _ _ _ _ g with h1 | h1
     ·exact hep t y h1
     ·obtain ⟨h1, rfl⟩ := h1
      simp only [Rel]
      rw [hX x X t h1]; exact hkeep t h1
    ·simp [T.dH] at g
   have Fm : Free ρ1 nh h.n1 := fun v g1 g2 => by rw [he1 v (by omega)]; exact hfree v (by omega) g2
   have hgo := (eJ (C := D x X) (B := dL B ρ h w) (F := f) (Φ := Φ) (ν := ν) hΦ (fun g _ => cr_ok hall g) hall.tab hall.met hall.mix hall.fn f (Nat.le_refl _) L body (bD (bH (ep x) l.keep) l.nt) ⟨ae (hp x) .leaf, nh, 0, 0⟩ ex E1 S1 ρ1 a1 w1
    (Exit.then (fX Φ ν C.P body Q) Q) hc.loop hlpo hrun (by rw [htn]; exact hF1) (by show tb.ng ≤ nh; omega) hE (fun v g1 g2 => Fm v g1 (by omega)) ?_).1
   ·rw [hP'] at hgo; exact hgo
   ·intro ρ2 a2 w2 e1 e2 e3 e4 e5
    have e4 : Ext ρ1 ρ2 nh S1.next := e4
    rw [htn] at e3
    have hkp : ∀ t, t ∈ l.keep → a2.tmps.getD t undef = X t := fun t ht => by
     have := e1.2.2 t _ (aB4 hkept t ht)
     simp only [Rel] at this
     rw [this]; exact hX x X t ht
    have hsz2 : a2.tmps.size = l.nt := e1.1.trans hnt1
    have my : ∀ v, v < h.n0 → ρ2 v = ρ v := fun v hv => by rw [e4 v (by omega), he1 v (by omega)]
    have hb2 := hb1.trans e5
    have hKs : ∀ k, dL B ρ h w k → k < w2.heap.size := fun k hk => by
     have := hb2.size
     rcases hk with hk | hk
     ·have := hF.size k hk; omega
     ·omega
    have hext : ∀ hi, h.n0 ≤ hi → hi ≤ h.n1 → Ext ρ (ren ρ ρ2 h.n0 hi sg) h.n0 hi := fun hi _ _ v hv => by unfold ren; rw [if_neg (by omega)]
    rcases hcase with ⟨rfl, y, hy, hlt, hth, hen, hhe, hnd⟩ | ⟨hne, rfl, hth, hen, hhe, hnd⟩
    ·show fX Φ ν C.P body Q a2 w2
     obtain ⟨g1, g2⟩ := kU (C := D x X) (D := D y X) (ρ := ρ) (K := dL B ρ h w) (by rw [hP, hP]) (by rw [hi, hi]) (by rw [hn, hn]) e3 hth my aW hhe hnd hKs
      (fun k hk => kT k (hF.low k (by rw [← hn y X]; exact hk))) (fun v k r _ _ _ hk => hk)
     refine ih y (by omega) hy X _ a2 w2 g1 (hext nh jk.1 jk.2) hb2 hsz2 (fun s b hs => ?_) hkp fun ρ' a3 w3 k1 k2 k3 k4 k5 k6 k7 k8 => ?_
     ·obtain ⟨c, hc1, hc2⟩ := oI hen s b hs
      exact g2 _ _ _ hc2 (e1.2.2 s c hc1)
     ·exact hK1 ρ' a3 w3 k1 k2 k3 (e2.trans k4 e5 k8) k5 k6 k7 (e5.trans k8)
    ·obtain ⟨g1, g2⟩ := kU (C := D x X) (D := E) (ρ := ρ) (K := dL B ρ h w) ((hP x X).trans lk.symm) ((hi x X).trans lh.symm) ((hn x X).trans jl.symm) e3 hth my aW hhe hnd hKs
      (fun k hk => kT k (hF.low k (by rw [← jl]; exact hk))) (fun v k r _ _ _ hk => hk)
     obtain ⟨g3, g4⟩ := kU (C := E) (D := C) (ρ := ρ) (K := dL B ρ h w) lk lh jl g1 dr (fun v hv => by unfold ren; rw [if_neg (by omega)]) aW hxh hxn hKs
      (fun k hk => kT k (hF.low k hk)) (fun v k r _ _ _ hk => hk)
     have hfin : Q (oQ l.ex) a2 w2 := hK1 _ a2 w2 hsz2 hkp (fun s b hs => by
      obtain ⟨c, hc1, hc2⟩ := oI hxe s b hs
      refine g4 _ _ _ hc2 ?_
      rcases kG _ _ (fun p hp => oF hbx p hp) s c hc1 with g | g
      ·obtain ⟨d, hd1, hd2⟩ := oI hen s c g
       exact g2 _ _ _ hd2 (e1.2.2 s d hd1)
      ·simp [T.dH] at g) e2 g3 (fun v k hm hge => ((iJ hxh v k hm).move hge).2) (fun v hv => by unfold ren; rw [if_neg (by omega)]) e5
     cases hx : l.ex with
     | normal => exact absurd hx hne
     | exit id => rw [hx] at hfin; exact hfin
     | goto l => rw [hx] at hfin; exact hfin
     | ret => rw [hx] at hfin; exact hfin
 -- the start
 have mu : ∀ v k, (v, k) ∈ h.pre → v ≤ 16777213 := fun v k hm => by have := hh.pre v (kL.2 ⟨k, hm⟩); omega
 have hF0 : Fits C h.ng B ρ (ae h.pre .leaf) w := hF.sub fun v k hv => hpre v k (oC mu hv)
 obtain ⟨g1, g2⟩ := kU (C := C) (D := D start (fun t => a.tmps.getD t undef)) (ρ := ρ) (K := dL B ρ h w) (hP _ _).symm (hi _ _).symm (hn _ _).symm hF0 (dt _) (fun v _ => rfl) aW h0h h0n
  (fun k hk => by
    rcases hk with hk | hk
    ·exact hF.size k hk
    ·exact hk.1) (fun k hk => kT k (hF.low k (by rw [← hn start _]; exact hk))) (fun v k r hm hkr hr hk => by
    rcases hk with hk | hk
    ·exact hk
    ·obtain ⟨⟨j, hj, hjk⟩, _⟩ := iJ h0h v k hm
     exact absurd rfl (hk.2 _ j r (oC mu hj) (by rw [← tI hjk]; exact hkr) hr))
 refine key _ start (Nat.lt_succ_self _) hstart _ _ a w g1 (fun v hv => by unfold ren; rw [if_neg (by omega)]) (Below.refl _ _) hsz (fun s y hs => ?_) (fun t ht => rfl) fun ρ' a' w' k1 k2 k3 k4 k5 k6 k7 k8 => ?_
 ·obtain ⟨b, hb1, hb2⟩ := oI h0e s y hs
  refine g2 _ _ _ hb2 (FX s b ?_)
  rcases kG _ _ (fun p hp => oF hlp p hp) s b hb1 with g | g
  ·exact g
  ·simp [T.dH] at g
 ·exact hK ρ' a' w' (by rw [k1, hsz]) k2 k3 k4 (AB hh hF hpre hfree k8 k5 k7 k6) k7 (Below.less k8 kT)
end
end Go.AX
end
section
namespace Go.AX
noncomputable section
def sW : List Nat → List Nat → Bool
 | [], [] => true
 | a :: l, b :: m => Nat.beq a b && sW l m
 | _, _ => false
theorem Cd : ∀ {a b : List Nat}, sW a b = true → a = b
 | [], [], _ => rfl
 | [], _ :: _, h => by cases h
 | _ :: _, [], h => by cases h
 | a :: l, b :: m, h => by
  simp only [sW, Bool.and_eq_true] at h
  rw [Nat.eq_of_beq_eq_true h.1, Cd h.2]
def yo (l : LF) (h : LH) (nt : Nat) (keep : List Nat) (ex : Ex) (ng n0 n1 : Nat) : Bool := sW l.keep keep && Nat.beq l.nt nt && cn l.ex ex && Nat.beq h.ng ng && Nat.beq h.n0 n0 && Nat.beq h.n1 n1 && dX l.pre
def vP (l : LF) (h : LH) (nt n0 nh : Nat) (ao : List (Nat × AV)) (ai : List (Nat × Nat)) (ep : List (Nat × AV)) (hp : List (Nat × aS)) : Bool := iK ao (dK n0 nh ai) (bD l.pre nt) ep && dN n0 nh ao ai (ae h.pre .leaf) hp && dM (numsOf n0 ai hp)
def AM (l : LF) (h : LH) (nt n0 n1 : Nat) (ak : List (Nat × AV)) (dn : List (Nat × AV)) (hpx : List (Nat × aS)) : Bool := iK ak (dK n0 n1 []) (bD dn nt) l.post && dN n0 n1 ak [] (ae hpx .leaf) h.post && dM (numsOf n0 [] h.post)
theorem aI {C1 C2 : Cx} : bE C1 C2 [] := fun i c h => by cases h
theorem ad {C1 C2 : Cx} {i : Nat} {c : AV} {r : List (Nat × AV)} (h : Is C1 c (C2.nu i)) (ht : bE C1 C2 r) : bE C1 C2 ((i, c) :: r) := fun j d hd => by
 unfold lF at hd
 cases hb : Nat.beq i j with
 | true =>
  rw [hb, cond_true] at hd
  injection hd with hd
  have := Nat.eq_of_beq_eq_true hb
  subst this; subst hd; exact h
 | false => rw [hb, cond_false] at hd; exact ht j d hd
theorem bg {C : Cx} {a : AV} {v u : Value} (h : Is C a v) (e : v = u) : Is C a u := e ▸ h
theorem lfOkX {C E : Cx} {body : Code} {l : LF} {h : LH} {keep : List Nat} {nt : Nat} {ex : Ex} {ng n0 nh n1 : Nat} {α : Type} {ep : α → List (Nat × AV)} {hp : α → List (Nat × aS)} {dn : List (Nat × AV)} {hpx : List (Nat × aS)} (I : α → Prop) (μ : α → Nat) (D : α → (Nat → Value) → Cx)
 (hP : ∀ x X, (D x X).P = C.P) (hi : ∀ x X, (D x X).inv = C.inv) (hn : ∀ x X, (D x X).br = C.br) (hX : ∀ x X t, t ∈ keep → (D x X).nu (1000000 + t) = X t)
 (lk : E.P = C.P) (lh : E.inv = C.inv) (jl : E.br = C.br) (hl : l.hp = some h) (hs : yo l h nt keep ex ng n0 n1 = true)
 (hb : ∀ x, (dX (ep x) && ef keep) = true) (hbx : dX dn = true) (jk : (Nat.ble n0 nh && Nat.ble nh n1) = true)
 (start : α) (hstart : I start) {ao : List (Nat × AV)} {ai : List (Nat × Nat)} (dt : ∀ X, bE C (D start X) ao) (h0 : vP l h nt n0 nh ao ai (ep start) (hp start) = true)
 {ak : List (Nat × AV)} (dr : bE E C ak) (hx : AM l h nt n0 n1 ak dn hpx = true)
 (hr : ∀ x X, I x → bj E body keep nt ex ng n0 nh n1 ep hp dn hpx I μ D x X) : dw C body l := by
 simp only [yo, vP, AM, Bool.and_eq_true] at hs h0 hx jk
 exact dw.h hl (loop_okH I μ D hP hi hn hX lk lh jl (Cd hs.1.1.1.1.1.1) (Nat.eq_of_beq_eq_true hs.1.1.1.1.1.2) (AO hs.1.1.1.1.2) (Nat.eq_of_beq_eq_true hs.1.1.1.2) (Nat.eq_of_beq_eq_true hs.1.1.2) (Nat.eq_of_beq_eq_true hs.1.2) hb hbx
  ⟨Nat.le_of_ble_eq_true jk.1, Nat.le_of_ble_eq_true jk.2⟩ start hstart dt h0.1.1 hs.2 h0.1.2 h0.2 dr hx.1.1 hx.1.2 hx.2 hr)
section
variable {E : Cx} {body : Code} {keep : List Nat} {nt : Nat} {ex : Ex} {ng n0 nh n1 : Nat} {α : Type} {ep : α → List (Nat × AV)} {hp : α → List (Nat × aS)} {dn : List (Nat × AV)} {hpx : List (Nat × aS)} {I : α → Prop} {μ : α → Nat} {D : α → (Nat → Value) → Cx} {x : α} {X : Nat → Value}
theorem bj.next {tb : Tab} {L : List LF} {f : Nat} {th : List (Nat × AV)} {sg : List (Nat × Nat)} (y : α) (hall : aq (D x X) tb) (hlp : bV (D x X) L body) (aW : tb.ng = ng) (hy : I y) (hlt : μ y < μ x) (hth : bE (D x X) (D y X) th)
 (hrun : bP (code tb f L body (bD (bH (ep x) keep) nt) ⟨ae (hp x) .leaf, nh, 0, 0⟩) .normal keep nt n1 th sg n0 nh (ep y) (hp y) = true) : bj E body keep nt ex ng n0 nh n1 ep hp dn hpx I μ D x X :=
 ⟨tb, L, f, th, sg, hall, hlp, aW, .inl ⟨y, hy, hlt, hth, hrun⟩⟩
theorem bj.leave {tb : Tab} {L : List LF} {f : Nat} {th : List (Nat × AV)} {sg : List (Nat × Nat)} (hall : aq (D x X) tb) (hlp : bV (D x X) L body) (aW : tb.ng = ng) (hne : cn ex .normal = false) (hth : bE (D x X) E th)
 (hrun : bP (code tb f L body (bD (bH (ep x) keep) nt) ⟨ae (hp x) .leaf, nh, 0, 0⟩) ex keep nt n1 th sg n0 n1 dn hpx = true) : bj E body keep nt ex ng n0 nh n1 ep hp dn hpx I μ D x X :=
 ⟨tb, L, f, th, sg, hall, hlp, aW, .inr ⟨(fun e => by subst e; cases hne), hth, hrun⟩⟩
end
/- classes of bytes, by a mask -/
def tb8 (M : Nat) (c : Int) : Bool := M.testBit c.toNat
end
end Go.AX
namespace Go.AX
theorem dJ {C : Cx} {x : Bool} (h : x = true) : Den C (.b true) (.bool x) := by subst h; exact uJ true
theorem jy {C : Cx} {x : Bool} (h : ¬ (x = true)) : Den C (.b false) (.bool x) := by
 cases x with
 | true => exact absurd rfl h
 | false => exact uJ false
end Go.AX
namespace Go.AX
theorem thX {C1 C2 : Cx} {i id : Nat} {r : List (Nat × AV)} (h : C1.nu id = C2.nu i) (ht : bE C1 C2 r) : bE C1 C2 ((i, .x id) :: r) :=
 ad (fun ρ v hv => by simp only [Rel] at hv; rw [hv, h]) ht
theorem bc {C1 C2 : Cx} {i id : Nat} {k : IntKind} {a b : Int} {r : List (Nat × AV)} (h1 : C1.nu id = .int k a) (h2 : C2.nu i = .int k b) (e : a = b) (ht : bE C1 C2 r) : bE C1 C2 ((i, .x id) :: r) :=
 thX (by rw [h1, h2, e]) ht
end Go.AX
end
section
namespace Go.AX
end Go.AX
namespace Go.AX
theorem dropE {l : List UInt8} {P : Int} : List.drop (Int.toNat P) l = (l.drop P.toNat).take ((l.length : Int) - P).toNat := by
 rw [List.take_of_length_le]; rw [List.length_drop]; omega
theorem takeE {l : List UInt8} {Q : Int} : List.take (Int.toNat Q) l = (l.drop (0 : Int).toNat).take (Q - 0).toNat := by
 rw [show Q - 0 = Q by omega]; rfl
theorem ev {l : List UInt8} {P : Int} (h0 : 0 ≤ P) (h : P ≤ (l.length : Int)) : ((List.drop (Int.toNat P) l).length : Int) = (l.length : Int) - P := by rw [List.length_drop]; omega
theorem gj {l : List UInt8} {Q : Int} (h0 : 0 ≤ Q) (h : Q ≤ (l.length : Int)) : ((List.take (Int.toNat Q) l).length : Int) = Q := by rw [List.length_take]; omega
end Go.AX
namespace Go.AX
end Go.AX
namespace Go.AX
end Go.AX
end
section
namespace Go.AX
noncomputable section
def af (l : List (List UInt8)) : Value := .tuple ⟨l.map St'⟩
def rX (l : List Value) (X : Nat → Value) (t : Nat) : Value := cond (Nat.blt t 1000000) (X t) (bA l (t - 1000000))
theorem dS {l : List Value} {X : Nat → Value} {t : Nat} (h : t < 1000000) : rX l X t = X t := by
 have : Nat.blt t 1000000 = true := by rw [Nat.blt_eq]; exact h
 unfold rX; rw [this, cond_true]
section
variable {C : Cx} {x y i r : AV} {l : List (List UInt8)}
theorem kRl {c : Int} (hx : Is C x (af l)) (hr : Den C r (.int .i64 c)) (hc : (l.length : Int) = c) : aM C (.rl x 1) r := by
 intro ρ vx g1
 have e1 := hx ρ vx g1; subst e1
 subst hc
 exact ⟨l.map St', l.length, rfl, by rw [List.length_map, Nat.mul_one], hr ρ⟩
theorem kEl {k : IntKind} {a : Int} {j : Nat} (hx : Is C x (af l)) (hi : Is C i (.int k a)) (hr : Den C r (St' (l.getD j []))) (ha : a = (j : Int)) (hj : j < l.length) : aM C (.el x i 1 0) r := by
 intro ρ vx vi g1 g2
 have e1 := hx ρ vx g1; subst e1
 have e2 := hi ρ vi g2; subst e2
 subst ha
 refine ⟨l.map St', k, j, _, rfl, rfl, ?_, hr ρ⟩
 rw [Nat.mul_one, Nat.add_zero, List.getElem?_map, List.getD_eq_getElem?_getD, List.getElem?_eq_getElem hj]; rfl
theorem kRa {s : List UInt8} (hx : Is C x (af l)) (hy : Is C y (St' s)) (hr : Den C r (af (l ++ [s]))) : aM C (.ra x [y]) r := by
 intro ρ vx vs g1 g2
 have e1 := hx ρ vx g1; subst e1
 simp only [aJ] at g2
 obtain ⟨v, vt, rfl, h1, rfl⟩ := g2
 have e2 := hy ρ v h1; subst e2
 refine ⟨l.map St', rfl, ?_⟩
 have := hr ρ
 unfold af at this
 rw [List.map_append] at this
 exact this
theorem iI (hr : Den C r (af [])) : aM C .rn r := fun ρ => hr ρ
theorem kRf {b : Nat} (hx : Is C x (af l)) (h : l.length * b ≤ 140737488355328) (h2 : l.length ≤ 140737488355328) : aM C (.rf x 1 b) r := by
 intro ρ vx g1
 have e1 := hx ρ vx g1; subst e1
 exact ⟨l.map St', l.length, rfl, by rw [List.length_map, Nat.mul_one], h, h2⟩
end
end
end Go.AX
end
section
namespace Go.AX
abbrev LB := List UInt8
abbrev LA := List (Nat × AV)
abbrev LE := List (Nat × aS)
abbrev LK := List (HK × AV)
section
variable {C : Cx} {i j m : Nat} {k : IntKind} {a b c : Int} {n : Nat} {l : List UInt8}
theorem iN : Is C (.i k (.ofNat n)) (.int k (n : Int)) := ct k (Int.ofNat n)
theorem bU (h1 : C.nu i = .int k a := by exact rfl) (h2 : C.nu j = .int k b := by exact rfl) (h : a < b := by omega) : aM C (.bin .lss (.x i) (.x j)) (.b true) := mj (aA h1) (aA h2) (decide_eq_true h)
theorem dV (h1 : C.nu i = .int k a := by exact rfl) (h2 : C.nu j = .int k b := by exact rfl) (h : ¬ a < b := by omega) : aM C (.bin .lss (.x i) (.x j)) (.b false) := mj (aA h1) (aA h2) (decide_eq_false h)
theorem qQ (h1 : C.nu i = .int k a := by exact rfl) (h2 : C.nu j = .int k b := by exact rfl) (h : a = b := by omega) : aM C (.bin .eql (.x i) (.x j)) (.b true) := kEqI (aA h1) (aA h2) (decide_eq_true h)
theorem yP (h1 : C.nu i = .int k a := by exact rfl) (h : a < (n : Int) := by omega) : aM C (.bin .lss (.x i) (.i k (.ofNat n))) (.b true) := mj (aA h1) iN (decide_eq_true h)
theorem lO (h1 : C.nu i = .int k a := by exact rfl) (h : ¬ a < (n : Int) := by omega) : aM C (.bin .lss (.x i) (.i k (.ofNat n))) (.b false) := mj (aA h1) iN (decide_eq_false h)
theorem lecT (h1 : C.nu i = .int k a := by exact rfl) (h : a ≤ (n : Int) := by omega) : aM C (.bin .leq (.x i) (.i k (.ofNat n))) (.b true) := kLe (aA h1) iN (decide_eq_true h)
theorem lecF (h1 : C.nu i = .int k a := by exact rfl) (h : ¬ a ≤ (n : Int) := by omega) : aM C (.bin .leq (.x i) (.i k (.ofNat n))) (.b false) := kLe (aA h1) iN (decide_eq_false h)
theorem cZ (h1 : C.nu i = .int k a := by exact rfl) (h : (n : Int) < a := by omega) : aM C (.bin .gtr (.x i) (.i k (.ofNat n))) (.b true) := kGt (aA h1) iN (decide_eq_true h)
theorem cN (h1 : C.nu i = .int k a := by exact rfl) (h : ¬ (n : Int) < a := by omega) : aM C (.bin .gtr (.x i) (.i k (.ofNat n))) (.b false) := kGt (aA h1) iN (decide_eq_false h)
theorem gL (h1 : C.nu i = .int k a := by exact rfl) (h : (n : Int) ≤ a := by omega) : aM C (.bin .geq (.x i) (.i k (.ofNat n))) (.b true) := kGe (aA h1) iN (decide_eq_true h)
theorem mz (h1 : C.nu i = .int k a := by exact rfl) (h : ¬ (n : Int) ≤ a := by omega) : aM C (.bin .geq (.x i) (.i k (.ofNat n))) (.b false) := kGe (aA h1) iN (decide_eq_false h)
theorem nA (h1 : C.nu i = .int k a := by exact rfl) (h : a = (n : Int) := by omega) : aM C (.bin .eql (.x i) (.i k (.ofNat n))) (.b true) := kEqI (aA h1) iN (decide_eq_true h)
theorem eT (h1 : C.nu i = .int k a := by exact rfl) (h : ¬ a = (n : Int) := by omega) : aM C (.bin .eql (.x i) (.i k (.ofNat n))) (.b false) := kEqI (aA h1) iN (decide_eq_false h)
theorem sV (h1 : C.nu i = .int k a := by exact rfl) (h : ¬ a = (n : Int) := by omega) : aM C (.bin .neq (.x i) (.i k (.ofNat n))) (.b true) := yy (aA h1) iN (neT h)
theorem dm (h1 : C.nu i = .int k a := by exact rfl) (h : a = (n : Int) := by omega) : aM C (.bin .neq (.x i) (.i k (.ofNat n))) (.b false) := yy (aA h1) iN (neF h)
theorem fG (h1 : C.nu i = .int .i64 a := by exact rfl) (h2 : C.nu j = .int .i64 b := by exact rfl) (h3 : C.nu m = .int .i64 c := by exact rfl) (h : a + b = c ∧ -9223372036854775808 ≤ c ∧ c ≤ 9223372036854775807 := by omega) : aM C (.bin .add (.x i) (.x j)) (.x m) := kAdd (aA h1) (aA h2) (aG h3) h.1 (eS h.2.1 h.2.2)
theorem au (h1 : C.nu i = .int .i64 a := by exact rfl) (h3 : C.nu m = .int .i64 c := by exact rfl) (h : a + (n : Int) = c ∧ -9223372036854775808 ≤ c ∧ c ≤ 9223372036854775807 := by omega) : aM C (.bin .add (.x i) (.i .i64 (.ofNat n))) (.x m) := kAdd (aA h1) iN (aG h3) h.1 (eS h.2.1 h.2.2)
theorem dG (h1 : C.nu i = St' l := by exact rfl) (h2 : C.nu j = .int k b := by exact rfl) (h3 : C.nu m = .int .u8 (bt l (Int.toNat (b))) := by exact rfl) (h : 0 ≤ b ∧ b < (l.length : Int) := by omega) : aM C (.idx (.x i) (.x j)) (.x m) := kIdxE (i := (Int.toNat (b))) (aA h1) (aA h2) (aG h3) (by omega) (by omega) rfl
theorem jb (h1 : C.nu i = St' l := by exact rfl) (h3 : C.nu m = .int .u8 (bt l n) := by exact rfl) (h : n < l.length := by omega) : aM C (.idx (.x i) (.i k (.ofNat n))) (.x m) := kIdxE (i := n) (aA h1) iN (aG h3) rfl h rfl
theorem av (h1 : C.nu i = St' l := by exact rfl) (h3 : C.nu m = .int .i64 c := by exact rfl) (h : (l.length : Int) = c := by omega) : aM C (.len (.x i)) (.x m) := kLenE (aA h1) (aG h3) h
theorem ck {k' : IntKind} {n : Nat} (h1 : C.nu i = St' l := by exact rfl) (h2 : C.nu j = .int k a := by exact rfl) (h3 : C.nu n = .int k' b := by exact rfl) (h4 : C.nu m = St' (List.take (Int.toNat (b - (a))) (List.drop (Int.toNat (a)) l)) := by exact rfl) (h : 0 ≤ a ∧ a ≤ b ∧ b ≤ (l.length : Int) := by omega) : aM C (.sub (.x i) (some (.x j)) (some (.x n))) (.x m) :=
 tE (P := a) (Q := b) (aA h1) (.inr ⟨_, _, rfl, aA h2⟩) (.inr ⟨_, _, rfl, aA h3⟩) h.1 h.2.1 h.2.2 (aG h4)
theorem gu (h1 : C.nu i = St' l := by exact rfl) (h2 : C.nu j = .int k a := by exact rfl) (h4 : C.nu m = St' (List.drop (Int.toNat (a)) l) := by exact rfl) (h : 0 ≤ a ∧ a ≤ (l.length : Int) := by omega) : aM C (.sub (.x i) (some (.x j)) none) (.x m) :=
 tE (P := a) (Q := (l.length : Int)) (aA h1) (.inr ⟨_, _, rfl, aA h2⟩) (.inl ⟨rfl, rfl⟩) h.1 h.2 (Int.le_refl _) (aG (h4.trans (congrArg (fun l => St' l) dropE)))
theorem ia (h1 : C.nu i = St' l := by exact rfl) (h2 : C.nu j = .int k a := by exact rfl) (h4 : C.nu m = St' (List.take (Int.toNat (a)) l) := by exact rfl) (h : 0 ≤ a ∧ a ≤ (l.length : Int) := by omega) : aM C (.sub (.x i) none (some (.x j))) (.x m) :=
 tE (P := 0) (Q := a) (aA h1) (.inl ⟨rfl, rfl⟩) (.inr ⟨_, _, rfl, aA h2⟩) (Int.le_refl _) h.1 h.2 (aG (h4.trans (congrArg (fun l => St' l) takeE)))
theorem drC (h1 : C.nu i = St' l := by exact rfl) (h4 : C.nu m = St' (List.drop (Int.toNat ((n : Int))) l) := by exact rfl) (h : n ≤ l.length := by omega) : aM C (.sub (.x i) (some (.i k (.ofNat n))) none) (.x m) :=
 tE (P := (n : Int)) (Q := (l.length : Int)) (aA h1) (.inr ⟨_, _, rfl, iN⟩) (.inl ⟨rfl, rfl⟩) (by omega) (by omega) (Int.le_refl _) (aG (h4.trans (congrArg (fun l => St' l) dropE)))
theorem tkC (h1 : C.nu i = St' l := by exact rfl) (h4 : C.nu m = St' (List.take (Int.toNat ((n : Int))) l) := by exact rfl) (h : n ≤ l.length := by omega) : aM C (.sub (.x i) none (some (.i k (.ofNat n)))) (.x m) :=
 tE (P := 0) (Q := (n : Int)) (aA h1) (.inl ⟨rfl, rfl⟩) (.inr ⟨_, _, rfl, iN⟩) (Int.le_refl _) (by omega) (by omega) (aG (h4.trans (congrArg (fun l => St' l) takeE)))
end
end Go.AX
namespace Go.AX
theorem thXv {C1 C2 : Cx} {i id : Nat} {v : Value} {r : List (Nat × AV)} (h1 : C1.nu id = v) (h2 : C2.nu i = v) (ht : bE C1 C2 r) : bE C1 C2 ((i, .x id) :: r) := thX (h1.trans h2.symm) ht
end Go.AX
namespace Go.AX
theorem ah {C1 C2 : Cx} {i id : Nat} {v u : Value} {r : List (Nat × AV)} (h1 : C1.nu id = v) (h2 : C2.nu i = u) (e : v = u) (ht : bE C1 C2 r) : bE C1 C2 ((i, .x id) :: r) := thX (h1.trans (e.trans h2.symm)) ht
end Go.AX
namespace Go.AX
theorem aB {C1 C2 : Cx} {i id : Nat} {v : Value} {r : List (Nat × AV)} (ht : bE C1 C2 r) (h1 : C1.nu id = v := by exact rfl) (h2 : C2.nu i = v := by exact rfl) : bE C1 C2 ((i, .x id) :: r) := thXv h1 h2 ht
end Go.AX
end
