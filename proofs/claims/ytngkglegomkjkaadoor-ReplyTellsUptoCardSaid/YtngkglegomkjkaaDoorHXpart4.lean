/- A part of the proof: what an interpreter answers on partly known states is what the program answers. No condition. -/
import Derived.Test.YtngkglegomkjkaaDoorHXpart3
import Derived.ChangeSame
import Derived.Lib.Bytealg
import Derived.OpenShut
import Derived.ChangeArms
set_option linter.unusedSimpArgs false
set_option linter.unusedVariables false
section
namespace Go.AX
section
variable {C : Cx} {tb : Tab} {B : Fz}
theorem aA6 {P : Program} {g : Nat} {fn : Func} {args : Array Value} {w w' : World} {r : Array Value → Sem Value} {x : Value} (h1 : P.funcs[g]? = some fn) (h2 : (fn.name == "runtime.NumGoroutine") = false) (h3 : fn.body = none)
 (h4 : Extern.findNext fn = none) (h5 : Extern.find fn = some r) (h6 : (r args).run P w = .ok x w') : (callFunc g args).run P w = .ok (.value x) w' := by
 unfold callFunc
 rw [Sem.run_bind]
 have hp : (program).run P w = .ok P w := rfl
 rw [hp]
 simp only [Result.andThen_ok, h1, h2, h3, h4, h5, Option.isNone_none]
 simp [h6, Sem.run_bind]
theorem Rel.tk {ρ : ak} {v : AV} {x : Value} (h : Rel C (fun _ => none) v x) : Rel C ρ v x := Rel.mono (fun v r hv => by cases hv) v x h
theorem aF6 {ρ : ak} : ∀ (ps : List Nat) (vs : List AV) (args : List Value) (E E' : Env) (a : Act), l5 E ps vs = some E' → aH C ρ vs args → eA C ρ E a →
 ps.length = args.length ∧ eA C ρ E' { tmps := (ps.zip args).foldl (fun (t : Array Value) (p : Nat × Value) => t.setIfInBounds p.1 p.2) a.tmps, defers := [] }
 | [], [], args, E, E', a, h, hr, hE => by
  simp only [l5, Option.some.injEq] at h; subst h
  simp only [aH] at hr; subst hr
  exact ⟨rfl, hE⟩
 | [], v :: vs, args, E, E', a, h, hr, hE => by simp [l5] at h
 | d :: ps, [], args, E, E', a, h, hr, hE => by simp [l5] at h
 | d :: ps, v :: vs, args, E, E', a, h, hr, hE => by
  unfold l5 at h
  cases hp : E.put (some d) v with
  | none => rw [hp] at h; cases h
  | some E1 =>
   rw [hp] at h
   simp only [aH] at hr
   obtain ⟨x, xs, rfl, h1, h2⟩ := hr
   obtain ⟨g1, g2⟩ := aF6 ps vs xs E1 E' (a.put (some d) x) h h2 (hE.put hp h1)
   exact ⟨by simp [g1], g2⟩
theorem aB1 {Φ : Fence} {n : Nat} {fn : Func} {tmps : Array Value} {R : Ending → World → Prop} {ρ : ak} {H : T aZ} {ng : Nat} {w : World} (hB : ∀ k, B k → k < w.heap.size) :
 ∀ (ms : List Nat) (w1 : World), ms.Nodup → (∀ D ∈ ms, w.heap.size ≤ D ∧ w1.heap[D]? = some (.deferred (some []))) → Fits C ng B ρ H w1 → Below B w w1 →
  (∀ w2, Fits C ng B ρ H w2 → Below B w w2 → LeavesIn Φ n C.P fn tmps R [] .returning w2) → LeavesInM Φ n C.P fn tmps R (ms.map mkD) .returning w1
 | [], w1, _, _, hF, hb, hk => hk w1 hF hb
 | D :: ms, w1, hn, hm, hF, hb, hk => by
  obtain ⟨h1, h2⟩ := hm D (List.mem_cons_self ..)
  rw [List.nodup_cons] at hn
  refine ⟨by simp, .inl ⟨D, w1.putObj D (.deferred none), rfl, run_takeDeferred h2, ?_⟩⟩
  refine aB1 hB ms _ hn.2 (fun D' hD' => ?_) (hF.putD _ h2 (fun hb => by have := hB D hb; omega)) ⟨hb.os, hb.tape, hb.output, by simpa using hb.size, fun k hk => ?_, fun k o hk ho => ?_⟩ hk
  ·obtain ⟨g1, g2⟩ := hm D' (List.mem_cons_of_mem _ hD')
   exact ⟨g1, by rw [World.putObj_heap_other (fun e => hn.1 (by rw [← e]; exact hD'))]; exact g2⟩
  ·rw [World.putObj_heap_other (fun e => by have := hB k hk; omega)]; exact hb.block k hk
  ·rw [World.putObj_heap_other (by have := qy hk; omega)]; exact hb.walk k o hk ho
theorem dW.inRound {Φ : Fence} (h : dW Φ) (l : Nat) : dW (Φ.inRound l) := by
 rcases h with rfl | ⟨l', rfl⟩ <;> exact .inr ⟨l, rfl⟩
theorem aN7 (ex : Ex) : (iw ex).isNone = isN ex := by cases ex <;> rfl
theorem cr_ok (h : bM C tb) : ∀ f, pT C tb B (call tb f) (di tb f) := by
 intro f
 induction f using Nat.strongRecOn with
 | _ f ih =>
  cases f with
  | zero =>
   refine ⟨?_, ?_⟩
   ·intro g l S v S' ρ w args o a next Q Φ ν hΦ hc; unfold call at hc; exact (ar hc).elim
   ·intro g l S v S' ρ w args o a next Q Φ ν r hΦ hc; unfold di at hc; exact (ar hc).elim
  | succ f =>
   have ot : ∀ g, g < f + 1 → pT C tb B (call tb g) (di tb g) := fun g hg => ih g hg
   refine ⟨?_, ?_⟩
   ·intro g l S v S' ρ w args o a next Q Φ ν hΦ hc hF av hl hfree hk
    unfold call at hc
    obtain ⟨fi, e1, h1⟩ := lb hc
    obtain ⟨fn, hfn⟩ := h.fn g fi e1
    have main : (match fi.body with
     | none => match AX.hl tb.hyp (.ext g l) with
      | some v => AX.ret v
      | none => ext tb fi.ext l
     | some c => match AX.hl tb.hyp (.call g l) with
      | some v => AX.ret v
      | none => match lU l fi.lps with
       | some q => bnd (AX.gj tb.ng q.1) fun _ => AX.ret q.2
       | none => cond (Nat.ble l.length fi.ntmps && Nat.ble fi.ntmps 16777213) (bnd (code tb f fi.lps c ⟨mq l 0 .leaf, fi.ntmps⟩) fun r => match r.1 with
               | .normal | .ret => results tb fi.res r.2
               | _ => AX.fail) AX.fail) S = some (v, S') → o.uponIn Φ ν C.P a next Q ((callFunc g ⟨args⟩).run C.P w) := by
     intro h1
     cases hb : fi.body with
     | none =>
      rw [hb] at h1
      simp only [] at h1
      cases hcl : AX.hl tb.hyp (.ext g l) with
      | some u =>
       rw [hcl] at h1
       obtain ⟨rfl, rfl⟩ := ae h1
       obtain ⟨rr, x1, x2, x3⟩ := bR h.tab.toHypOk hcl ρ args hl fn hfn.at_
       obtain ⟨x, r1, r2⟩ := x3 w
       rw [aA6 hfn.at_ hfn.name (by rw [hfn.body, hb]) x1 x2 r1]
       exact hk ρ x w r2 hF (Ext.refl _ _ _) (Below.refl _ _)
      | none =>
      rw [hcl] at h1
      simp only [] at h1
      rcases hfn.ext hb with he0 | ⟨x1, r, x2, x3⟩
      ·rw [he0] at h1; simp only [ext] at h1; exact (ar h1).elim
      obtain ⟨ρ', x, w', r1, r2, r3, r4, r5⟩ := x3 B l S v S' ρ w args h1 hF av hl hfree
      rw [aA6 hfn.at_ hfn.name (by rw [hfn.body, hb]) x1 x2 r1]
      exact hk ρ' x w' r2 r3 r4 r5
     | some c =>
      rw [hb] at h1
      simp only [] at h1
      cases hcl : AX.hl tb.hyp (.call g l) with
      | some u =>
       rw [hcl] at h1
       obtain ⟨rfl, rfl⟩ := ae h1
       rw [jv hfn.at_ hfn.name (by rw [hfn.body, hb]; rfl), Oper.uponIn_enter]
       refine ⟨hΦ.deep ν, hΦ.calls (Calls.mono (bR h.tab.toHypOk hcl ρ args hl w hF.inv hF.nsz) fun e w' he => ?_)⟩
       obtain ⟨x, rfl, hx, hb'⟩ := he
       exact hk ρ x w' hx (hF.kept hb') (Ext.refl _ _ _) (Below.less hb' hF.size)
      | none =>
      rw [hcl] at h1
      dsimp only at h1
      cases hcf : lU l fi.lps with
      | some q =>
       rw [hcf] at h1
       dsimp only at h1
       obtain ⟨u, S1, h2, h3⟩ := bP h1
       obtain ⟨rfl, rfl⟩ := ae h3
       obtain ⟨⟨n1, n1g⟩, n2, n2b, n3, n4⟩ := aG6 h2
       obtain ⟨lf, q', m1, m2, m3, m4, m5, m6⟩ := aH9 _ hcf
       have hok := oH n2
       have hnx : S'.next = q.1.n1 := by rw [n4]
       have hcall := hfn.cfs lf m1 m2 q.1 q' m3 m4 B ρ S.heap w args (n1g ▸ hF) (by omega) hok (Ct n3) (fun v g1 g2 => hfree v (by omega) (by omega)) (by rw [← m6]; exact hl)
       rw [jv hfn.at_ hfn.name (by rw [hfn.body, hb]; rfl), Oper.uponIn_enter]
       refine ⟨hΦ.deep ν, hΦ.calls (Calls.mono hcall fun e w' he => ?_)⟩
       obtain ⟨x, ρ', rfl, k1, k2, k3, k4⟩ := he
       have k3 : Ext ρ ρ' S.next S'.next := fun v hv => k3 v (by have := hok.le; omega)
       have k2 : Fits C q.1.ng B ρ' (eZ (ev S.next q.1) S.heap) w' := k2.sub fun v k hv => aN1 hok (oH n2b) n1 hv
       exact hk ρ' x w' (by rw [← m5]; exact k1) (by rw [n4, n1g]; exact k2) k3 k4
      | none =>
      rw [hcf] at h1
      dsimp only at h1
      obtain ⟨hcnd, h2⟩ := bK h1
      rw [Bool.and_eq_true] at hcnd
      obtain ⟨p, S1, h3, h4⟩ := bP h2
      obtain ⟨ex, E1⟩ := p
      have hbody : fn.body = some c := by rw [hfn.body, hb]
      rw [jv hfn.at_ hfn.name (by rw [hbody]; rfl)]
      rw [Oper.uponIn_enter]
      refine ⟨hΦ.deep ν, ?_⟩
      have l1 := ((ez tb f).code _ _ _).le h3
      have hend : (ex = .normal ∨ ex = .ret) → results tb fi.res E1 S1 = some (v, S') → CallsIn Φ (ν - 1) C.P g ⟨args⟩ w fun
       | .returned v, w'' => next (a.put o.dst v) w''
       | .panicked chain, w'' => Q (.panic chain) a w''
       | .outgrown, _ => LetsOut Q := fun hex hr => by
       have l2 := (Good.results tb _ _).le hr
       refine hΦ.out (callsIn_of_wp_marks hfn.at_ hbody trivial ?_)
       refine And.left <| db tG ot h.tab h.met h.mix h.fn f (Nat.le_succ f) fi.lps c _ S ex E1 S1 ρ _ w _ ⟨hfn.reg c hb, .inl rfl⟩ (hfn.lps c hb) h3 hF av
        (by rw [hfn.nt]; exact env0_ok hl (Nat.le_of_ble_eq_true hcnd.1) (Nat.le_of_ble_eq_true hcnd.2)) (hfree.left l2) fun ρ' a' w' q1 q2 q3 q4 q5 => ?_
       rw [← hfn.res] at hr
       obtain ⟨ms, d1, d2, d3⟩ := q2
       have hend : bodyPostM Fence.wide (ν - 1) C.P fn (fun
        | .returned v, w'' => next (a.put o.dst v) w''
        | .panicked chain, w'' => Q (.panic chain) a w''
        | .outgrown, _ => LetsOut Q) .normal a' w' := by
        show LeavesInM Fence.wide (ν - 1) C.P fn a'.tmps _ a'.defers .returning w'
        rw [d1]
        simp only [List.append_nil]
        refine aB1 hF.size ms w' d2 d3 q3 q5 fun w2 k1 k2 => ?_
        obtain ⟨g1, g2, y, g3, g4⟩ := results_ok h.tab.toTyOk q1 k1 hr
        exact ⟨y, g3, hk ρ' y w2 g4 (by rw [g1]; exact k1) (by rw [g2]; exact q4) k2⟩
       rcases hex with hex | hex <;> rw [hex] <;> exact hend
      cases ex with
      | normal => exact hend (.inl rfl) h4
      | ret => exact hend (.inr rfl) h4
      | exit id => exact (ar h4).elim
      | goto l => exact (ar h4).elim
    cases hs : fi.sum with
    | none => rw [hs] at h1; exact main h1
    | some u =>
     rw [hs] at h1
     cases l with
     | cons x l => exact main h1
     | nil =>
      obtain ⟨rfl, rfl⟩ := ae h1
      simp only [aH] at hl
      subst hl
      obtain ⟨hsome, hsum⟩ := hfn.sum _ hs
      rw [jv hfn.at_ hfn.name (by rw [hfn.body]; exact hsome), Oper.uponIn_enter]
      refine ⟨hΦ.deep ν, hΦ.calls (Calls.mono (hsum w hF.inv hF.nsz) fun e w' he => ?_)⟩
      obtain ⟨x, rfl, hx, hb⟩ := he
      exact hk ρ x w' hx.tk (hF.kept hb) (Ext.refl _ _ _) (Below.less hb hF.size)
   ·intro n l S v S' ρ w args o a next Q Φ ν r hΦ hc hF av hl hr hfree hk
    unfold di at hc
    obtain ⟨en, k, S1, e1, e1k, e2, e3, h1⟩ := rbR hc
    obtain ⟨E, e4, h2⟩ := lb h1
    obtain ⟨p, S2, h3, h4⟩ := bP h2
    obtain ⟨ex, E2⟩ := p
    have hexn : ex = .normal := by
     cases ex with
     | normal => rfl
     | _ => exact (ar h4).elim
    subst hexn
    obtain ⟨en1, k1, S3, f1, f1k, f2, f3, h5⟩ := rbR h4
    obtain ⟨hst, h6⟩ := bK h5
    obtain ⟨u, S4, h7, h8⟩ := bP h6
    obtain ⟨q, S5, h9, h10⟩ := bP h8
    obtain ⟨eq, E5⟩ := q
    obtain ⟨en2, k2, S6, g1, g1k, g2, g3, h11⟩ := rbR h10
    obtain ⟨u2, S7, h12, h13⟩ := bP h11
    obtain ⟨hv, rfl⟩ := ae h13
    obtain ⟨a1, a2, a3, a4⟩ := lr h7
    obtain ⟨b1, b2, b3, b4⟩ := lr h12
    have l1 := ((ez tb f).code _ _ _).le h3
    have l2 := ((ez tb f).code _ _ _).le h9
    obtain ⟨L, hL, hk0⟩ := hF.entry h.fn e1 e1k hr
    have hE0 : eA C ρ ⟨k.tm, k.nt⟩ { tmps := L.tmps, defers := [] } := ⟨hk0.size, hk0.nt, hk0.tm⟩
    obtain ⟨hlen, hE1⟩ := aF6 k.ps l args _ E _ e4 hl hE0
    have hsz : (⟨args⟩ : Array Value).size = L.params.size := by
     show args.length = _
     rw [← hlen, ← hk0.ps, Array.length_toList]
    have hfold : (L.params.zip (⟨args⟩ : Array Value)).foldl (fun tmps (t, a) => tmps.setIfInBounds t a) L.tmps = (k.ps.zip args).foldl (fun (t : Array Value) (p : Nat × Value) => t.setIfInBounds p.1 p.2) L.tmps := by
     rw [← Array.foldl_toList, Array.toList_zip, hk0.ps]
    rw [run_yield hL hsz, Oper.uponIn_round]
    refine ⟨hΦ.deep ν, roundIn_of_wpIn (hΦ.fn _) ?_⟩
    rw [hfold, hk0.fB, hk0.body]
    rw [← e2] at hF
    refine And.left <| db (hΦ.inRound r.blk) ot h.tab h.met h.mix h.fn f (Nat.le_succ f) [] k.fB E S1 .normal E2 S2 ρ _ w _ ⟨hk0.okA.1, .inr hk0.okA.2⟩ (bU.nil _) h3 hF (by omega) hE1
     (by rw [e3]; exact hfree.left (by omega)) fun ρ1 c1 w1 p1 p2 p3 p4 p5 => ?_
    show ∃ w₂, (Instr.beginRound r.blk).run C.P w1 = .ok () w₂ ∧ k.body.wpIn (Φ.inRound r.blk) (ν - 1) C.P (roundPost C.P r.blk _) c1 w₂
    have hs1 : Sub ρ ρ1 := p4.sub (by rw [e3]; exact hfree.left (by omega))
    have hr1 := hs1 _ _ hr
    obtain ⟨L1, hL1, hk1⟩ := p3.entry h.fn f1 f1k hr1
    have hst0 : k1.st = 0 := Nat.eq_of_beq_eq_true hst
    refine ⟨_, run_beginRound hL1 (by rw [hk1.st, hst0]; rfl), ?_⟩
    have hkb : eV C ρ1 B ⟨k1.ps, k1.fB, k1.body, k1.tm, k1.nt, 1, k1.pend⟩ r { L1 with state := .busy } := { hk1 with st := rfl }
    have hF2 : Fits C tb.ng B ρ1 S4.heap (w1.putObj r.blk (.loop { L1 with state := .busy })) := by
     rw [a3, f2]
     exact p3.putJ h.fn a2 f1 hr1 hL1 (aF4 f1k _ _) hkb
    have hb2 : Below B w1 (w1.putObj r.blk (.loop { L1 with state := .busy })) := Below.putObj _ hL1 rfl hk1.own
    have hf1 : Free ρ1 S4.next S5.next := by
     rw [a4, f3]
     exact Free.left (hfree.right (by omega) (by rw [e3] at p4; exact p4)) (by omega)
    refine And.left <| db (hΦ.inRound r.blk) ot h.tab h.met h.mix h.fn f (Nat.le_succ f) [] k.body E2 S4 eq E5 S5 ρ1 _ _ _ ⟨hk0.okB.1, .inr hk0.okB.2⟩ (bU.nil _) h9 hF2 (by omega) p1 hf1 fun ρ2 c2 w3 q1 q2 q3 q4 q5 => ?_
    have hs2 : Sub ρ1 ρ2 := q4.sub hf1
    have hr2 := hs2 _ _ hr1
    obtain ⟨L2, hL2, hk2⟩ := q3.entry h.fn g1 g1k hr2
    have hend := run_endRound (P := C.P) (iw eq) hL2
    have hkc : eV C ρ2 B ⟨k2.ps, k2.fB, k2.body, k2.tm, k2.nt, cond (isN eq) 0 2, eq⟩ r { L2 with state := if (iw eq).isNone then .ready else .done, pending := iw eq } :=
     { hk2 with st := (by rw [aN7]; cases isN eq <;> rfl), pend := rfl }
    have hF3 : Fits C tb.ng B ρ2 S'.heap (w3.putObj r.blk (.loop { L2 with state := if (iw eq).isNone then .ready else .done, pending := iw eq })) := by
     rw [b3, g2]
     exact q3.putJ h.fn b2 g1 hr2 hL2 (aF4 g1k _ _) hkc
    have hb3 : Below B w3 (w3.putObj r.blk (.loop { L2 with state := if (iw eq).isNone then .ready else .done, pending := iw eq })) := Below.putObj _ hL2 rfl hk2.own
    have hext : Ext ρ ρ2 S.next S'.next := by
     rw [b4, g3]
     rw [e3] at p4
     rw [a4, f3] at q4
     exact p4.trans q4 (by omega) (by omega)
    have hfin := hk ρ2 (.bool (iw eq).isNone) _ (by rw [hv, aN7]; simp only [Rel]) hF3 hext (((p5.trans hb2).trans q5).trans hb3)
    cases eq with
    | normal => exact ⟨_, _, hend, hfin⟩
    | exit id => exact ⟨_, _, hend, hfin⟩
    | goto l => exact ⟨_, _, hend, hfin⟩
    | ret => exact ⟨_, _, hend, hfin⟩
theorem FD (h : bM C tb) (f : Nat) : CallOk C tb B (call tb f) := (cr_ok h f).1
end
end Go.AX
end
section
namespace Go.AX
def tl {α : Type} : T α → Nat → Nat → List (Nat × α)
 | .leaf, _, _ => []
 | .node v l r, s, m => (match v with | some x => [(s, x)] | none => []) ++ (tl l (Nat.add s m) (Nat.mul 2 m) ++ tl r (Nat.add s (Nat.mul 2 m)) (Nat.mul 2 m))
theorem Bs {α : Type} : ∀ (t : T α) (s m n : Nat) (x : α), t.get n = some x → (s + m * n, x) ∈ tl t s m
 | .leaf, s, m, n, x, h => by simp [T.cy] at h
 | .node v l r, s, m, n, x, h => by
  rw [T.jn] at h
  unfold tl
  by_cases h0 : n = 0
  ·subst h0
   simp only [Nat.beq_refl, cond_true] at h
   subst h
   simp
  ·have e0 : Nat.beq n 0 = false := by
    cases hb : Nat.beq n 0 with
    | false => rfl
    | true => exact absurd (Nat.eq_of_beq_eq_true hb) h0
   rw [e0, cond_false] at h
   have hmd : Nat.mod n 2 = n % 2 := rfl
   have hdv : Nat.div n 2 = n / 2 := rfl
   rw [hmd, hdv] at h
   refine List.mem_append_right _ ?_
   cases hm : Nat.beq (n % 2) 1 with
   | true =>
    rw [hm, cond_true] at h
    have h1 := Nat.eq_of_beq_eq_true hm
    refine List.mem_append_left _ ?_
    have := Bs l (Nat.add s m) (Nat.mul 2 m) (n / 2) x h
    have e : Nat.add s m + Nat.mul 2 m * (n / 2) = s + m * n := by
     show s + m + 2 * m * (n / 2) = _
     have : n = 2 * (n / 2) + 1 := by omega
     generalize n / 2 = q at this
     subst this
     rw [Nat.mul_add, Nat.mul_one, ← Nat.mul_assoc, Nat.mul_comm 2 m]; omega
    rw [e] at this; exact this
   | false =>
    rw [hm, cond_false] at h
    have h1 : n % 2 = 0 := by
     have : n % 2 ≠ 1 := fun e => by rw [e] at hm; cases hm
     omega
    have hsb : Nat.sub (n / 2) 1 = n / 2 - 1 := rfl
    rw [hsb] at h
    refine List.mem_append_right _ ?_
    have := Bs r (Nat.add s (Nat.mul 2 m)) (Nat.mul 2 m) (n / 2 - 1) x h
    have e : Nat.add s (Nat.mul 2 m) + Nat.mul 2 m * (n / 2 - 1) = s + m * n := by
     show s + 2 * m + 2 * m * (n / 2 - 1) = _
     have : n = 2 * (n / 2 - 1) + 2 := by omega
     generalize n / 2 - 1 = q at this
     subst this
     rw [Nat.mul_add, ← Nat.mul_assoc, Nat.mul_comm 2 m, Nat.mul_comm m 2]; omega
    rw [e] at this; exact this
theorem pZ {α : Type} {t : T α} {n : Nat} {x : α} (h : t.get n = some x) : (n, x) ∈ tl t 0 1 := by
 have := Bs t 0 1 n x h
 rwa [Nat.zero_add, Nat.one_mul] at this
theorem qT {α β : Type} {f g : α → β} : ∀ {l : List α}, l.map f = l.map g → ∀ x ∈ l, f x = g x
 | [], _, x, hx => by simp at hx
 | a :: l, h, x, hx => by
  simp only [List.map_cons, List.cons.injEq] at h
  rcases List.mem_cons.1 hx with e | e
  ·rw [e]; exact h.1
  ·exact qT h.2 x e
/- what is asked of a seat's tables -/
def TyEq (P : Program) (tb : Tab) : Prop := (tl tb.ty 0 1).map (fun p => some p.2) = (tl tb.ty 0 1).map fun p => (P.info? p.1).map (cw P p.1)
def xX (P : Program) (t d : Nat) : Option Bool := match P.underlying t, P.info? d with
 | some (.interface want), some i => some (Instr.missingMethod want i.methods).isNone
 | _, _ => none
def BD (P : Program) (tb : Tab) : Prop := tb.imp.map (fun p => some p.2.2) = tb.imp.map fun p => xX P p.1 p.2.1
def FnEq (P : Program) (tb : Tab) : Prop := (tl tb.fn 0 1).map (fun p => some (p.2.body, p.2.ntmps, p.2.res)) = (tl tb.fn 0 1).map fun p => (P.funcs[p.1]?).map fun fn => (fn.body, fn.ntmps, fn.results.toList)
noncomputable def fnChk (P : Program) (tb : Tab) : Bool := (tl tb.fn 0 1).all fun p => match P.funcs[p.1]? with
 | some fn => !(fn.name == "runtime.NumGoroutine") && (match p.2.body with | some c => codeOk c | none => true) && p.2.sum.isNone && p.2.lps.isEmpty
 | none => false
def MetAt (P : Program) (t : Nat) (m : String) (g : Nat) : Prop := ∀ (x : Value) (w : World), (method (P.types.size + Made.depth) t x m).run P w = .ok (g, x) w
theorem aN9 : ∀ (l : List (Nat × Nat × Bool)) (t d : Nat) (r : Bool), impl l t d = some r → (t, d, r) ∈ l
 | [], _, _, _, h => by simp [impl] at h
 | (a, b, q) :: l, t, d, r, h => by
  unfold impl at h
  cases hc : (Nat.beq a t && Nat.beq b d) with
  | true =>
   rw [hc, cond_true] at h; injection h with h; subst h
   rw [Bool.and_eq_true] at hc
   have e1 := Nat.eq_of_beq_eq_true hc.1
   have e2 := Nat.eq_of_beq_eq_true hc.2
   subst e1; subst e2; exact List.mem_cons_self ..
  | false => rw [hc, cond_false] at h; exact List.mem_cons_of_mem _ (aN9 l t d r h)
theorem aG4 : ∀ (l : List (Nat × String × Nat × Bool)) (t : Nat) (m : String) (r : Nat × Bool), mC l t m = some r → (t, m, r) ∈ l
 | [], _, _, _, h => by simp [mC] at h
 | (a, b, q) :: l, t, m, r, h => by
  unfold mC at h
  cases hc : (Nat.beq a t && b == m) with
  | true =>
   rw [hc, cond_true] at h; injection h with h; subst h
   rw [Bool.and_eq_true] at hc
   have e1 := Nat.eq_of_beq_eq_true hc.1
   have e2 := eq_of_beq hc.2
   subst e1; subst e2; exact List.mem_cons_self ..
  | false => rw [hc, cond_false] at h; exact List.mem_cons_of_mem _ (aG4 l t m r h)
noncomputable def addSum (tb : Tab) (g : Nat) (fi : FI) (v : AV) : Tab := { tb with fn := tb.fn.set g { fi with sum := some v } }
theorem bM.sum {C : Cx} {tb : Tab} (h : bM C tb) {g : Nat} {fi : FI} {v : AV} (hg : g ≤ 16777213) (hfi : tb.fn.get g = some fi) (hb : fi.body.isSome = true) (hs : FY C g v) : bM C (addSum tb g fi v) where
 tab := ⟨⟨h.tab.ty⟩, ⟨h.tab.hyp⟩, h.tab.imp, h.tab.ngl⟩
 met := h.met
 mix := h.mix
 fn := fun g' fi' h' => by
  have h'' : (tb.fn.set g { fi with sum := some v }).get g' = some fi' := h'
  rw [cm _ _ _ _ hg] at h''
  split at h''
  ·rename_i e; subst e
   injection h'' with h''; subst h''
   obtain ⟨fn, hfn⟩ := h.fn _ _ hfi
   exact ⟨fn, hfn.at_, hfn.name, hfn.body, hfn.nt, hfn.res, hfn.reg, fun u hu => by
       simp only [Option.some.injEq] at hu; subst hu; exact ⟨hb, hs⟩, hfn.lps, hfn.cfs, hfn.ext⟩
  ·obtain ⟨fn, hfn⟩ := h.fn _ _ h''
   exact ⟨fn, hfn.at_, hfn.name, hfn.body, hfn.nt, hfn.res, hfn.reg, hfn.sum, hfn.lps, hfn.cfs, hfn.ext⟩
theorem bM.hyps {C : Cx} {tb : Tab} (h : bM C tb) {hs : List (HK × AV)} (hh : ∀ k r, (k, r) ∈ hs → aS C k r) : bM C { tb with hyp := hs } where
 tab := ⟨⟨h.tab.ty⟩, ⟨hh⟩, h.tab.imp, h.tab.ngl⟩
 met := h.met
 mix := h.mix
 fn := fun g fi hg => by
  obtain ⟨fn, hfn⟩ := h.fn g fi hg
  exact ⟨fn, hfn.at_, hfn.name, hfn.body, hfn.nt, hfn.res, hfn.reg, hfn.sum, hfn.lps, hfn.cfs, hfn.ext⟩
/- the whole run -/
def ly (ng : Nat) : ak := fun v => if v < ng then some ⟨v, 0, 0, 0⟩ else none
end Go.AX
end
section
namespace Go.AX
open Go.ChangeShapes Go.WideShapes
theorem Below.keptBut {w w' : World} (h : Below (Fz.lt w.heap.size) w w') (may : MemPlace → Prop) : w.keptBut w' may := by
 refine World.keptBut_mono (may := fun _ => False) (fun _ f => f.elim) ⟨h.os, h.output, fun i hi => ?_⟩
 have hk := (World.keptBut_refl w (fun _ => False)).2.2 i hi
 rw [h.block i hi]; exact hk
theorem post_below {H : Type} {enc : TypeId × Value → H} {P : Program} {f : Func} {s : ChangeSpec} {apart fresh handsOn again : Bool} {W W' : World} {args : Array Value} {v : Value} {ds gs : List (DataW H)} {old pa pv : List MemPlace}
 (hW : DataW.Whole enc P f.params.toList s.vars apart W args.toList ds gs old)
 (hr : ∀ (b : Nat) (sp : Nat → Bool) (hd : Bool), DataW.TrodAll enc P W' b sp hd f.resultTypes.toList (v.resultList f.resultTypes.size) (s.fn H (ds ++ gs)).results [])
 (ha : ∀ sp : Nat → Bool, (∀ p ∈ old, sp p.block = true) → DataW.TrodAll enc P W' 0 sp true f.params.toList args.toList (s.fn H (ds ++ gs)).args pa)
 (hv : ∀ sp : Nat → Bool, (∀ p ∈ old, sp p.block = true) → DataW.TrodVars enc P W' sp s.vars (s.fn H (ds ++ gs)).vars pv)
 (hp : old = pa ++ pv) (hb : Below (Fz.lt W.heap.size) W W')
 (hok : ∀ (j : Nat) (t : TypeId) (r : Value), f.resultTypes[j]? = some t → (v.resultList f.resultTypes.size)[j]? = some r → Value.okWide P W' .any 0 t r) :
 s.post enc P f apart fresh handsOn again W args v W' := by
 have hlt : ∀ p ∈ old, decide (p.block < W.heap.size) = true := fun p h => decide_eq_true (hW.lt p h)
 have hkeep : W.keptBut W' (fun p => p ∈ old ∧ (p ∈ ([] : List MemPlace) ∨ p ∈ pa ∨ p ∈ pv)) := Below.keptBut hb _
 have hfz : ∀ p : MemPlace, p ∈ old → ∀ off, W'.frozen? ⟨p.block, off, none⟩ = W.frozen? ⟨p.block, off, none⟩ := fun p h off => by
  unfold World.frozen?
  simp only [hb.block _ (hW.lt p h)]
 refine ⟨ds, gs, old, [], pa, pv, hW, hr _ _ _, ha _ hlt, hv _ hlt, hkeep, fun _ => ?_⟩
 obtain ⟨_, _, _, _, _, hz, hn⟩ := hW
 have hpp : ([] ++ pa) ++ pv = old := by rw [hp]; rfl
 refine ⟨hok, _, _, ([] ++ pa) ++ pv, ⟨[] ++ pa, pv, trodAll_append (ha _ (fun _ _ => rfl)) (hr _ _ _), hv _ (fun _ _ => rfl), rfl, fun b off hm => ?_, fun hh => ?_⟩, fun p hm _ => ?_⟩
 ·rw [hpp] at hm
  exact (hfz _ hm off).trans (hz b off hm)
 ·rw [hpp]; exact hn hh
 ·rw [hpp] at hm; exact hm
end Go.AX
end
section
namespace Go.AX
def hasAll (want : Array (String × TypeId)) (got : Array Method) : Bool := (want.toList.filter fun x => !got.any fun m => m.name == x.1 && m.sig == x.2).isEmpty
theorem aA4 (l : List String) : (Instr.least l).isNone = l.isEmpty := by cases l <;> rfl
theorem orElse_isNone {α : Type} (a b : Option α) : (a <|> b).isNone = (a.isNone && b.isNone) := by cases a <;> rfl
theorem missing_none (want : Array (String × TypeId)) (got : Array Method) : (Instr.missingMethod want got).isNone = hasAll want got := by
 unfold Instr.missingMethod hasAll
 have key : ∀ (L : List (String × TypeId)), (Instr.least ((L.map (·.1)).partition (·.contains (Char.ofNat 46))).2 <|> Instr.least (((L.map (·.1)).partition (·.contains (Char.ofNat 46))).1.map fun id => (id.splitOn ".").getLastD id)).isNone = L.isEmpty := by
  intro L
  rw [orElse_isNone, aA4, aA4, List.partition_eq_filter_filter]
  cases L with
  | nil => rfl
  | cons x L =>
   simp only [List.map_cons, List.isEmpty_cons]
   cases hc : x.1.contains (Char.ofNat 46) with
   | true => simp [hc]; intro h1 _ h2; exact absurd h1 h2
   | false => simp [hc]; intro h1 _ h2; exact absurd h1 h2
 exact key _
def impAns' (P : Program) (t d : Nat) : Option Bool := match P.underlying t, P.info? d with
 | some (.interface want), some i => some (hasAll want i.methods)
 | _, _ => none
theorem impAns_eq (P : Program) (t d : Nat) : xX P t d = impAns' P t d := by
 unfold xX impAns'
 generalize P.underlying t = u
 generalize P.info? d = i
 cases u with
 | none => rfl
 | some u => cases u <;> first | rfl | (cases i with | none => rfl | some i => simp only [missing_none])
theorem impEq_of {P : Program} {tb : Tab} (h : tb.imp.map (fun p => some p.2.2) = tb.imp.map fun p => impAns' P p.1 p.2.1) : BD P tb := by
 unfold BD
 simp only [impAns_eq]; exact h
end Go.AX
end
section
namespace Go.AX
section
variable {C : Cx} {tb : Tab} {fn : Func}
theorem none_of {α : Type} {o : Option α} (h : o.isNone = true) : o = none := by cases o with | none => rfl | some x => cases h
theorem rel1 {ρ : ak} {a : AV} {vs : List Value} (h : aH C ρ [a] vs) : ∃ x, vs = [x] ∧ Rel C ρ a x := by
 simp only [aH] at h
 obtain ⟨x, vt, rfl, h1, rfl⟩ := h; exact ⟨x, rfl, h1⟩
theorem ext1_ok (h1 : (Extern.findNext fn).isNone = true) (h2 : Extern.find fn = some Extern.AbiNoEscape.same) : pQ C tb 1 fn := by
 refine ⟨none_of h1, _, h2, fun B l S v S' ρ w args h hF av hl hfree => ?_⟩
 match l, h, hl with
 | [x], h, hl =>
  obtain ⟨rfl, rfl⟩ := ae h
  obtain ⟨y, rfl, hy⟩ := rel1 hl
  exact ⟨ρ, y, w, rfl, hy, hF, Ext.refl _ _ _, Below.refl _ _⟩
 | [], h, _ => simp only [ext] at h; exact (ar h).elim
 | _ :: _ :: _, h, _ => simp only [ext] at h; exact (ar h).elim
end
end Go.AX
end
section
namespace Go.AX
open Go.Extern
structure RfOk (P : Program) (tb : Tab) : Prop where
 kd : ∀ t k, iV tb.kd t = some k → (∀ w, (Rtype.kind t).run P w = .ok k w) ∧ P.packed t = false
 el : ∀ t e, iV tb.el t = some e → (∀ w, (Rtype.elem? t).run P w = .ok (some e) w) ∧ P.packed t = false
 fB : ∀ u t r, impl tb.fB u t = some r → (∀ w, (ReflectliteType.assignableTo u t).run P w = .ok r w) ∧ P.packed u = false ∧ P.packed t = false
 im2 : ∀ u t r, impl tb.im2 u t = some r → (∀ w, (ReflectliteType.implements_ u t).run P w = .ok r w) ∧ P.packed u = false ∧ P.packed t = false
 ty : ∀ (t : TypeId) (w : World), (ReflectliteType.toType t).run P w = .ok (.iface tb.rty (.agg #[typeHandle P t])) w
section
variable {C : Cx} {tb : Tab} {fn : Func} {ρ : ak}
def MetAt2 (P : Program) (t : Nat) (m : String) (g : Nat) : Prop := ∀ (x : Value) (w : World), (method (P.types.size + Made.depth) t (.agg #[x]) m).run P w = .ok (g, x) w
theorem allOk' {C : Cx} {tb : Tab} (hty : TyEq C.P tb) (himp : BD C.P tb) (av : tb.ng = C.P.globals.size) (hhyp : tb.hyp = []) (hfn : FnEq C.P tb) (hchk : fnChk C.P tb = true)
 (hmet : ∀ t m g d, (t, m, g, d) ∈ tb.met → (d = false ∧ MetAt C.P t m g) ∨ (d = true ∧ MetAt2 C.P t m g)) (dt : C.P.follows .mixedOrders = true)
 (hext : ∀ g fi fn, tb.fn.get g = some fi → C.P.funcs[g]? = some fn → fi.body = none → fi.ext = 0 ∨ pQ C tb fi.ext fn) : bM C tb where
 tab := { ty := fun t ti h => by
           have := qT hty _ (pZ h)
           simp only [] at this
           cases hi : C.P.info? t with
           | none => rw [hi] at this; cases this
           | some i => rw [hi] at this; injection this with this; exact ⟨i, rfl, this⟩
          hyp := fun k r h => by rw [hhyp] at h; simp at h
          imp := fun t d r h => by
           have := qT himp _ (aN9 _ _ _ _ h)
           simp only [xX] at this
           split at this
           ·rename_i want i h1 h2
            injection this with this
            exact ⟨want, i, h1, h2, this.symm⟩
           ·cases this
          ngl := av }
 met := fun t m g d v u ρ x w h1 h2 h3 => by
  rcases hmet t m g d (aG4 _ _ _ _ h1) with ⟨rfl, hm⟩ | ⟨rfl, hm⟩
  ·simp only [recv, cond_false, Option.some.injEq] at h2
   subst h2
   exact ⟨x, hm x w, h3⟩
  ·simp only [recv, cond_true] at h2
   split at h2
   ·injection h2 with h2; subst h2
    simp only [Rel, aH] at h3
    obtain ⟨cs, rfl, y, vt, rfl, hy, rfl⟩ := h3
    exact ⟨y, hm y w, hy⟩
   ·cases h2
 fn := fun g fi h => by
  have h1 := qT hfn _ (pZ h)
  have h2 := List.all_eq_true.1 hchk _ (pZ h)
  simp only [] at h1 h2
  cases hf : C.P.funcs[g]? with
  | none => rw [hf] at h1; cases h1
  | some fn =>
   rw [hf] at h1 h2
   simp only [Option.map_some, Option.some.injEq, Prod.mk.injEq] at h1
   simp only [Bool.and_eq_true] at h2
   refine ⟨fn, hf, by simpa using h2.1.1.1, h1.1.symm, h1.2.1.symm, h1.2.2.symm, fun c hc => ?_, fun v hv => ?_, fun c hc => ?_, fun l hl _ => ?_, fun hb => hext g fi fn h hf hb⟩
   ·have := h2.1.1.2; rw [hc] at this; exact this
   ·have := h2.1.2; rw [hv] at this; cases this
   ·rw [List.isEmpty_iff.1 h2.2]; exact bU.nil c
   ·rw [List.isEmpty_iff.1 h2.2] at hl; cases hl
 mix := dt
/- the whole run, some old blocks known -/
def lG (e : Nat) (c : Cells) : aZ := .b ⟨e, c, 0, 0, c.len, true, false⟩
end
end Go.AX
end
section
namespace Go.AX
open Go.Extern
section
variable {C : Cx} {tb : Tab} {fn : Func} {ρ : ak}
end
end Go.AX
end
section
namespace Go.AX
/- old blocks of which the first cells are known -/
def nC (C : Cx) (w : World) (g e : Nat) (l : List AV) : Prop :=
 ∃ arr fz, w.heap[g]? = some (.cells arr e fz) ∧ arr.size = l.length ∧ ∀ (j : Nat) (a : AV), l[j]? = some a → ∃ x, arr[j]? = some x ∧ Rel C (fun _ => none) a x ∧ x.oneCell' = true
def sR (l : List AV) (c : Cells) : Prop := CW c ∧ c.toL = l
theorem aR7 {C : Cx} {tb : Tab} (h : bM C tb) {f g : Nat} {fi : FI} {l : List AV} {v : AV} {S' : St} {args : List Value} {H : T aZ} (hfi : tb.fn.get g = some fi) (hb : fi.body.isSome = true)
 (hc : call tb f g l ⟨H, tb.ng, 0, 0⟩ = some (v, S')) (hl : aH C (fun _ => none) l args) (w : World) (hi : C.inv w) (hsz : C.cE ≤ w.heap.size)
 (hH : ∀ v k, H.get v = some k → v < tb.ng ∧ ∃ e c m, k = lG e c ∧ sR m c ∧ nC C w v e m) :
 Calls C.P g ⟨args⟩ w fun e w' => ∃ x ρ, e = .returned x ∧ Rel C ρ v x ∧ Below (Fz.lt w.heap.size) w w' := by
 have hF : Fits C tb.ng (Fz.lt w.heap.size) (ly tb.ng) H w := by
  refine ⟨fun k hk => hk, fun g hg => by simp [ly, hg], fun v k hv => ?_, fun v v' k k' r r' hv hv' h1 h2 h3 => ?_, fun k hk => Nat.lt_of_lt_of_le hk hsz, hi⟩
  ·obtain ⟨hlt, e, c, m, rfl, ⟨hcw, hcm⟩, arr, fz, h1, h2, h3⟩ := hH v k hv
   refine ⟨⟨v, 0, 0, 0⟩, by simp [ly, hlt], _, h1, rfl, ?_⟩
   have hcl : c.len = m.length := by rw [Cells.len_eq, hcm]
   refine ⟨⟨hcw, fun j a hj => ?_⟩, fun h => (by cases h), fun x hx1 hx2 hx3 => ?_, fun h => (by cases h), fun _ => ⟨Nat.le_refl _, rfl, rfl⟩, ?_, fun _ => rfl⟩
   ·have hj : c.toL[j]? = some a := hj
    rw [hcm] at hj
    obtain ⟨x, hx, hr, ho⟩ := h3 j a hj
    exact ⟨x, by simpa using hx, hr.tk, ho⟩
   ·have hx1 : 0 + c.len ≤ x := hx1
    omega
   ·show 0 + c.len ≤ arr.size; omega
  ·obtain ⟨l1, _⟩ := hH v k hv
   obtain ⟨l2, _⟩ := hH v' k' hv'
   simp only [ly, if_pos l1, if_pos l2, Option.some.injEq] at h1 h2
   subst h1; subst h2; exact .inl h3
 have hfree : Free (ly tb.ng) tb.ng S'.next := fun v h1 h2 => by simp only [ly]; rw [if_neg (by omega)]
 obtain ⟨fn, hfn⟩ := h.fn g fi hfi
 have hu := FD (B := Fz.lt w.heap.size) h f g l ⟨H, tb.ng, 0, 0⟩ v S' (ly tb.ng) w args ⟨some 0, .move (.const undef), 0, "", #[], none⟩ ⟨#[undef], []⟩
  (fun a' w' => ∃ ρ, Rel C ρ v (a'.tmps.getD 0 undef) ∧ Below (Fz.lt w.heap.size) w w') (fun _ _ _ => False) Fence.wide 0 tG hc hF (Nat.le_refl _) (aH.mono (fun v r hv => by cases hv) _ _ hl) hfree
  (fun ρ' x w' r1 r2 r3 r4 => ⟨ρ', by simpa [Act.put] using r1, r4⟩)
 rw [jv hfn.at_ hfn.name (by rw [hfn.body]; exact hb), Oper.uponIn_enter] at hu
 refine Calls.mono (callsIn_wide.1 hu.2) fun e w' he => ?_
 cases e with
 | returned x =>
  obtain ⟨ρ, h1, h2⟩ := he
  exact ⟨x, ρ, rfl, by simpa [Act.put] using h1, h2⟩
 | panicked c => exact he.elim
 | outgrown => obtain ⟨_, _, h⟩ := he; exact h.elim
theorem aA5 {P : Program} {w : World} {name : String} {d : DataW Unit} : ∀ {laid : List (String × DataW Unit)} {ps : List MemPlace}, DataW.LaidVars P w laid ps → (name, d) ∈ laid →
 ∃ g t cs fuel p, P.globalNamed name = some g ∧ (P.globals[g]?).map (·.type) = some t ∧ w.var? P name = some cs ∧ DataW.trod (fun _ => ()) P w 0 (fun _ => true) false fuel t cs.toList = some (d, p)
 | [], _, _, h => by cases h
 | (n, d') :: r, ps, h, hm => by
  obtain ⟨g, t, cs, fuel, p, q, h1, h2, h3, h4, h5, _⟩ := h
  rcases List.mem_cons.1 hm with e | e
  ·injection e with e1 e2; subst e1; subst e2
   exact ⟨g, t, cs, fuel, p, h1, h2, h3, h4⟩
  ·exact aA5 h5 e
theorem laid_ints {C : Cx} {W : World} {laid : List (String × DataW Unit)} {name : String} {g t e n : Nat} {k : IntKind} {zs : List Int} (h : laidMet C.P laid W)
 (hm : (name, .agg (zs.map fun z => .lit (.int k z))) ∈ laid) (hg : C.P.globalNamed name = some g) (ht : (C.P.globals[g]?).map (·.type) = some t) (hu : C.P.underlying t = some (.array n e))
 (hc : C.P.cellsOf e = 1) (hct : C.P.cellsOf t = n) (hk : C.P.underlying e = some (.int k)) : ∃ ty, nC C W g ty (zs.map fun z => .i k z) := by
 obtain ⟨ps, hp, _, _⟩ := h
 obtain ⟨g', t', cs, fuel, p, h1, h2, h3, h4⟩ := aA5 hp hm
 rw [hg] at h1; injection h1 with h1; subst h1
 rw [ht] at h2; injection h2 with h2; subst h2
 obtain ⟨xs, m, _, ex, hlen, hxl, hel⟩ := DataW.trod_array hu h4
 have e3 : xs.map (·.1) = zs.map fun z => .lit (.int k z) := (DataW.agg.inj (Prod.mk.inj ex).1).symm
 have hzl : zs.length = n := by have := congrArg List.length e3; simp at this; omega
 unfold World.var? at h3
 rw [hg] at h3
 simp only [Option.bind_some] at h3
 split at h3
 ·rename_i arr ty fz hh
  injection h3 with h3
  subst h3
  have hsz : arr.size = n := by rw [← hct, ← hlen]; simp
  refine ⟨ty, arr, fz, hh, by simp [hsz, hzl], fun j a hj => ?_⟩
  rw [List.getElem?_map] at hj
  have hjn : j < n := by
   rcases Nat.lt_or_ge j n with h | h
   ·exact h
   ·rw [List.getElem?_eq_none (by omega)] at hj; cases hj
  rw [List.getElem?_eq_getElem (by omega : j < zs.length)] at hj
  simp only [Option.map_some, Option.some.injEq] at hj
  subst hj
  have hE := hel j hjn
  rw [hc, Nat.mul_one, List.getElem?_eq_getElem (by omega : j < xs.length)] at hE
  obtain ⟨z, e1, e2, _⟩ := DataW.trod_int hk hE
  have e4 : (xs.map (·.1))[j]? = (zs.map fun z => (DataW.lit (.int k z) : DataW Unit))[j]? := by rw [e3]
  rw [List.getElem?_map, List.getElem?_map, List.getElem?_eq_getElem (by omega : j < xs.length), List.getElem?_eq_getElem (by omega : j < zs.length), e2] at e4
  have hz : z = zs[j] := by
   simp only [Option.map_some, Option.some.injEq, DataW.lit.injEq, Lit.int.injEq, true_and] at e4
   exact e4
  refine ⟨.int k zs[j], ?_, by simp only [Rel], rfl⟩
  have h0 : ((arr.toList.drop j).take 1)[0]? = some (.int k z) := by rw [e1]; rfl
  rw [← hz]
  simpa using h0
 ·cases h3
end Go.AX
namespace Go.AX
def iZ (w : World) (g : Nat) (k : IntKind) (zs : List Int) : Prop :=
 ∃ ty arr fz, w.heap[g]? = some (.cells arr ty fz) ∧ arr.size = zs.length ∧ ∀ (j : Nat) (z : Int), zs[j]? = some z → arr[j]? = some (.int k z)
theorem iZ.size {w : World} {g : Nat} {k : IntKind} {zs : List Int} (h : iZ w g k zs) : g < w.heap.size := by
 obtain ⟨ty, arr, fz, hw, _⟩ := h
 rcases Nat.lt_or_ge g w.heap.size with h | h
 ·exact h
 ·rw [Array.getElem?_eq_none h] at hw; cases hw
theorem iZ.same {w w' : World} {g : Nat} {k : IntKind} {zs : List Int} (h : iZ w g k zs) (e : w'.heap[g]? = w.heap[g]?) : iZ w' g k zs := by
 obtain ⟨ty, arr, fz, hw, hr⟩ := h
 exact ⟨ty, arr, fz, by rw [e]; exact hw, hr⟩
theorem iZ.ow {C : Cx} {w : World} {g : Nat} {k : IntKind} {zs : List Int} (h : iZ w g k zs) : ∃ ty, nC C w g ty (zs.map fun z => .i k z) := by
 obtain ⟨ty, arr, fz, hw, hs, hr⟩ := h
 refine ⟨ty, arr, fz, hw, by simpa using hs, fun j a hj => ?_⟩
 rw [List.getElem?_map] at hj
 cases hz : zs[j]? with
 | none => rw [hz] at hj; cases hj
 | some z =>
  rw [hz] at hj
  simp only [Option.map_some, Option.some.injEq] at hj
  subst hj
  exact ⟨_, hr j z hz, by simp only [Rel], rfl⟩
theorem Cz {P : Program} {W : World} {laid : List (String × DataW Unit)} {name : String} {g t e n : Nat} {k : IntKind} {zs : List Int} (h : laidMet P laid W)
 (hm : (name, .agg (zs.map fun z => .lit (.int k z))) ∈ laid) (hg : P.globalNamed name = some g) (ht : (P.globals[g]?).map (·.type) = some t) (hu : P.underlying t = some (.array n e))
 (hc : P.cellsOf e = 1) (hct : P.cellsOf t = n) (hk : P.underlying e = some (.int k)) : iZ W g k zs := by
 obtain ⟨ty, arr, fz, h1, h2, h3⟩ := laid_ints (C := ⟨P, fun _ => .bool true, fun _ _ => rfl, 0, fun _ => True, fun _ _ _ h => h⟩) h hm hg ht hu hc hct hk
 refine ⟨ty, arr, fz, h1, by simpa using h2, fun j z hz => ?_⟩
 obtain ⟨x, h4, h5, _⟩ := h3 j (.i k z) (by rw [List.getElem?_map, hz]; rfl)
 simp only [Rel] at h5
 rw [h4, h5]
end Go.AX
end
section
namespace Go.AX
noncomputable section
def cN (l : List (Nat × AV)) (nt : Nat) : Env := ⟨iL l .leaf, nt⟩
def cV (ep : List (Nat × AV)) (keep : List Nat) : List (Nat × AV) := keep.foldl (fun l t => (t, .x (Nat.add 1000000 t)) :: l) ep
theorem aD9 (keep : List Nat) : ∀ (ep : List (Nat × AV)) s x, (s, x) ∈ cV ep keep → (s, x) ∈ ep ∨ (s ∈ keep ∧ x = .x (1000000 + s)) := by
 induction keep with
 | nil => intro ep s x h; exact .inl h
 | cons t r ih =>
  intro ep s x h
  rcases ih _ s x h with h1 | h1
  ·rcases List.mem_cons.1 h1 with e | h2
   ·injection e with e1 e2; subst e1; exact .inr ⟨List.mem_cons_self .., e2⟩
   ·exact .inl h2
  ·exact .inr ⟨List.mem_cons_of_mem _ h1.1, h1.2⟩
def B5 (E : Env) (s : Nat) (y : AV) : Bool := match E.tm.get s with
 | some a => eu 8 a y && gd 8 y
 | none => false
def pc (E : Env) : List (Nat × AV) → Bool
 | [] => true
 | p :: r => B5 E p.1 p.2 && pc E r
def jb (E : Env) : List Nat → Bool
 | [] => true
 | t :: r => B5 E t (.x (Nat.add 1000000 t)) && jb E r
theorem aB2 {E : Env} : ∀ {l : List Nat}, jb E l = true → ∀ t, t ∈ l → E.tm.get t = some (.x (1000000 + t))
 | [], _, t, h => by cases h
 | u :: r, h, t, hm => by
  simp only [jb, B5, Bool.and_eq_true] at h
  rcases List.mem_cons.1 hm with e | hm
  ·subst e
   have h1 := h.1
   cases hg : E.tm.get t with
   | none => rw [hg] at h1; cases h1
   | some a => rw [hg] at h1; simp only [Bool.and_eq_true] at h1; rw [iH 8 a _ h1.1]; rfl
  ·exact aB2 h.2 t hm
structure Round (C : Cx) (body : Code) (l : LF) (ep : List (Nat × AV)) {α : Type} (I : α → Prop) (μ : α → Nat) (D : α → (Nat → Value) → Cx) (x : α) (X : Nat → Value) : Prop where
 run : ∃ (tb : Tab) (L : List LF) (f : Nat) (ex : Ex) (E1 : Env) (S1 : St), bM (D x X) tb ∧ bU (D x X) L body ∧ code tb f L body (cN (cV ep l.keep) l.nt) ⟨.leaf, tb.ng, 0, 0⟩ = some ((ex, E1), S1) ∧ jb E1 l.keep = true ∧ E1.nt = l.nt ∧
  ((ex = .normal ∧ ∃ (y : α) (q : List (Nat × AV)), I y ∧ μ y < μ x ∧ pc E1 q = true ∧ ∀ s a, (s, a) ∈ ep → ∃ b, (s, b) ∈ q ∧ ∀ v, Rel (D x X) (fun _ => none) b v → Rel (D y X) (fun _ => none) a v) ∨
   (ex ≠ .normal ∧ ex = l.ex ∧ ∃ q : List (Nat × AV), pc E1 q = true ∧ ∀ s a, (s, a) ∈ l.post → ∃ b, (s, b) ∈ q ∧ ∀ v, Rel (D x X) (fun _ => none) b v → Rel C (fun _ => none) a v))
end
end Go.AX
end
section

namespace Go.AX
section
variable {C : Cx}
end
end Go.AX
end
section
namespace Go.AX
abbrev St' (l : List UInt8) : Value := .string ⟨l.toArray⟩
def bt (l : List UInt8) (i : Nat) : Int := ((l.getD i 0).toNat : Int)
theorem hJ (l : List UInt8) (i : Nat) : 0 ≤ bt l i := by unfold bt; omega
theorem hR (l : List UInt8) (i : Nat) : bt l i ≤ 255 := by unfold bt; have := (l.getD i 0).toNat_lt; omega
def Is (C : Cx) (a : AV) (v : Value) : Prop := ∀ ρ x, Rel C ρ a x → x = v
def Den (C : Cx) (a : AV) (v : Value) : Prop := ∀ ρ, Rel C ρ a v
section
variable {C : Cx}
theorem aA {i : Nat} {v : Value} (h : C.nu i = v) : Is C (.x i) v := fun ρ x hx => by simp only [Rel] at hx; rw [hx, h]
theorem isI (k : IntKind) (n : Int) : Is C (.i k n) (.int k n) := fun ρ x hx => by simpa only [Rel] using hx
theorem isS (len n : Nat) : Is C (.s len n) (St' (bV len n)) := fun ρ x hx => by simp only [Rel] at hx; exact hx.1
theorem aF {i : Nat} {v : Value} (h : C.nu i = v) : Den C (.x i) v := fun ρ => by simp only [Rel]; exact h.symm
theorem denI (k : IntKind) (n : Int) : Den C (.i k n) (.int k n) := fun ρ => by simp only [Rel]
theorem me (b : Bool) : Den C (.b b) (.bool b) := fun ρ => by simp only [Rel]
theorem fo {len n : Nat} (h : n < 2 ^ (8 * len)) : Den C (.s len n) (St' (bV len n)) := fun ρ => by simp only [Rel]; exact ⟨trivial, h⟩
theorem rC {n : Int} (h1 : -9223372036854775808 ≤ n) (h2 : n ≤ 9223372036854775807) : fits .i64 n = true := by
 cases n with
 | ofNat a => exact Nat.ble_eq_true_of_le (by have : Int.ofNat a = (a : Int) := rfl; omega)
 | negSucc a => exact Nat.ble_eq_true_of_le (by omega)
theorem fU {k : IntKind} {n : Int} (h0 : 0 ≤ n) (hk : ∀ a : Nat, (a : Int) = n → fits k (.ofNat a) = true) : fits k n = true := by
 obtain ⟨a, rfl⟩ := Int.eq_ofNat_of_zero_le h0
 exact hk a rfl
theorem fU8 {n : Int} (h0 : 0 ≤ n) (h : n ≤ 255) : fits .u8 n = true := fU h0 fun a e => Nat.ble_eq_true_of_le (by omega)
theorem fO {n : Int} (h0 : 0 ≤ n) (h : n ≤ 18446744073709551615) : fits .u64 n = true := fU h0 fun a e => Nat.ble_eq_true_of_le (by omega)
theorem wrapU8 (n : Int) : IntKind.u8.wrap n = n % 256 := by
 simp only [IntKind.wrap, IntKind.bits, IntKind.signed, Bool.false_and, Bool.false_eq_true, if_false, Nat.reduceSub]
 omega
variable {x y r : AV} {k : IntKind} {a b c : Int}
theorem ou {o : BinOp} {v : Value} (hx : Is C x (.int k a)) (hy : Is C y (.int k b)) (hr : Den C r v) (hrun : ∀ t w, (binOp o t (.int k a) (.int k b)).run C.P w = .ok v w) : aS C (.bin o x y) r := by
 intro ρ vx vy h1 h2
 have e1 := hx ρ vx h1; have e2 := hy ρ vy h2; subst e1; subst e2
 exact ⟨.inl ⟨k, a, b, rfl, rfl⟩, v, hr ρ, hrun⟩
theorem oX (hx : Is C x (.int k a)) (hy : Is C y (.int k b)) (hr : Den C r (.int k c)) (hc : a + b = c) (hf : fits k c = true) : aS C (.bin .add x y) r :=
 ou hx hy hr fun t w => by subst hc; simp [binOp, Op.intArith, mU k _ hf]
theorem kSub (hx : Is C x (.int k a)) (hy : Is C y (.int k b)) (hr : Den C r (.int k c)) (hc : a - b = c) (hf : fits k c = true) : aS C (.bin .sub x y) r :=
 ou hx hy hr fun t w => by subst hc; simp [binOp, Op.intArith, mU k _ hf]
theorem xL (hx : Is C x (.int k a)) (hy : Is C y (.int k b)) (hr : Den C r (.int k c)) (h0 : 0 ≤ a) (hb : 0 < b) (hc : a / b = c) (hf : fits k c = true) : aS C (.bin .quo x y) r :=
 ou hx hy hr fun t w => by
  have e : a.tdiv b = c := by rw [Int.tdiv_eq_ediv_of_nonneg h0]; exact hc
  have hz : b ≠ 0 := by omega
  simp [binOp, Op.intDiv, hz, e, mU k _ hf]
theorem xJ (hx : Is C x (.int k a)) (hy : Is C y (.int k b)) (hr : Den C r (.int k c)) (h0 : 0 ≤ a) (hb : 0 < b) (hc : a % b = c) : aS C (.bin .rem x y) r :=
 ou hx hy hr fun t w => by
  have e : a.tmod b = c := by rw [Int.tmod_eq_emod_of_nonneg h0]; exact hc
  have hz : b ≠ 0 := by omega
  simp [binOp, Op.intDiv, hz, e]
theorem tn_nat {k : IntKind} {n : Nat} (h : fits k (n : Int) = true) : tn k (n : Int) = n := by
 show tn k (.ofNat n) = n
 unfold tn
 have h : fits k (.ofNat n) = true := h
 simp only [h, cond_true]
theorem kAnd (m : Nat) (hx : Is C x (.int k a)) (hy : Is C y (.int k b)) (hr : Den C r (.int k c)) (h0 : 0 ≤ a) (hfa : fits k a = true) (hfb : fits k b = true) (hb : b = 2 ^ m - 1) (hc : a % 2 ^ m = c) : aS C (.bin .and x y) r := by
 obtain ⟨A, rfl⟩ := Int.eq_ofNat_of_zero_le h0
 have hp : (1 : Int) ≤ 2 ^ m := by have h1 : (1 : Nat) ≤ 2 ^ m := Nat.one_le_two_pow; have : ((2 ^ m : Nat) : Int) = 2 ^ m := by simp
                                   omega
 obtain ⟨Bn, hB⟩ := Int.eq_ofNat_of_zero_le (show (0 : Int) ≤ b by omega)
 subst hB
 have hbn : Bn = 2 ^ m - 1 := by
  have h1 : (1 : Nat) ≤ 2 ^ m := Nat.one_le_two_pow
  have : ((2 ^ m - 1 : Nat) : Int) = 2 ^ m - 1 := by rw [Int.ofNat_sub h1]; simp
  omega
 have e : Nat.land A Bn = A % 2 ^ m := by rw [hbn]; exact Nat.and_two_pow_sub_one_eq_mod A m
 have hcA : c = ((A % 2 ^ m : Nat) : Int) := by rw [← hc]; simp
 have hle : A % 2 ^ m ≤ A := Nat.mod_le _ _
 refine ou hx hy hr fun t w => ?_
 obtain ⟨_, v, hv, hq⟩ := aZ4 (C := C) (ρ := fun _ => none) (o := .and) (k := k) (a := A) (c := Bn) (S := ⟨.leaf, 0, 0, 0⟩) rfl ⟨by simp, by simp⟩
 have hv' : v = .int k c := by
  simp only [dM, Rel] at hv
  rw [hv, tn_nat hfa, tn_nat hfb, e, hcA, gW, mU]
  ·rfl
  ·have := Ep k _ hfa
   have : fits k ((A % 2 ^ m : Nat) : Int) = true := by
    have h := hfa
    cases k <;> first | (cases h; done) | exact Nat.ble_eq_true_of_le (Nat.le_trans hle (Nat.le_of_ble_eq_true h))
   exact this
 rw [← hv']; exact hq t w
theorem kShr {l : IntKind} (p : Nat) (hx : Is C x (.int k a)) (hy : Is C y (.int l b)) (hr : Den C r (.int k c)) (hb : b = (p : Int)) (hp : p ≤ k.bits) (h0 : 0 ≤ a) (hc : a / 2 ^ p = c) : aS C (.bin .shr x y) r := by
 intro ρ vx vy h1 h2
 have e1 := hx ρ vx h1; have e2 := hy ρ vy h2; subst e1; subst e2; subst hb; subst hc
 refine ⟨.inr (.inr ⟨.inr rfl, k, l, a, p, rfl, rfl⟩), _, hr ρ, fun t w => ?_⟩
 have e : a.fdiv (2 ^ p) = a / 2 ^ p := Int.fdiv_eq_ediv_of_nonneg _ (Int.pow_nonneg (by omega))
 simp [binOp, Op.shift, Nat.min_eq_left hp, e]
 intro hneg; omega
theorem qf {o : BinOp} {q : Bool} (hx : Is C x (.int k a)) (hy : Is C y (.int k b)) (h : (o = .lss ∧ q = decide (a < b)) ∨ (o = .leq ∧ q = decide (a ≤ b)) ∨ (o = .gtr ∧ q = decide (b < a)) ∨ (o = .geq ∧ q = decide (b ≤ a)) ∨ (o = .eql ∧ q = decide (a = b)) ∨ (o = .neq ∧ q = !decide (a = b))) : aS C (.bin o x y) (.b q) :=
 ou hx hy (me q) fun t w => by
  rcases h with ⟨rfl, rfl⟩ | ⟨rfl, rfl⟩ | ⟨rfl, rfl⟩ | ⟨rfl, rfl⟩ | ⟨rfl, rfl⟩ | ⟨rfl, rfl⟩ <;> simp [binOp, Op.intCmp] <;> rfl
theorem kLt {q : Bool} (hx : Is C x (.int k a)) (hy : Is C y (.int k b)) (h : decide (a < b) = q) : aS C (.bin .lss x y) (.b q) := qf hx hy (.inl ⟨rfl, h.symm⟩)
theorem kLe {q : Bool} (hx : Is C x (.int k a)) (hy : Is C y (.int k b)) (h : decide (a ≤ b) = q) : aS C (.bin .leq x y) (.b q) := qf hx hy (.inr (.inl ⟨rfl, h.symm⟩))
theorem kGt {q : Bool} (hx : Is C x (.int k a)) (hy : Is C y (.int k b)) (h : decide (b < a) = q) : aS C (.bin .gtr x y) (.b q) := qf hx hy (.inr (.inr (.inl ⟨rfl, h.symm⟩)))
theorem kGe {q : Bool} (hx : Is C x (.int k a)) (hy : Is C y (.int k b)) (h : decide (b ≤ a) = q) : aS C (.bin .geq x y) (.b q) := qf hx hy (.inr (.inr (.inr (.inl ⟨rfl, h.symm⟩))))
theorem kEqI {q : Bool} (hx : Is C x (.int k a)) (hy : Is C y (.int k b)) (h : decide (a = b) = q) : aS C (.bin .eql x y) (.b q) := qf hx hy (.inr (.inr (.inr (.inr (.inl ⟨rfl, h.symm⟩)))))
theorem kNeg (hx : Is C x (.int k a)) (hr : Den C r (.int k c)) (hc : -a = c) (hf : fits k c = true) : aS C (.un .neg x) r := by
 intro ρ vx h1
 have e1 := hx ρ vx h1; subst e1
 refine ⟨_, hr ρ, fun w => ?_⟩
 have e : 0 - a = c := by omega
 simp [Op.unary, Op.intArith, e, mU k _ hf]
theorem kConv {t : Nat} {q : IntKind} (hx : Is C x (.int k a)) (ht : C.P.underlying t = some (.int q)) (hr : Den C r (.int q c)) (hc : q.wrap a = c) : aS C (.conv t x) r := by
 intro ρ vx h1
 have e1 := hx ρ vx h1; subst e1; subst hc
 refine ⟨.inl ⟨k, a, rfl⟩, _, hr ρ, fun src w hs => ?_⟩
 obtain ⟨d, hd⟩ := Option.isSome_iff_exists.1 hs
 simp only [convert, Sem.run_bind, run_underlying hd, run_underlying ht, Result.andThen_ok]
 simp [Conv.intToInt]
theorem oV {t : Nat} {q : IntKind} (hx : Is C x (.int k a)) (ht : C.P.underlying t = some (.int q)) (hr : Den C r (.int q a)) (hf : fits q a = true) : aS C (.conv t x) r := kConv hx ht hr (mU q a hf)
/- strings -/
variable {l m n : List UInt8}
theorem Eh {o : BinOp} {v : Value} (hx : Is C x (St' l)) (hy : Is C y (St' m)) (hr : Den C r v) (hrun : ∀ t w, (binOp o t (St' l) (St' m)).run C.P w = .ok v w) : aS C (.bin o x y) r := by
 intro ρ vx vy h1 h2
 have e1 := hx ρ vx h1; have e2 := hy ρ vy h2; subst e1; subst e2
 exact ⟨.inr (.inl ⟨_, _, rfl, rfl⟩), v, hr ρ, hrun⟩
theorem aI (hx : Is C x (St' l)) (hy : Is C y (St' m)) (hr : Den C r (St' n)) (hc : l ++ m = n) (hsz : l.length + m.length ≤ 9223372036854775807) : aS C (.bin .add x y) r :=
 Eh hx hy hr fun t w => by
  subst hc
  have h1 : (⟨l.toArray⟩ : ByteArray).size = l.length := by simp [ByteArray.size]
  have h2 : (⟨m.toArray⟩ : ByteArray).size = m.length := by simp [ByteArray.size]
  have e : (⟨l.toArray⟩ : ByteArray) ++ ⟨m.toArray⟩ = ⟨(l ++ m).toArray⟩ := by
   apply ByteArray.ext
   simp
  simp only [binOp, Op.stringOp, h1, h2]
  rw [if_neg (by simp [IntKind.max, IntKind.signed, IntKind.bits]; omega)]
  simp [e]
theorem toL_eq (l : List UInt8) : (⟨l.toArray⟩ : ByteArray).toList = l := by rw [ByteArray.toList_eq]
theorem lb_eq (l m : List UInt8) : (l == m) = decide (l = m) := by rw [Bool.eq_iff_iff]; simp
theorem br {q : Bool} (hx : Is C x (St' l)) (hy : Is C y (St' m)) (h : decide (l = m) = q) : aS C (.bin .eql x y) (.b q) :=
 Eh hx hy (me q) fun t w => by
  subst h
  simp only [binOp, Op.stringOp, toL_eq]
  simp only [Sem.run_pure, lb_eq]
theorem ky {q : Bool} (hx : Is C x (St' l)) (hy : Is C y (St' m)) (h : (!decide (l = m)) = q) : aS C (.bin .neq x y) (.b q) :=
 Eh hx hy (me q) fun t w => by
  subst h
  simp only [binOp, Op.stringOp, toL_eq]
  simp only [Sem.run_pure, lb_eq]
theorem kLen (hx : Is C x (St' l)) (hr : Den C r (.int .i64 (l.length : Int))) : aS C (.len x) r := by
 intro ρ vx h1
 have e1 := hx ρ vx h1; subst e1
 exact ⟨_, hr ρ, _, rfl, by simp [ByteArray.size]⟩
theorem kIdx {i : Nat} (hx : Is C x (St' l)) (hy : Is C y (.int k b)) (hr : Den C r (.int .u8 (bt l i))) (hb : b = (i : Int)) (hi : i < l.length) : aS C (.idx x y) r := by
 intro ρ vx vy h1 h2
 have e1 := hx ρ vx h1; have e2 := hy ρ vy h2; subst e1; subst e2; subst hb
 refine ⟨_, hr ρ, fun t w hu => ?_⟩
 have hsz : (⟨l.toArray⟩ : ByteArray).size = l.length := by simp [ByteArray.size]
 have hg : (⟨l.toArray⟩ : ByteArray).data[i]? = some (l.getD i 0) := by
  simp [List.getElem?_eq_getElem hi, List.getD_eq_getElem?_getD]
 have h0 : (0 : Int) ≤ i ∧ (i : Int) < l.length := by omega
 simp [Instr.index, asIntOf, run_underlying hu, hsz, h0, hi]
 unfold bt
 have e : (⟨l.toArray⟩ : ByteArray)[i]'(by simpa [ByteArray.size] using hi) = l.getD i 0 := by
  rw [ByteArray.getElem_eq_getElem_data]
  simp [List.getD_eq_getElem?_getD, List.getElem?_eq_getElem hi]
 simp [e]
theorem kSub' {lo hi : Option AV} {p q : Nat} (hx : Is C x (St' l)) (hlo : (lo = none ∧ p = 0) ∨ ∃ e k, lo = some e ∧ Is C e (.int k (p : Int))) (hhi : (hi = none ∧ q = l.length) ∨ ∃ e k, hi = some e ∧ Is C e (.int k (q : Int)))
 (h1 : p ≤ q) (h2 : q ≤ l.length) (hr : Den C r (St' n)) (hc : (l.drop p).take (q - p) = n) : aS C (.sub x lo hi) r := by
 intro ρ vx h3
 have e1 := hx ρ vx h3; subst e1
 refine ⟨_, hr ρ, fun vl vh hl hh t w hu => ?_⟩
 have hsz : (⟨l.toArray⟩ : ByteArray).size = l.length := by simp [ByteArray.size]
 have bl : (vl = none ∧ p = 0) ∨ ∃ k, vl = some (.int k (p : Int)) := by
  rcases hlo with ⟨rfl, e⟩ | ⟨e, k, rfl, he⟩
  ·exact .inl ⟨hl, e⟩
  ·obtain ⟨y, rfl, hy⟩ := hl; exact .inr ⟨k, by rw [he ρ y hy]⟩
 have bh : (vh = none ∧ q = l.length) ∨ ∃ k, vh = some (.int k (q : Int)) := by
  rcases hhi with ⟨rfl, e⟩ | ⟨e, k, rfl, he⟩
  ·exact .inl ⟨hh, e⟩
  ·obtain ⟨y, rfl, hy⟩ := hh; exact .inr ⟨k, by rw [he ρ y hy]⟩
 have he : (⟨l.toArray⟩ : ByteArray).extract p q = ⟨n.toArray⟩ := by
  subst hc
  apply ByteArray.ext
  simp [ByteArray.data_extract, List.extract_eq_take_drop]
 simp [Instr.slice, run_underlying hu, hsz, gL bl bh h1 h2, he]
/- a row of bytes made a string -/
theorem kBytes {vs : List AV} (bs : List UInt8) (h : ∀ ρ xs, aH C ρ vs xs → xs = bs.map fun b => .int .u8 (b.toNat : Int)) (hr : Den C r (St' bs)) : aS C (.bytes vs) r := fun ρ xs hx => ⟨bs, _, h ρ xs hx, rfl, hr ρ⟩
end
end Go.AX
end
section
namespace Go.AX
def u8 (n : Int) : UInt8 := UInt8.ofNat n.toNat
theorem tN {n : Int} (h0 : 0 ≤ n) (h : n ≤ 255) : ((u8 n).toNat : Int) = n := by
 unfold u8
 rw [UInt8.toNat_ofNat']
 have : n.toNat % 2 ^ 8 = n.toNat := Nat.mod_eq_of_lt (by omega)
 omega
theorem u8_bt (l : List UInt8) (i : Nat) : u8 (bt l i) = l.getD i 0 := by
 unfold u8 bt
 simp
section
variable {C : Cx} {x y r : AV} {k : IntKind} {a b c : Int} {l m n : List UInt8}
theorem C8 (m : Nat) (M : Int) (hM : (2 : Int) ^ m = M) (hx : Is C x (.int k a)) (hy : Is C y (.int k b)) (hr : Den C r (.int k c)) (h0 : 0 ≤ a) (hfa : fits k a = true) (hfb : fits k b = true) (hb : b = M - 1) (hc : a % M = c) : aS C (.bin .and x y) r :=
 kAnd m hx hy hr h0 hfa hfb (by rw [hM]; exact hb) (by rw [hM]; exact hc)
theorem C5 {l : IntKind} (p : Nat) (M : Int) (hM : (2 : Int) ^ p = M) (hx : Is C x (.int k a)) (hy : Is C y (.int l b)) (hr : Den C r (.int k c)) (hb : b = (p : Int)) (hp : p ≤ k.bits) (h0 : 0 ≤ a) (hc : a / M = c) : aS C (.bin .shr x y) r :=
 kShr p hx hy hr hb hp h0 (by rw [hM]; exact hc)
theorem kConv8 {t : Nat} (hx : Is C x (.int k a)) (ht : C.P.underlying t = some (.int .u8)) (hr : Den C r (.int .u8 c)) (hc : a % 256 = c) : aS C (.conv t x) r := kConv hx ht hr (by rw [wrapU8]; exact hc)
theorem kLenE (hx : Is C x (St' l)) (hr : Den C r (.int .i64 c)) (hc : (l.length : Int) = c) : aS C (.len x) r := by subst hc; exact kLen hx hr
theorem oU {i : Nat} (hx : Is C x (St' l)) (hy : Is C y (.int k b)) (hr : Den C r (.int .u8 c)) (hb : b = (i : Int)) (hi : i < l.length) (hc : bt l i = c) : aS C (.idx x y) r := by subst hc; exact kIdx hx hy hr hb hi
theorem gK {i : Nat} {q : Int} (h : l.getD i 0 = u8 q) (h0 : 0 ≤ q) (h1 : q ≤ 255) : bt l i = q := by unfold bt; rw [h]; exact tN h0 h1
theorem lC (h : Is C x (.int .u8 a)) (h0 : 0 ≤ a) (h1 : a ≤ 255) : Is C x (.int .u8 ((u8 a).toNat : Int)) := by rw [tN h0 h1]; exact h
inductive BY (C : Cx) : List AV → List UInt8 → Prop
 | nil : BY C [] []
 | cons {a : AV} {b : UInt8} {vs : List AV} {bs : List UInt8} : Is C a (.int .u8 (b.toNat : Int)) → BY C vs bs → BY C (a :: vs) (b :: bs)
theorem BY.rel {vs : List AV} {bs : List UInt8} (h : BY C vs bs) : ∀ ρ xs, aH C ρ vs xs → xs = bs.map fun b => .int .u8 (b.toNat : Int) := by
 induction h with
 | nil => intro ρ xs hx; simp only [aH] at hx; rw [hx]; rfl
 | cons h1 _ ih =>
  intro ρ xs hx
  simp only [aH] at hx
  obtain ⟨v, vt, rfl, g1, g2⟩ := hx
  rw [h1 ρ v g1, ih ρ vt g2]; rfl
theorem oW {vs : List AV} {bs : List UInt8} (h : BY C vs bs) (hr : Den C r (St' bs)) : aS C (.bytes vs) r := kBytes bs h.rel hr
theorem bnT {b : Bool} (h : b = false) : (!b) = true := by rw [h]; rfl
theorem bnF {b : Bool} (h : b = true) : (!b) = false := by rw [h]; rfl
theorem bw {k : IntKind} {n m : Int} (h : n = m) : Is C (.i k n) (.int k m) := h ▸ isI k n
theorem gJ {k : IntKind} {n m : Int} (h : n = m) : Den C (.i k n) (.int k m) := h ▸ denI k n
theorem aO (len n : Nat) {l : List UInt8} (h : bV len n = l) : Is C (.s len n) (St' l) := h ▸ isS len n
theorem nilT {l : List UInt8} (h : (l.length : Int) = 0) : decide (l = []) = true := decide_eq_true (List.eq_nil_of_length_eq_zero (by omega))
theorem nilF {l : List UInt8} (h : ¬ (l.length : Int) = 0) : decide (l = []) = false := decide_eq_false fun e => h (by rw [e]; rfl)
def okB (o : Option (AV × St)) : Bool := match o with
 | some (.b true, _) => true
 | _ => false
theorem aV7 {o : Option (AV × St)} (h : okB o = true) : ∃ S, o = some (.b true, S) := by
 unfold okB at h
 split at h
 ·exact ⟨_, rfl⟩
 ·cases h
theorem hcons {h : List (HK × AV)} {k : HK} {r : AV} (h1 : aS C k r) (h2 : ∀ k r, (k, r) ∈ h → aS C k r) : ∀ k' r', (k', r') ∈ (k, r) :: h → aS C k' r' := fun k' r' hm => by
 rcases List.mem_cons.1 hm with e | e
 ·injection e with e1 e2; subst e1; subst e2; exact h1
 ·exact h2 k' r' e
theorem hnil : ∀ k r, (k, r) ∈ ([] : List (HK × AV)) → aS C k r := fun k r h => by cases h
end
theorem DA {k : IntKind} {a lo hi : Int} (h : (Lit.int k a).wf = true) (h0 : IntKind.min k = lo) (hM : IntKind.max k = hi) : lo ≤ a ∧ a ≤ hi := by
 have h1 : IntKind.min k ≤ a ∧ a ≤ IntKind.max k := by simpa [Lit.wf] using h
 rw [h0, hM] at h1; exact h1
def aY (l : List Value) (i : Nat) : Value := l.getD i (.bool true)
theorem aT {l : List Value} (h : l.all (fun v => v.oneCell') = true) : ∀ i, (aY l i).oneCell' = true := fun i => by
 unfold aY
 rw [List.getD_eq_getElem?_getD]
 cases hl : l[i]? with
 | none => rfl
 | some v => exact List.all_eq_true.1 h v (List.mem_of_getElem? hl)
end Go.AX
end
section
namespace Go.AX
section
variable {C : Cx} {x y z r : AV} {k : IntKind} {a b c d : Int} {l m n : List UInt8}
theorem dP {i : Nat} (hx : Is C x (St' l)) (hy : Is C y (.int k b)) (hr : Den C r (.int .u8 c)) (hb : b = (i : Int)) (hi : i < l.length) (hc : bt l i = c) : aS C (.cW x y) r := by
 intro ρ vx vi h1 h2
 have e1 := hx ρ vx h1; have e2 := hy ρ vi h2; subst e1; subst e2; subst hb; subst hc
 refine ⟨l, k, i, l[i], rfl, rfl, List.getElem?_eq_getElem hi, ?_⟩
 have e : l.getD i 0 = l[i] := by simp [List.getD_eq_getElem?_getD, List.getElem?_eq_getElem hi]
 have := hr ρ
 unfold bt at this
 rw [e] at this
 exact this
theorem kSet {i : Nat} (hx : Is C x (St' l)) (hy : Is C y (.int k b)) (hz : Is C z (.int .u8 d)) (hr : Den C r (St' n)) (hb : b = (i : Int)) (hi : i < l.length) (h0 : 0 ≤ d) (h1 : d ≤ 255) (hc : l.set i (u8 d) = n) : aS C (.set x y z) r := by
 intro ρ vx vi vy g1 g2 g3
 have e1 := hx ρ vx g1; have e2 := hy ρ vi g2; have e3 := hz ρ vy g3; subst e1; subst e2; subst e3; subst hb; subst hc
 exact ⟨l, k, i, u8 d, rfl, rfl, hi, by rw [tN h0 h1], hr ρ⟩
theorem dZ (hx : Is C x (St' l)) (h : (l.length : Int) ≤ 140737488355328) : aS C (.fit x) r := by
 intro ρ vx g1
 have e1 := hx ρ vx g1; subst e1
 exact ⟨l, rfl, by omega⟩
theorem oS {lo hi : Option AV} {P Q : Int} (hx : Is C x (St' l)) (hlo : (lo = none ∧ P = 0) ∨ ∃ e k, lo = some e ∧ Is C e (.int k P)) (hhi : (hi = none ∧ Q = (l.length : Int)) ∨ ∃ e k, hi = some e ∧ Is C e (.int k Q))
 (h0 : 0 ≤ P) (h1 : P ≤ Q) (h2 : Q ≤ (l.length : Int)) (hr : Den C r (St' ((l.drop P.toNat).take (Q - P).toNat))) : aS C (.sub x lo hi) r := by
 have hp : P = (P.toNat : Int) := by omega
 have hq : Q = (Q.toNat : Int) := by omega
 refine kSub' (p := P.toNat) (q := Q.toNat) hx ?_ ?_ (by omega) (by omega) hr (by congr 1; omega)
 ·rcases hlo with ⟨g1, g2⟩ | ⟨e, k, g1, g2⟩
  ·exact .inl ⟨g1, by omega⟩
  ·exact .inr ⟨e, k, g1, by rw [← hp]; exact g2⟩
 ·rcases hhi with ⟨g1, g2⟩ | ⟨e, k, g1, g2⟩
  ·exact .inl ⟨g1, by omega⟩
  ·exact .inr ⟨e, k, g1, by rw [← hq]; exact g2⟩
end
end Go.AX
end
section
namespace Go.AX
section
variable {C : Cx} {x y r : AV} {l : List UInt8} {a c m n : Int}
end
end Go.AX
end
section
namespace Go.AX
section
variable {C : Cx} {x y r : AV} {l : List UInt8}
end
abbrev i6 (n : Nat) : AV := .i .i64 (.ofNat n)
abbrev u1 (n : Nat) : AV := .i .u8 (.ofNat n)
end Go.AX
end
section
namespace Go.AX
def okA (o : Option (AV × St)) (a : AV) : Bool := match o with
 | some (b, _) => eu 8 b a
 | _ => false
theorem okA_inv {o : Option (AV × St)} {a : AV} (h : okA o a = true) : ∃ S, o = some (a, S) := by
 unfold okA at h
 split at h
 ·rename_i b S
  exact ⟨S, by rw [iH 8 b a h]⟩
 ·cases h
section
variable {C : Cx}
end
end Go.AX
namespace Go.AX
abbrev ln : List UInt8 := [u8 48, u8 49, u8 50, u8 51, u8 52, u8 53, u8 54, u8 55, u8 56, u8 57, u8 97, u8 98, u8 99, u8 100, u8 101, u8 102, u8 103, u8 104, u8 105, u8 106, u8 107, u8 108, u8 109, u8 110, u8 111, u8 112, u8 113, u8 114, u8 115, u8 116, u8 117, u8 118, u8 119, u8 120, u8 121, u8 122]
def dg (x : Int) : Int := if x < 10 then x + 48 else x + 87
theorem mc (x : Int) : (x < 10 ∧ dg x = x + 48) ∨ (10 ≤ x ∧ dg x = x + 87) := by
 unfold dg
 by_cases h : x < 10
 ·rw [if_pos h]; omega
 ·rw [if_neg h]; omega
theorem dg_nat : ∀ n : Nat, n < 36 → bt ln n = dg (n : Int) := by decide
theorem pD {x : Int} (h0 : 0 ≤ x) (h1 : x < 36) : bt ln (Int.toNat x) = dg x := by
 have h := dg_nat x.toNat (by omega)
 rwa [Int.toNat_of_nonneg h0] at h
end Go.AX
namespace Go.AX
end Go.AX
namespace Go.AX
section
variable {C : Cx} {x r : AV}
end
end Go.AX
namespace Go.AX
section
variable {C : Cx} {x y r : AV} {l p q : List UInt8} {k : IntKind} {b c : Int}
end
end Go.AX
namespace Go.AX
section
variable {C : Cx} {x y : AV} {l p q : List UInt8} {k : IntKind} {b : Int}
end
theorem hc {C : Cx} {k : HK} {r : AV} {l : List (HK × AV)} (h : aS C k r) (ht : ∀ k r, (k, r) ∈ l → aS C k r) : ∀ k' r', (k', r') ∈ (k, r) :: l → aS C k' r' := hcons h ht
end Go.AX
end
section
namespace Go.AX
noncomputable section
def bf (tb : Tab) (g : Nat) (fi : FI) (L : List LF) : Tab := { tb with fn := tb.fn.set g { fi with lps := L } }
theorem bM.lps {C : Cx} {tb : Tab} (h : bM C tb) {g : Nat} {fi : FI} {L : List LF} (hg : g ≤ 16777213) (hfi : tb.fn.get g = some fi) (hL : ∀ c, fi.body = some c → bU C L c) (hcf : ∀ l, l ∈ L → iy l = true → iY C g l) : bM C (bf tb g fi L) where
 tab := ⟨⟨h.tab.ty⟩, ⟨h.tab.hyp⟩, h.tab.imp, h.tab.ngl⟩
 met := h.met
 mix := h.mix
 fn := fun g' fi' h' => by
  have h'' : (tb.fn.set g { fi with lps := L }).get g' = some fi' := h'
  rw [cm _ _ _ _ hg] at h''
  split at h''
  ·rename_i e; subst e
   injection h'' with h''; subst h''
   obtain ⟨fn, hfn⟩ := h.fn _ _ hfi
   exact ⟨fn, hfn.at_, hfn.name, hfn.body, hfn.nt, hfn.res, hfn.reg, hfn.sum, hL, hcf, hfn.ext⟩
  ·obtain ⟨fn, hfn⟩ := h.fn _ _ h''
   exact ⟨fn, hfn.at_, hfn.name, hfn.body, hfn.nt, hfn.res, hfn.reg, hfn.sum, hfn.lps, hfn.cfs, hfn.ext⟩
def ct : Code → List Code
 | .seq a b => ct a ++ ct b
 | .cond _ a b => ct a ++ ct b
 | .block _ b => ct b
 | .loop b => b :: ct b
 | _ => []
def fF : Code → List (List Nat × Code × Code)
 | .rangeFunc _ ps a b => [(ps.toList, a, b)]
 | .seq a b => fF a ++ fF b
 | .cond _ a b => fF a ++ fF b
 | .block _ b => fF b
 | .loop b => fF b
 | _ => []
theorem l3 : ∀ c : Code, fy c = (fF c)[0]?
 | .seq a b => by
  unfold fy fF
  rw [l3 a, l3 b]
  cases h : fF a <;> simp
 | .cond _ a b => by
  unfold fy fF
  rw [l3 a, l3 b]
  cases h : fF a <;> simp
 | .block _ b => by unfold fy fF; exact l3 b
 | .loop b => by unfold fy fF; exact l3 b
 | .rangeFunc .. => rfl
 | .skip => rfl
 | .region .. => rfl
 | .exit _ => rfl
 | .scope _ => rfl
 | .label _ => rfl
 | .goto _ => rfl
 | .ret => rfl
 | .refuse _ => rfl
theorem mE {C : Cx} {L : List LF} : ∀ c : Code, (∀ b, b ∈ ct c → ∀ l, l ∈ L → keyOf b = some l.key → dz C b l) → (∀ r, r ∈ fF c → ∀ l, l ∈ L → lB l = true → rfP C.P l.nt = some r) → bU C L c
 | .seq a b, h, g => ⟨mE a (fun x hx => h x (List.mem_append_left _ hx)) fun x hx => g x (List.mem_append_left _ hx), mE b (fun x hx => h x (List.mem_append_right _ hx)) fun x hx => g x (List.mem_append_right _ hx)⟩
 | .cond _ a b, h, g => ⟨mE a (fun x hx => h x (List.mem_append_left _ hx)) fun x hx => g x (List.mem_append_left _ hx), mE b (fun x hx => h x (List.mem_append_right _ hx)) fun x hx => g x (List.mem_append_right _ hx)⟩
 | .block _ b, h, g => mE b h g
 | .loop b, h, g => ⟨fun l hl hk => h b (List.mem_cons_self ..) l hl hk, mE b (fun x hx => h x (List.mem_cons_of_mem _ hx)) g⟩
 | .skip, _, _ => trivial
 | .region .., _, _ => trivial
 | .rangeFunc .., _, g => fun l hl hm => g _ (List.mem_singleton.2 rfl) l hl hm
 | .exit _, _, _ => trivial
 | .scope _, _, _ => trivial
 | .label _, _, _ => trivial
 | .goto _, _, _ => trivial
 | .ret, _, _ => trivial
 | .refuse _, _, _ => trivial
end
end Go.AX
end
section
namespace Go.AX
noncomputable section
def ay (l : List Value) (X : Nat → Value) (i : Nat) : Value := cond (Nat.blt i 1000000) (aY l i) (X (i - 1000000))
theorem az {l : List Value} {X : Nat → Value} (h : ∀ j, (aY l j).oneCell' = true) : ∀ i, i < 1000000 → (ay l X i).oneCell' = true := fun i hi => by
 have : Nat.blt i 1000000 = true := by simpa [Nat.blt_eq] using hi
 unfold ay; rw [this]; exact h i
theorem fX {l : List Value} {X : Nat → Value} {t : Nat} : ay l X (1000000 + t) = X t := by
 have h : Nat.blt (1000000 + t) 1000000 = false := by
  rw [Bool.eq_false_iff]; intro h; rw [Nat.blt_eq] at h; omega
 unfold ay; rw [h, cond_false, Nat.add_sub_cancel_left]
def eK : Ex → Ex → Bool
 | .normal, .normal => true
 | .exit a, .exit b => Nat.beq a b
 | .goto a, .goto b => Nat.beq a b
 | .ret, .ret => true
 | _, _ => false
theorem Ev {a b : Ex} (h : eK a b = true) : a = b := by
 cases a <;> cases b <;> simp only [eK] at h <;> first | rfl | (cases h; done) | skip
 ·rw [Nat.eq_of_beq_eq_true h]
 ·rw [Nat.eq_of_beq_eq_true h]
def tj (o : Option ((Ex × Env) × St)) (ex : Ex) (q : List (Nat × AV)) (keep : List Nat) (nt : Nat) : Bool := match o with
 | some (p, _) => eK p.1 ex && jb p.2 keep && Nat.beq p.2.nt nt && pc p.2 q
 | none => false
theorem aL7 {o : Option ((Ex × Env) × St)} {ex : Ex} {q : List (Nat × AV)} {keep : List Nat} {nt : Nat} (h : tj o ex q keep nt = true) : ∃ E S, o = some ((ex, E), S) ∧ jb E keep = true ∧ E.nt = nt ∧ pc E q = true := by
 cases o with
 | none => cases h
 | some p =>
  obtain ⟨⟨e, E⟩, S⟩ := p
  simp only [tj, Bool.and_eq_true] at h
  obtain ⟨⟨⟨h1, h2⟩, h3⟩, h4⟩ := h
  exact ⟨E, S, by rw [Ev h1], h2, Nat.eq_of_beq_eq_true h3, h4⟩
section
variable {C : Cx} {body : Code} {l : LF} {ep : List (Nat × AV)} {α : Type} {I : α → Prop} {μ : α → Nat} {D : α → (Nat → Value) → Cx} {x : α} {X : Nat → Value}
theorem Round.next {tb : Tab} {L : List LF} {f : Nat} {q : List (Nat × AV)} (y : α) (hall : bM (D x X) tb) (hlp : bU (D x X) L body) (hrun : tj (code tb f L body (cN (cV ep l.keep) l.nt) ⟨.leaf, tb.ng, 0, 0⟩) .normal q l.keep l.nt = true)
 (hy : I y) (hlt : μ y < μ x) (hm : ∀ s a, (s, a) ∈ ep → ∃ b, (s, b) ∈ q ∧ ∀ v, Rel (D x X) (fun _ => none) b v → Rel (D y X) (fun _ => none) a v) : Round C body l ep I μ D x X := by
 obtain ⟨E, S, h1, h2, h3, h4⟩ := aL7 hrun
 exact ⟨tb, L, f, .normal, E, S, hall, hlp, h1, h2, h3, .inl ⟨rfl, y, q, hy, hlt, h4, hm⟩⟩
theorem Round.leave {tb : Tab} {L : List LF} {f : Nat} {q : List (Nat × AV)} (hall : bM (D x X) tb) (hlp : bU (D x X) L body) (hrun : tj (code tb f L body (cN (cV ep l.keep) l.nt) ⟨.leaf, tb.ng, 0, 0⟩) l.ex q l.keep l.nt = true)
 (hne : l.ex ≠ .normal) (hm : ∀ s a, (s, a) ∈ l.post → ∃ b, (s, b) ∈ q ∧ ∀ v, Rel (D x X) (fun _ => none) b v → Rel C (fun _ => none) a v) : Round C body l ep I μ D x X := by
 obtain ⟨E, S, h1, h2, h3, h4⟩ := aL7 hrun
 exact ⟨tb, L, f, l.ex, E, S, hall, hlp, h1, h2, h3, .inr ⟨hne, rfl, q, h4, hm⟩⟩
end
def fH : List Code → Nat → Nat → Nat → Bool
 | [], _, _, _ => true
 | b :: r, k, j, i => (match keyOf b with | some k' => cond (Nat.beq k' k) (Nat.beq i j) true | none => true) && fH r k j (Nat.succ i)
theorem aC4 {k j : Nat} : ∀ (l : List Code) (i : Nat), fH l k j i = true → ∀ b, b ∈ l → keyOf b = some k → i ≤ j ∧ l[j - i]? = some b
 | [], _, _, b, hb, _ => by cases hb
 | c :: r, i, h, b, hb, hk => by
  simp only [fH, Bool.and_eq_true] at h
  rcases List.mem_cons.1 hb with e | hb
  ·subst e
   have h1 := h.1
   rw [hk] at h1
   simp only [Nat.beq_refl, cond_true] at h1
   have := Nat.eq_of_beq_eq_true h1
   subst this
   exact ⟨Nat.le_refl _, by simp⟩
  ·obtain ⟨h1, h2⟩ := aC4 r (i + 1) h.2 b hb hk
   refine ⟨by omega, ?_⟩
   rw [show j - i = (j - (i + 1)) + 1 by omega]
   simpa using h2
def fa (c : Code) (j : Nat) : Code := ((ct c)[j]?).getD .skip
def BB (C : Cx) (c : Code) (l : LF) : Prop := ((lB l || iy l) = false ∧ ∃ j, fH (ct c) l.key j 0 = true ∧ dz C (fa c j) l) ∨ (iy l = false ∧ (ct c).all (fun b => !(iM (keyOf b) l.key)) = true ∧ Nat.beq (fF c).length 1 = true ∧ ∃ fn, C.P.funcs[l.nt]? = some fn ∧ fn.body = some c)
def aP6 (C : Cx) (g : Nat) (c : Code) (l : LF) : Prop := BB C c l ∨ ((lB l = false ∧ iy l = true) ∧ (ct c).all (fun b => !(iM (keyOf b) l.key)) = true ∧ iY C g l)
theorem aM9 {C : Cx} {g : Nat} {c : Code} {L : List LF} (h : ∀ l, l ∈ L → aP6 C g c l) : bU C L c :=
 mE c (fun b hb l hl hk => by
  rcases h l hl with (⟨_, j, h1, h2⟩ | ⟨_, h1, _⟩) | ⟨_, h1, _⟩
  rotate_left
  ·rw [List.all_eq_true] at h1
   have := h1 b hb
   rw [hk] at this
   have e : iM (some l.key) l.key = true := Nat.beq_refl _
   rw [e] at this
   cases this
  ·rw [List.all_eq_true] at h1
   have := h1 b hb
   rw [hk] at this
   have e : iM (some l.key) l.key = true := Nat.beq_refl _
   rw [e] at this
   cases this
  obtain ⟨_, h3⟩ := aC4 _ _ h1 b hb hk
  simp only [Nat.sub_zero] at h3
  have : fa c j = b := by unfold fa; rw [h3]; rfl
  rw [this] at h2; exact h2) fun r hr l hl hm => by
  rcases h l hl with (⟨h1, _⟩ | ⟨_, _, h3, fn, h4, h5⟩) | ⟨h1, _⟩
  rotate_right
  ·rw [hm] at h1; cases h1.1
  ·rw [hm] at h1; cases h1
  ·unfold rfP
   rw [h4]
   simp only [h5]
   rw [l3]
   have hn := Nat.eq_of_beq_eq_true h3
   obtain ⟨x, hx⟩ := List.length_eq_one_iff.1 hn
   rw [hx] at hr ⊢
   rw [List.mem_singleton.1 hr]; rfl
theorem qU {C : Cx} {c : Code} {L : List LF} (h : ∀ l, l ∈ L → BB C c l) : bU C L c := aM9 (g := 0) fun l hl => .inl (h l hl)
theorem dm {C : Cx} {c : Code} {l : LF} (hm : (lB l || iy l) = false) (h : ∃ j, fH (ct c) l.key j 0 = true ∧ dz C (fa c j) l) : BB C c l := .inl ⟨hm, h⟩
theorem bj {P : LF → Prop} : ∀ l, l ∈ ([] : List LF) → P l := fun l h => by cases h
theorem bq {P : LF → Prop} {a : LF} {r : List LF} (h : P a) (ht : ∀ l, l ∈ r → P l) : ∀ l, l ∈ a :: r → P l := fun l hl => by
 rcases List.mem_cons.1 hl with e | hl
 ·subst e; exact h
 ·exact ht l hl
theorem bM.dn {C : Cx} {tb : Tab} (h : bM C tb) {g : Nat} {fi : FI} {L : List LF} {c : Code} (hg : g ≤ 16777213) (hfi : tb.fn.get g = some fi) (hc : fi.body = some c) (hL : ∀ l, l ∈ L → BB C c l) : bM C (bf tb g fi L) :=
 h.lps hg hfi (fun c' hc' => by rw [hc] at hc'; injection hc' with hc'; subst hc'; exact qU hL) fun l hl hcf => by
  rcases hL l hl with ⟨h1, _⟩ | ⟨h1, _⟩
  ·rw [hcf, Bool.or_true] at h1; cases h1
  ·rw [hcf] at h1; cases h1
theorem bM.lp2 {C : Cx} {tb : Tab} (h : bM C tb) {g : Nat} {fi : FI} {L : List LF} {c : Code} (hg : g ≤ 16777213) (hfi : tb.fn.get g = some fi) (hc : fi.body = some c) (hL : ∀ l, l ∈ L → aP6 C g c l) : bM C (bf tb g fi L) :=
 h.lps hg hfi (fun c' hc' => by rw [hc] at hc'; injection hc' with hc'; subst hc'; exact aM9 hL) fun l hl hcf => by
  rcases hL l hl with (⟨h1, _⟩ | ⟨h1, _⟩) | ⟨_, _, h1⟩
  ·rw [hcf, Bool.or_true] at h1; cases h1
  ·rw [hcf] at h1; cases h1
  ·exact h1
theorem fh {tb : Tab} {g : Nat} {fi : FI} {L : List LF} (hg : g ≤ 16777213) : (bf tb g fi L).fn.get g = some { fi with lps := L } := by
 show (tb.fn.set g { fi with lps := L }).get g = _
 rw [cm _ _ _ _ hg, if_pos rfl]
theorem cG {tb : Tab} {g f : Nat} {fi fj : FI} {L : List LF} (hg : g ≤ 16777213) (hne : f ≠ g) (h : tb.fn.get f = some fj) : (bf tb g fi L).fn.get f = some fj := by
 show (tb.fn.set g { fi with lps := L }).get f = _
 rw [cm _ _ _ _ hg, if_neg hne]; exact h
end
end Go.AX
end
section
namespace Go.AX
noncomputable section
/- what a run leaves, seen as a pattern: blocks renamed, symbols told -/
def tU : List (Nat × Nat) → Nat → Nat
 | [], v => v
 | p :: r, v => cond (Nat.beq p.1 v) p.2 (tU r v)
def kS : List (Nat × AV) → Nat → Option AV
 | [], _ => none
 | p :: r, i => cond (Nat.beq p.1 i) (some p.2) (kS r i)
def cd (n0 nh : Nat) (sg : List (Nat × Nat)) (v w : Nat) : Bool := cond (Nat.blt v n0) (Nat.beq v w) (Nat.blt v nh && Nat.beq (tU sg v) w)
def gC (n0 : Nat) (sg : List (Nat × Nat)) (v : Nat) : Nat := cond (Nat.blt v n0) v (tU sg v)
def inA (th : List (Nat × AV)) (q : Nat → Nat → Bool) : Nat → AV → AV → Bool
 | 0, _, _ => false
 | d + 1, a, b => match a, b with
  | .und, _ => true
  | .x i, b => (match kS th i with | some c => eu 8 c b && gd 8 b | none => false)
  | .p v o, .p w u => q v w && Nat.beq o u
  | .sl v o n c r, .sl w u m e s => q v w && Nat.beq o u && Nat.beq n m && Nat.beq c e && (r == s)
  | .sy v, .sy w => q v w
  | .mp v, .mp w => q v w
  | .yl v, .yl w => q v w
  | .sr v, .sr w => q v w
  | .pr v i z o, .pr w j t u => q v w && (inA th q d i j && (Nat.beq z t && Nat.beq o u))
  | .fn f a c, .fn g b e => Nat.beq f g && cz (inA th q d) a b && cz (inA th q d) c e
  | .ag l, .ag m => cz (inA th q d) l m
  | .tu l, .tu m => cz (inA th q d) l m
  | .cU t x, .cU u y => Nat.beq t u && inA th q d x y
  | .bO, .bO => true
  | .ni, .ni => true
  | .bg, .bg => true
  | .eR, .eR => true
  | .ik, .ik => true
  | .es, .es => true
  | .es, .bO => true
  | .h a, .h b => Nat.beq a b
  | .i k n, .i l m => kEq k l && ieq n m
  | .b x, .b y => x == y
  | .s k n, .s l m => Nat.beq k l && Nat.beq n m
  | _, _ => false
def inCe (th : List (Nat × AV)) (q : Nat → Nat → Bool) : Cells → Cells → Bool
 | .y k n, .y l m => Nat.beq k l && Nat.beq n m
 | .l a, c => cz (inA th q 8) a c.toL
 | _, _ => false
def xU (th : List (Nat × AV)) (q : Nat → Nat → Bool) (b : T AV) : List (Nat × AV) → Bool
 | [] => true
 | p :: r => (Nat.ble p.1 16777213 && (match b.get p.1 with | some y => inA th q 8 p.2 y | none => false)) && xU th q b r
theorem DB {th : List (Nat × AV)} {q : Nat → Nat → Bool} {b : T AV} : ∀ {l : List (Nat × AV)}, xU th q b l = true → ∀ s x, (s, x) ∈ l → s ≤ 16777213 ∧ ∃ y, b.get s = some y ∧ inA th q 8 x y = true
 | [], _, s, x, h => by cases h
 | p :: r, h, s, x, hm => by
  simp only [xU, Bool.and_eq_true] at h
  rcases List.mem_cons.1 hm with e | hm
  ·subst e
   obtain ⟨⟨h1, h2⟩, _⟩ := h
   simp only [] at h1 h2
   refine ⟨Nat.le_of_ble_eq_true h1, ?_⟩
   cases hg : b.get s with
   | none => rw [hg] at h2; cases h2
   | some y => rw [hg] at h2; exact ⟨y, rfl, h2⟩
  ·exact DB h.2 s x hm
def je (th : List (Nat × AV)) (q : Nat → Nat → Bool) : aZ → aZ → Bool
 | .b k, .b j => Nat.beq k.e j.e && inCe th q k.c j.c && Nat.beq k.m j.m && Nat.beq k.es j.es && Nat.beq k.fr j.fr && (k.st == j.st) && (k.g == j.g)
 | .t i e, .t j f => Nat.beq e f && (match kS th i with | some c => eu 8 c (.x j) | none => false)
 | .r i e s o, .r j f t u => Nat.beq e f && (Nat.beq s t && ((o == u) && (match kS th i with | some c => eu 8 c (.x j) | none => false)))
 | .k g a n s x, .k h b m t y => Nat.beq g h && (xU th q (iL b .leaf) a && (Nat.beq n m && (Nat.beq s t && eqX x y)))
 | _, _ => false
def ij : aZ → Bool
 | .b k => !k.st || k.g
 | .r _ _ _ o => !o
 | _ => true
def iO (th : List (Nat × AV)) (q : Nat → Nat → Bool) (E : Env) : List (Nat × AV) → Bool
 | [] => true
 | p :: r => (match E.tm.get p.1 with | some b => inA th q 8 p.2 b | none => false) && iO th q E r
def ck (n0 nh : Nat) (th : List (Nat × AV)) (sg : List (Nat × Nat)) (H : T aZ) : List (Nat × aZ) → Bool
 | [] => true
 | p :: r => (match H.get (gC n0 sg p.1) with | some j => je th (cd n0 nh sg) p.2 j | none => false) && cond (Nat.blt p.1 n0) true (Nat.blt p.1 nh && ij p.2) && Nat.ble p.1 16777213 && ck n0 nh th sg H r
def cj : List Nat → Bool
 | [] => true
 | a :: r => !(r.any fun b => Nat.beq a b) && cj r
def numsOf (n0 : Nat) (sg : List (Nat × Nat)) (l : List (Nat × aZ)) : List Nat := l.map fun p => gC n0 sg p.1
theorem xV {th : List (Nat × AV)} {q : Nat → Nat → Bool} {k j : aZ} (h : je th q k j = true) : dE k = dE j := by
 cases k <;> cases j <;> simp only [je] at h <;> first | rfl | (cases h; done) | skip
 simp only [Bool.and_eq_true, beq_iff_eq] at h
 exact h.2.2.1
def ren (ρ ρ2 : ak) (n0 nh : Nat) (sg : List (Nat × Nat)) : ak := fun v => if n0 ≤ v ∧ v < nh then ρ2 (tU sg v) else ρ v
section
variable {C1 C2 : Cx} {th : List (Nat × AV)} {q : Nat → Nat → Bool} {ρ1 ρ2 : ak}
def bN (C1 C2 : Cx) (th : List (Nat × AV)) : Prop := ∀ i c, kS th i = some c → Is C1 c (C2.nu i)
theorem xW (hP : C1.P = C2.P) (hth : bN C1 C2 th) (hq : ∀ v w r, q v w = true → ρ1 w = some r → ρ2 v = some r) : ∀ (d : Nat) (a b : AV), inA th q d a b = true → ∀ v, Rel C1 ρ1 b v → Rel C2 ρ2 a v
 | 0, a, b, h, v, hr => by cases h
 | d + 1, a, b, h, v, hr => by
  have ih := xW hP hth hq d
  have ihL : ∀ (l m : List AV), cz (inA th q d) l m = true → ∀ vs, aH C1 ρ1 m vs → aH C2 ρ2 l vs := by
   intro l
   induction l with
   | nil => intro m hm vs hv; cases m with
    | nil => simpa only [aH] using hv
    | cons => cases hm
   | cons x l ihl => intro m hm vs hv; cases m with
    | nil => cases hm
    | cons y m =>
     simp only [cz, Bool.and_eq_true] at hm
     simp only [aH] at hv ⊢
     obtain ⟨u, us, e, h1, h2⟩ := hv
     exact ⟨u, us, e, ih _ _ hm.1 u h1, ihl m hm.2 us h2⟩
  unfold inA at h
  split at h
  ·simp only [Rel]
  ·split at h
   ·rename_i i b c hc
    simp only [Bool.and_eq_true] at h
    have e := iH 8 _ _ h.1
    subst e
    simp only [Rel]
    exact hth _ _ hc ρ1 v hr
   ·cases h
  ·simp only [Bool.and_eq_true] at h
   simp only [Rel] at hr ⊢
   obtain ⟨r, h1, h2⟩ := hr
   exact ⟨r, hq _ _ _ h.1 h1, by rw [h2, Nat.eq_of_beq_eq_true h.2]⟩
  ·rename_i v0 o n c r w u m e s
   simp only [Bool.and_eq_true, beq_iff_eq] at h
   obtain ⟨⟨⟨⟨g1, g2⟩, g3⟩, g4⟩, g5⟩ := h
   have e2 := Nat.eq_of_beq_eq_true g2; have e3 := Nat.eq_of_beq_eq_true g3; have e4 := Nat.eq_of_beq_eq_true g4
   subst e2; subst e3; subst e4; subst g5
   cases r with
   | false =>
    simp only [Rel] at hr ⊢
    obtain ⟨r, h1, h2⟩ := hr
    exact ⟨r, hq _ _ _ g1 h1, h2⟩
   | true =>
    simp only [Rel] at hr ⊢
    obtain ⟨r, a, h1, h2⟩ := hr
    exact ⟨r, a, hq _ _ _ g1 h1, h2⟩
  ·simp only [Rel] at hr ⊢
   obtain ⟨r, h1, h2⟩ := hr
   exact ⟨r, hq _ _ _ h h1, h2⟩
  ·simp only [Rel] at hr ⊢
   obtain ⟨r, h1, h2⟩ := hr
   exact ⟨r, hq _ _ _ h h1, h2⟩
  ·simp only [Rel] at hr ⊢
   obtain ⟨r, h1, h2⟩ := hr
   exact ⟨r, hq _ _ _ h h1, h2⟩
  ·simp only [Rel] at hr ⊢
   obtain ⟨r, h1, h2⟩ := hr
   exact ⟨r, hq _ _ _ h h1, h2⟩
  ·simp only [Bool.and_eq_true] at h
   obtain ⟨g1, g2, g3, g4⟩ := h
   have e3 := Nat.eq_of_beq_eq_true g3; have e4 := Nat.eq_of_beq_eq_true g4
   subst e3; subst e4
   simp only [Rel] at hr ⊢
   obtain ⟨r, kk, jj, h1, h2, h3⟩ := hr
   exact ⟨r, kk, jj, hq _ _ _ g1 h1, ih _ _ g2 _ h2, h3⟩
  ·simp only [Bool.and_eq_true] at h
   have e := Nat.eq_of_beq_eq_true h.1.1
   subst e
   simp only [Rel] at hr ⊢
   obtain ⟨as, cs, e, h1, h2⟩ := hr
   exact ⟨as, cs, e, ihL _ _ h.1.2 _ h1, ihL _ _ h.2 _ h2⟩
  ·simp only [Rel] at hr ⊢
   obtain ⟨cs, e, h1⟩ := hr
   exact ⟨cs, e, ihL _ _ h _ h1⟩
  ·simp only [Rel] at hr ⊢
   obtain ⟨cs, e, h1⟩ := hr
   exact ⟨cs, e, ihL _ _ h _ h1⟩
  ·simp only [Bool.and_eq_true] at h
   have e := Nat.eq_of_beq_eq_true h.1
   subst e
   simp only [Rel] at hr ⊢
   obtain ⟨x, e, h1⟩ := hr
   exact ⟨x, e, ih _ _ h.2 _ h1⟩
  ·simpa only [Rel] using hr
  ·simpa only [Rel] using hr
  ·simpa only [Rel] using hr
  ·simpa only [Rel] using hr
  ·simpa only [Rel] using hr
  ·simpa only [Rel] using hr
  ·simp only [Rel] at hr ⊢; exact ⟨none, 0, hr⟩
  ·have e := Nat.eq_of_beq_eq_true h
   subst e
   simp only [Rel] at hr ⊢
   rw [← hP]; exact hr
  ·simp only [Bool.and_eq_true, lD, decide_eq_true_eq] at h
   simp only [Rel] at hr ⊢
   rw [hr, C6 h.1, h.2]
  ·simp only [beq_iff_eq] at h
   subst h
   simpa only [Rel] using hr
  ·simp only [Bool.and_eq_true] at h
   have e1 := Nat.eq_of_beq_eq_true h.1; have e2 := Nat.eq_of_beq_eq_true h.2
   subst e1; subst e2
   simpa only [Rel] using hr
  ·cases h
theorem aP2 {s : AV → AV → Bool} : ∀ {l m : List AV}, cz s l m = true → ∀ (j : Nat) a, l[j]? = some a → ∃ b, m[j]? = some b ∧ s a b = true
 | [], [], _, j, a, h => by simp at h
 | [], _ :: _, h, _, _, _ => by cases h
 | _ :: _, [], h, _, _, _ => by cases h
 | x :: l, y :: m, h, j, a, ha => by
  simp only [cz, Bool.and_eq_true] at h
  cases j with
  | zero => simp at ha; subst ha; exact ⟨y, by simp, h.1⟩
  | succ j => simp at ha; obtain ⟨b, h1, h2⟩ := aP2 h.2 j a ha; exact ⟨b, by simpa using h1, h2⟩
theorem aP1 {s : AV → AV → Bool} : ∀ {l m : List AV}, cz s l m = true → l.length = m.length
 | [], [], _ => rfl
 | [], _ :: _, h => by cases h
 | _ :: _, [], h => by cases h
 | x :: l, y :: m, h => by
  simp only [cz, Bool.and_eq_true] at h
  simp [aP1 h.2]
theorem inCe_ok (hP : C1.P = C2.P) (hth : bN C1 C2 th) (hq : ∀ v w r, q v w = true → ρ1 w = some r → ρ2 v = some r) {c d : Cells} (h : inCe th q c d = true) {arr : Array Value} {base : Nat} (hc : nD C1 ρ1 d arr base) : nD C2 ρ2 c arr base ∧ c.len = d.len := by
 cases c with
 | y k n =>
  cases d with
  | l => cases h
  | y l m =>
   simp only [inCe, Bool.and_eq_true] at h
   have e1 := Nat.eq_of_beq_eq_true h.1; have e2 := Nat.eq_of_beq_eq_true h.2
   subst e1; subst e2
   refine ⟨⟨hc.1, fun j a hj => ?_⟩, rfl⟩
   obtain ⟨x, h1, h2, h3⟩ := hc.2 j a hj
   refine ⟨x, h1, ?_, h3⟩
   have hj : (cv k n)[j]? = some a := hj
   unfold cv at hj
   rw [List.getElem?_map] at hj
   cases hr : (List.range k)[j]? with
   | none => rw [hr] at hj; cases hj
   | some z => rw [hr] at hj; simp only [Option.map_some, Option.some.injEq] at hj; subst hj; simpa only [Rel] using h2
 | l a =>
  have h : cz (inA th q 8) a d.toL = true := by cases d <;> exact h
  refine ⟨⟨trivial, fun j x hj => ?_⟩, by rw [Cells.len_eq, Cells.len_eq]; exact aP1 h⟩
  have hj : a[j]? = some x := hj
  obtain ⟨b, hb, hs⟩ := aP2 h j x hj
  obtain ⟨v, h1, h2, h3⟩ := hc.2 j b hb
  exact ⟨v, h1, xW hP hth hq 8 _ _ hs v h2, h3⟩
theorem inE_ok (hP : C1.P = C2.P) (hth : bN C1 C2 th) (hq : ∀ v w r, q v w = true → ρ1 w = some r → ρ2 v = some r) {B1 B2 : Fz} {k j : aZ} (h : je th q k j = true) {r : R} {o : Obj} (hB : dE k = false → B2 r.blk → B1 r.blk) (ho : ei C1 ρ1 B1 j r o) : ei C2 ρ2 B2 k r o := by
 cases k with
 | b k =>
  cases j with
  | b j =>
   cases o with
   | cells arr t fz =>
    simp only [je, Bool.and_eq_true, beq_iff_eq] at h
    obtain ⟨⟨⟨⟨⟨⟨h1, h2⟩, h3⟩, h4⟩, h5⟩, h6⟩, h7⟩ := h
    have e1 := Nat.eq_of_beq_eq_true h1; have e3 := Nat.eq_of_beq_eq_true h3; have e4 := Nat.eq_of_beq_eq_true h4; have e5 := Nat.eq_of_beq_eq_true h5
    obtain ⟨t1, hb⟩ := ho
    obtain ⟨c1, c2⟩ := inCe_ok hP hth hq h2 hb.cells
    refine ⟨by rw [e1]; exact t1, c1, fun hg => ?_, fun x => by rw [e5]; exact hb.cold x, fun hs => by rw [e5]; exact hb.plain (by rw [← h6]; exact hs), fun hb2 => ?_, by rw [c2]; exact hb.room, fun hg => hb.base0 (by rw [← h7]; exact hg)⟩
    ·have := hb.grown (by rw [← h7]; exact hg)
     rw [e3, c2, e4]; exact this
    ·have := hb.old (hB rfl hb2)
     rw [c2, e5, h6, h7]; exact this
   | _ => exact ho.elim
  | _ => cases h
 | t i e =>
  cases j with
  | t j f =>
   cases o with
   | cells arr t fz =>
    simp only [je, Bool.and_eq_true] at h
    obtain ⟨h1, h2⟩ := h
    have e1 := Nat.eq_of_beq_eq_true h1
    subst e1
    obtain ⟨t1, hb⟩ := ho
    cases hc : kS th i with
    | none => rw [hc] at h2; cases h2
    | some c =>
     rw [hc] at h2
     have e2 := iH 8 _ _ h2
     subst e2
     have hv : C1.nu j = C2.nu i := hth _ _ hc ρ1 _ (by simp only [Rel])
     refine ⟨t1, fun hb2 => hb.own (hB rfl hb2), hb.base, ?_, hb.cap, hb.room, hb.free⟩
     rw [← hv]; exact hb.str
   | _ => exact ho.elim
  | _ => cases h
 | r i e z ro =>
  cases j with
  | r j f t u =>
   cases o with
   | cells arr ty fz =>
    simp only [je, Bool.and_eq_true, beq_iff_eq] at h
    obtain ⟨h1, h3, h4, h2⟩ := h
    have e1 := Nat.eq_of_beq_eq_true h1
    have e3 := Nat.eq_of_beq_eq_true h3
    subst e1; subst e3; subst h4
    obtain ⟨t1, hb⟩ := ho
    cases hc : kS th i with
    | none => rw [hc] at h2; cases h2
    | some c =>
     rw [hc] at h2
     have e2 := iH 8 _ _ h2
     subst e2
     have hv : C1.nu j = C2.nu i := hth _ _ hc ρ1 _ (by simp only [Rel])
     refine ⟨t1, fun hro => ?_, ?_, hb.cap, hb.pos⟩
     ·obtain ⟨q1, q2⟩ := hb.own hro
      exact ⟨fun hb2 => q1 (hB hro hb2), q2⟩
     ·rw [← hv]; exact hb.row
   | _ => exact ho.elim
  | _ => cases h
 | k g a n s x =>
  cases j with
  | k g2 b n2 s2 x2 =>
   cases o with
   | loop L =>
    simp only [je, Bool.and_eq_true] at h
    obtain ⟨h1, h2, h3, h4, h5⟩ := h
    have e1 := Nat.eq_of_beq_eq_true h1; have e3 := Nat.eq_of_beq_eq_true h3; have e4 := Nat.eq_of_beq_eq_true h4; have e5 := eqX_eq h5
    subst e1; subst e3; subst e4; subst e5
    obtain ⟨t1, hb⟩ := ho
    refine ⟨hP ▸ t1, ⟨fun hb2 => hb.own (hB rfl hb2), rfl, rfl, rfl, hb.okA, hb.okB, hb.size, hb.nt, fun t y ht => ?_, hb.st, hb.pend⟩⟩
    rcases kg _ _ (fun p hp => (DB h2 p.1 p.2 hp).1) t y ht with hm | hm
    ·obtain ⟨_, z, hz, hi⟩ := DB h2 t y hm
     exact xW hP hth hq 8 y z hi _ (hb.tm t z hz)
    ·simp [T.cy] at hm
   | _ => exact ho.elim
  | _ => cases h
 | _ => cases j <;> cases h
end
theorem qj {th : List (Nat × AV)} {q : Nat → Nat → Bool} {E : Env} : ∀ {l : List (Nat × AV)}, iO th q E l = true → ∀ s a, (s, a) ∈ l → ∃ b, E.tm.get s = some b ∧ inA th q 8 a b = true
 | [], _, s, a, h => by cases h
 | p :: r, h, s, a, hm => by
  simp only [iO, Bool.and_eq_true] at h
  rcases List.mem_cons.1 hm with e | hm
  ·subst e
   have h1 := h.1
   simp only [] at h1
   cases hg : E.tm.get s with
   | none => rw [hg] at h1; cases h1
   | some b => rw [hg] at h1; exact ⟨b, rfl, h1⟩
  ·exact qj h.2 s a hm
structure HeapAt (n0 nh : Nat) (th : List (Nat × AV)) (sg : List (Nat × Nat)) (H : T aZ) (v : Nat) (k : aZ) : Prop where
 at_ : ∃ j, H.get (gC n0 sg v) = some j ∧ je th (cd n0 nh sg) k j = true
 move : n0 ≤ v → v < nh ∧ ij k = true
 top : v ≤ 16777213
theorem iz {n0 nh : Nat} {th : List (Nat × AV)} {sg : List (Nat × Nat)} {H : T aZ} : ∀ {l : List (Nat × aZ)}, ck n0 nh th sg H l = true → ∀ v k, (v, k) ∈ l → HeapAt n0 nh th sg H v k
 | [], _, v, k, h => by cases h
 | p :: r, h, v, k, hm => by
  simp only [ck, Bool.and_eq_true] at h
  rcases List.mem_cons.1 hm with e | hm
  ·subst e
   obtain ⟨⟨⟨h1, h2⟩, h3⟩, h4⟩ := h
   simp only [] at h1 h2 h3
   refine ⟨?_, fun hge => ?_, Nat.le_of_ble_eq_true h3⟩
   ·cases hg : H.get (gC n0 sg v) with
    | none => rw [hg] at h1; cases h1
    | some b => rw [hg] at h1; exact ⟨b, rfl, h1⟩
   ·have : Nat.blt v n0 = false := by rw [Bool.eq_false_iff]; intro hh; rw [Nat.blt_eq] at hh; omega
    rw [this] at h2
    simp only [cond_false, Bool.and_eq_true, Nat.blt_eq] at h2
    exact h2
  ·exact iz h.2 v k hm
theorem aG2 {n0 : Nat} {sg : List (Nat × Nat)} : ∀ {l : List (Nat × aZ)}, cj (numsOf n0 sg l) = true → ∀ v k u j, (v, k) ∈ l → (u, j) ∈ l → gC n0 sg v = gC n0 sg u → v = u
 | [], _, v, k, u, j, h, _, _ => by cases h
 | p :: r, h, v, k, u, j, hv, hu, e => by
  have h : (!((numsOf n0 sg r).any fun b => Nat.beq (gC n0 sg p.1) b) && cj (numsOf n0 sg r)) = true := h
  simp only [Bool.and_eq_true, Bool.not_eq_true', List.any_eq_false] at h
  have hno : ∀ u j, (u, j) ∈ r → gC n0 sg p.1 ≠ gC n0 sg u := fun u j hm e => by
   have := h.1 (gC n0 sg u) (List.mem_map.2 ⟨(u, j), hm, rfl⟩)
   rw [e, Nat.beq_refl] at this; exact this rfl
  rcases List.mem_cons.1 hv with e1 | g1
  ·rcases List.mem_cons.1 hu with e2 | g2
   ·rw [← e2] at e1; injection e1
   ·subst e1; exact absurd e (hno _ _ g2)
  ·rcases List.mem_cons.1 hu with e2 | g2
   ·subst e2; exact absurd e.symm (hno _ _ g1)
   ·exact aG2 h.2 v k u j g1 g2 e
theorem aT8 {C : Cx} {ρ : ak} {B : Fz} {k : aZ} {r : R} {o : Obj} (ho : ei C ρ B k r o) (h : ij k = true) : ¬ B r.blk := by
 cases k <;> cases o <;> first | exact ho.elim | skip
 ·intro hb
  obtain ⟨_, h2, h3⟩ := ho.2.old hb
  simp only [ij, h2, h3] at h; cases h
 ·exact eV.own ho
 ·exact MapAt.own ho
 ·exact lh.own ho
 ·refine (ho.2.own ?_).1
  simpa [ij] using h
 ·exact ho.2.own
 ·exact eV.own ho.2
theorem inE_refl {C : Cx} {ρ : ak} {B B2 : Fz} {k : aZ} {r : R} {o : Obj} (hB : B2 r.blk → B r.blk) (ho : ei C ρ B k r o) : ei C ρ B2 k r o := by
 cases k <;> cases o <;> first | exact ho.elim | skip
 ·exact ⟨ho.1, { ho.2 with old := fun h => ho.2.old (hB h) }⟩
 ·exact { (show eV C ρ B _ r _ from ho) with own := fun h => eV.own ho (hB h) }
 ·exact { (show MapAt C ρ B _ _ r _ _ from ho) with own := fun h => MapAt.own ho (hB h) }
 ·exact { (show lh C ρ B _ _ _ _ r _ _ _ _ from ho) with own := fun h => lh.own ho (hB h) }
 ·exact ⟨ho.1, { ho.2 with own := fun h => ⟨fun hb => (ho.2.own h).1 (hB hb), (ho.2.own h).2⟩ }⟩
 ·exact ⟨ho.1, { ho.2 with own := fun h => ho.2.own (hB h) }⟩
 ·exact ⟨ho.1, { (show eV C ρ B _ r _ from ho.2) with own := fun h => eV.own ho.2 (hB h) }⟩
theorem qW {l : List (Nat × aZ)} (hb : ∀ v k, (v, k) ∈ l → v ≤ 16777213) {v : Nat} {k : aZ} (h : (bA l .leaf).get v = some k) : (v, k) ∈ l := by
 rw [oG _ _ (fun u hu => by obtain ⟨j, hj⟩ := mI.1 hu; exact hb u j hj)] at h
 cases hg : ec l v with
 | some j => rw [hg] at h; simp only [Option.some_or, Option.some.injEq] at h; subst h; exact xA hg
 | none => rw [hg] at h; simp [T.cy] at h
section
variable {C D : Cx} {ng n0 nh : Nat} {K : Fz} {ρ ρ2 : ak} {w : World}
theorem mV {S1 : T aZ} {l : List (Nat × aZ)} {th : List (Nat × AV)} {sg : List (Nat × Nat)} (hP : C.P = D.P) (hinv : C.inv = D.inv) (hnst : C.cE = D.cE) {B : Fz}
 (hF : Fits C ng B ρ2 S1 w) (hth : bN C D th) (lF : ∀ v, v < n0 → ρ2 v = ρ v) (av : ng ≤ n0) (hin : ck n0 nh th sg S1 l = true) (hnd : cj (numsOf n0 sg l) = true)
 (hK : ∀ k, K k → k < w.heap.size) (hlow : ∀ k, k < D.cE → K k) (hKB : ∀ v k r, (v, k) ∈ l → dE k = false → ρ2 (gC n0 sg v) = some r → K r.blk → B r.blk) :
 Fits D ng K (ren ρ ρ2 n0 nh sg) (bA l .leaf) w ∧ (∀ a b v, inA th (cd n0 nh sg) 8 a b = true → Rel C ρ2 b v → Rel D (ren ρ ρ2 n0 nh sg) a v) := by
 have hq : ∀ v u r, cd n0 nh sg v u = true → ρ2 u = some r → ren ρ ρ2 n0 nh sg v = some r := fun v u r hs hr => by
  unfold cd at hs
  unfold ren
  cases hlt : Nat.blt v n0 with
  | true =>
   rw [hlt, cond_true] at hs
   have e := Nat.eq_of_beq_eq_true hs
   subst e
   rw [Nat.blt_eq] at hlt
   rw [if_neg (by omega), ← lF v hlt]; exact hr
  | false =>
   rw [hlt, cond_false, Bool.and_eq_true, Nat.blt_eq] at hs
   have hlt : ¬ v < n0 := fun h => by rw [← Nat.blt_eq, hlt] at h; cases h
   rw [if_pos ⟨by omega, hs.1⟩, Nat.eq_of_beq_eq_true hs.2]; exact hr
 have hnum : ∀ v k, (v, k) ∈ l → ren ρ ρ2 n0 nh sg v = ρ2 (gC n0 sg v) := fun v k hm => by
  obtain ⟨_, h3, _⟩ := iz hin v k hm
  unfold ren gC
  cases hlt : Nat.blt v n0 with
  | true => rw [Nat.blt_eq] at hlt; rw [if_neg (by omega), cond_true, lF v hlt]
  | false =>
   have hlt : ¬ v < n0 := fun h => by rw [← Nat.blt_eq, hlt] at h; cases h
   rw [if_pos ⟨by omega, (h3 (by omega)).1⟩, cond_false]
 have hmem : ∀ v k, (bA l .leaf).get v = some k → (v, k) ∈ l := fun v k h => qW (fun u j hu => (iz hin u j hu).top) h
 refine ⟨⟨hK, fun g hg => ?_, fun v k hv => ?_, fun v v' k k' r r' hv hv' hr hr' he => ?_, hlow, hinv ▸ hF.inv⟩, fun a b v hi hr => xW hP hth hq 8 a b hi v hr⟩
 ·unfold ren; rw [if_neg (by omega), ← lF g (by omega)]; exact hF.glob g hg
 ·have hm := hmem v k hv
  obtain ⟨⟨j, h1, h2⟩, _⟩ := iz hin v k hm
  obtain ⟨r, h3, o, h4, h5⟩ := hF.blk _ _ h1
  exact ⟨r, by rw [hnum v k hm]; exact h3, o, h4, inE_ok hP hth hq h2 (fun hro => hKB v k r hm hro h3) h5⟩
 ·have hm := hmem v k hv
  have hm' := hmem v' k' hv'
  obtain ⟨⟨j, h1, hq1⟩, _⟩ := iz hin v k hm
  obtain ⟨⟨j', h1', hq2⟩, _⟩ := iz hin v' k' hm'
  rw [hnum v k hm] at hr; rw [hnum v' k' hm'] at hr'
  rcases hF.inj _ _ _ _ _ _ h1 h1' hr hr' he with e | ⟨e1, e2⟩
  ·exact .inl (aG2 hnd v k v' k' hm hm' e)
  ·exact .inr ⟨by rw [xV hq1]; exact e1, by rw [xV hq2]; exact e2⟩
end
def da (B : Fz) (ρ : ak) (h : LH) (w : World) : Fz := fun k => B k ∨ (k < w.heap.size ∧ ∀ v j r, (v, j) ∈ h.pre → dE j = false → ρ v = some r → r.blk ≠ k)
theorem aH4 {C : Cx} {B : Fz} {ρ ρ' : ak} {h : LH} {H : T aZ} {w w' : World} (hh : lg h) (hF : Fits C h.ng B ρ H w) (hpre : ∀ v k, (v, k) ∈ h.pre → H.get v = some k) (hfree : Free ρ h.n0 h.n1)
 (hb : Below (da B ρ h w) w w') (hF' : Fits C h.ng (da B ρ h w) ρ' (bA h.post .leaf) w') (he : Ext ρ ρ' h.n0 h.n1) (hown : ∀ v k, (v, k) ∈ h.post → h.n0 ≤ v → ij k = true) : Fits C h.ng B ρ' (eZ h H) w' := by
 have htop := hh.top
 have hsub := he.sub hfree
 have hget : ∀ v k, (eZ h H).get v = some k → (ec h.post v = some k) ∨ (isK h.pre v = false ∧ ¬ (h.n0 ≤ v ∧ v < h.n1) ∧ H.get v = some k) := fun v k hv => by
  rw [oI hh] at hv
  cases hg : ec h.post v with
  | some j => rw [hg] at hv; left; simpa using hv
  | none =>
   rw [hg] at hv
   simp only [Option.none_or] at hv
   split at hv
   ·cases hv
   ·split at hv
    ·cases hv
    ·rename_i e1 e2; right; exact ⟨by simpa using e2, e1, hv⟩
 have hset : ∀ v k, ec h.post v = some k → (bA h.post .leaf).get v = some k := fun v k hv => by
  rw [oG _ _ (fun u hu => by have := (hh.post u hu).1; omega), hv]; rfl
 have hρ : ∀ v, ¬ (h.n0 ≤ v ∧ v < h.n1) → ρ' v = ρ v := fun v hv => he v (by have := hh.le; omega)
 have hfr : ∀ v k r, isK h.pre v = false → H.get v = some k → ρ v = some r → da B ρ h w r.blk := fun v k r hn hv hr => by
  obtain ⟨r', h1, o, h2, _⟩ := hF.blk v k hv
  rw [hr] at h1; injection h1 with h1; subst h1
  refine .inr ⟨qy h2, fun u j ru hj hjr hru e => ?_⟩
  have hu : isK h.pre u = true := mI.2 ⟨j, hj⟩
  have := hF.solo hv (hpre u j hj) hr hru hjr e.symm
  subst this; rw [hn] at hu; cases hu
 refine ⟨fun k hk => Nat.lt_of_lt_of_le (hF.size k hk) hb.size, hF'.glob, fun v k hv => ?_, fun v v' k k' r r' hv hv' hr hr' e => ?_, hF.low, hF'.inv⟩
 ·rcases hget v k hv with g | ⟨g1, g2, g3⟩
  ·obtain ⟨r, h1, o, h2, h3⟩ := hF'.blk v k (hset v k g)
   exact ⟨r, h1, o, h2, inE_refl (fun hb => .inl hb) h3⟩
  ·obtain ⟨r, h1, o, h2, h3⟩ := hF.blk v k g3
   refine ⟨r, hsub _ _ h1, o, ?_, h3.mono hsub⟩
   rw [hb.block _ (hfr v k r g1 g3 h1)]; exact h2
 ·have cross : ∀ v v' k k' r r', ec h.post v = some k → isK h.pre v' = false → ¬ (h.n0 ≤ v' ∧ v' < h.n1) → H.get v' = some k' → ρ' v = some r → ρ' v' = some r' → r.blk = r'.blk → v = v' ∨ (dE k = true ∧ dE k' = true) := fun v v' k k' r r' g g1 g2 g3 hr hr' e => by
   rw [hρ v' g2] at hr'
   have hfz := hfr v' k' r' g1 g3 hr'
   have hm := xA g
   by_cases hlt : v < h.n0
   ·have hp : isK h.pre v = true := (hh.post v (mI.2 ⟨k, hm⟩)).2.resolve_right (by omega)
    obtain ⟨j, hj⟩ := mI.1 hp
    rw [hρ v (by omega)] at hr
    rcases hF.inj v v' j k' r r' (hpre v j hj) g3 hr hr' e with e1 | ⟨e1, e2⟩
    ·subst e1; rw [g1] at hp; cases hp
    ·exact .inr ⟨hh.ro v k j hm hj e1, e2⟩
   ·obtain ⟨r2, h1, o, h2, h3⟩ := hF'.blk v k (hset v k g)
    rw [hr] at h1; injection h1 with h1; subst h1
    exact (aT8 h3 (hown v k hm (by omega)) (e ▸ hfz)).elim
  rcases hget v k hv with g | ⟨g1, g2, g3⟩ <;> rcases hget v' k' hv' with g' | ⟨g1', g2', g3'⟩
  ·exact hF'.inj v v' k k' r r' (hset v k g) (hset v' k' g') hr hr' e
  ·exact cross v v' k k' r r' g g1' g2' g3' hr hr' e
  ·exact (cross v' v k' k r' r g' g1 g2 g3 hr' hr e.symm).imp Eq.symm And.symm
  ·rw [hρ v g2] at hr; rw [hρ v' g2'] at hr'
   exact hF.inj v v' k k' r r' g3 g3' hr hr' e
end
end Go.AX
end
section
namespace Go.AX
noncomputable section
def cr (o : Option ((Ex × Env) × St)) (ex : Ex) (keep : List Nat) (nt n1 : Nat) (th : List (Nat × AV)) (sg : List (Nat × Nat)) (n0 nh : Nat) (ep : List (Nat × AV)) (hp : List (Nat × aZ)) : Bool := match o with
 | some (p, S) => eK p.1 ex && Nat.ble S.next n1 && jb p.2 keep && Nat.beq p.2.nt nt && iO th (cd n0 nh sg) p.2 ep && ck n0 nh th sg S.heap hp && cj (numsOf n0 sg hp)
 | none => false
structure bm (E : Cx) (body : Code) (keep : List Nat) (nt : Nat) (ex' : Ex) (ng n0 nh n1 : Nat) {α : Type} (ep : α → List (Nat × AV)) (hp : α → List (Nat × aZ)) (dI : List (Nat × AV)) (hpx : List (Nat × aZ)) (I : α → Prop) (μ : α → Nat) (D : α → (Nat → Value) → Cx) (x : α) (X : Nat → Value) : Prop where
 run : ∃ (tb : Tab) (L : List LF) (f : Nat) (th : List (Nat × AV)) (sg : List (Nat × Nat)), bM (D x X) tb ∧ bU (D x X) L body ∧ tb.ng = ng ∧
  ((∃ y, I y ∧ μ y < μ x ∧ bN (D x X) (D y X) th ∧ cr (code tb f L body (cN (cV (ep x) keep) nt) ⟨bA (hp x) .leaf, nh, 0, 0⟩) .normal keep nt n1 th sg n0 nh (ep y) (hp y) = true) ∨
   (ex' ≠ .normal ∧ bN (D x X) E th ∧ cr (code tb f L body (cN (cV (ep x) keep) nt) ⟨bA (hp x) .leaf, nh, 0, 0⟩) ex' keep nt n1 th sg n0 n1 dI hpx = true))
theorem aF7 {o : Option ((Ex × Env) × St)} {ex : Ex} {keep : List Nat} {nt n1 : Nat} {th : List (Nat × AV)} {sg : List (Nat × Nat)} {n0 nh : Nat} {ep : List (Nat × AV)} {hp : List (Nat × aZ)} (h : cr o ex keep nt n1 th sg n0 nh ep hp = true) :
 ∃ E1 S1, o = some ((ex, E1), S1) ∧ S1.next ≤ n1 ∧ jb E1 keep = true ∧ E1.nt = nt ∧ iO th (cd n0 nh sg) E1 ep = true ∧ ck n0 nh th sg S1.heap hp = true ∧ cj (numsOf n0 sg hp) = true := by
 cases o with
 | none => cases h
 | some p =>
  obtain ⟨⟨e, E⟩, S⟩ := p
  simp only [cr, Bool.and_eq_true] at h
  obtain ⟨⟨⟨⟨⟨⟨h1, h2⟩, h3⟩, h4⟩, h5⟩, h6⟩, h7⟩ := h
  exact ⟨E, S, by rw [Ev h1], Nat.le_of_ble_eq_true h2, h3, Nat.eq_of_beq_eq_true h4, h5, h6, h7⟩
theorem headOf_bd {ep : List (Nat × AV)} {keep : List Nat} (hb : (dG ep && eG keep) = true) : ∀ p, p ∈ cV ep keep → p.1 ≤ 16777213 := fun p hp => by
 rw [Bool.and_eq_true] at hb
 obtain ⟨s, x⟩ := p
 rcases aD9 _ _ _ _ hp with h | h
 ·exact qc hb.1 _ h
 ·exact Cy hb.2 _ h.1
theorem loop_okH {C E : Cx} {body : Code} {l : LF} {h : LH} {keep : List Nat} {nt : Nat} {ex : Ex} {ng n0 nh n1 : Nat} {α : Type} {ep : α → List (Nat × AV)} {hp : α → List (Nat × aZ)} {dI : List (Nat × AV)} {hpx : List (Nat × aZ)} (I : α → Prop) (μ : α → Nat) (D : α → (Nat → Value) → Cx)
 (hP : ∀ x X, (D x X).P = C.P) (hi : ∀ x X, (D x X).inv = C.inv) (hn : ∀ x X, (D x X).cE = C.cE) (hX : ∀ x X t, t ∈ keep → (D x X).nu (1000000 + t) = X t)
 (jk : E.P = C.P) (jh : E.inv = C.inv) (iR : E.cE = C.cE)
 (hkeep : l.keep = keep) (hlnt : l.nt = nt) (hex : l.ex = ex) (hgn : h.ng = ng) (hn0 : h.n0 = n0) (hn1 : h.n1 = n1)
 (hb : ∀ x, (dG (ep x) && eG keep) = true) (hbx : dG dI = true) (iQ : n0 ≤ nh ∧ nh ≤ n1)
 (start : α) (hstart : I start) {bD : List (Nat × AV)} {a8 : List (Nat × Nat)} (cB : ∀ X, bN C (D start X) bD) (h0e : iO bD (cd n0 nh a8) (cN l.pre nt) (ep start) = true) (hlp : dG l.pre = true)
 (h0h : ck n0 nh bD a8 (bA h.pre .leaf) (hp start) = true) (h0n : cj (numsOf n0 a8 (hp start)) = true)
 {bB : List (Nat × AV)} (cA : bN E C bB) (hxe : iO bB (cd n0 n1 []) (cN dI nt) l.post = true) (hxh : ck n0 n1 bB [] (bA hpx .leaf) h.post = true) (hxn : cj (numsOf n0 [] h.post) = true)
 (hr : ∀ x X, I x → bm E body keep nt ex ng n0 nh n1 ep hp dI hpx I μ D x X) : BC C body l h := by
 subst hkeep; subst hlnt; subst hex; subst hgn; subst hn0; subst hn1
 intro Φ ν Q a w B ρ H hΦ hc hF av hh hpre hfree hsz hnt hslots hK
 have hle := hh.le
 have htop := hh.top
 have jC : ∀ k, B k → da B ρ h w k := fun k hk => .inl hk
 -- the heads
 have key : ∀ (n : Nat) (x : α), μ x < n → I x → ∀ (X : Nat → Value) (ρ1 : ak) (a1 : Act) (w1 : World),
  Fits (D x X) h.ng (da B ρ h w) ρ1 (bA (hp x) .leaf) w1 → Ext ρ ρ1 h.n0 nh → Below (da B ρ h w) w w1 → a1.tmps.size = l.nt →
  (∀ s y, (s, y) ∈ ep x → Rel (D x X) ρ1 y (a1.tmps.getD s undef)) → (∀ t, t ∈ l.keep → a1.tmps.getD t undef = X t) →
  (∀ ρ' a' w', a'.tmps.size = l.nt → (∀ s, s ∈ l.keep → a'.tmps.getD s undef = X s) → (∀ s y, (s, y) ∈ l.post → Rel C ρ' y (a'.tmps.getD s undef)) → gR a1 a' w1 w' →
    Fits C h.ng (da B ρ h w) ρ' (bA h.post .leaf) w' → (∀ v k, (v, k) ∈ h.post → h.n0 ≤ v → ij k = true) → Ext ρ ρ' h.n0 h.n1 → Below (da B ρ h w) w1 w' → Q (mX l.ex) a' w') →
  eg Φ ν C.P body Q a1 w1 := by
  intro n
  induction n with
  | zero => intro x hx; omega
  | succ n ih =>
   intro x hx hI X ρ1 a1 w1 hF1 he1 hb1 hsz1 hep hkeep hK1
   obtain ⟨tb, L, f, th, sg, hall, hlpo, htn, hcase⟩ := (hr x X hI).run
   obtain ⟨ex, E1, S1, hrun, hnx, hkept, hnt1, hcase⟩ : ∃ ex E1 S1, code tb f L body (cN (cV (ep x) l.keep) l.nt) ⟨bA (hp x) .leaf, nh, 0, 0⟩ = some ((ex, E1), S1) ∧ S1.next ≤ h.n1 ∧ jb E1 l.keep = true ∧ E1.nt = l.nt ∧
    ((ex = .normal ∧ ∃ y, I y ∧ μ y < μ x ∧ bN (D x X) (D y X) th ∧ iO th (cd h.n0 nh sg) E1 (ep y) = true ∧ ck h.n0 nh th sg S1.heap (hp y) = true ∧ cj (numsOf h.n0 sg (hp y)) = true) ∨
     (ex ≠ .normal ∧ ex = l.ex ∧ bN (D x X) E th ∧ iO th (cd h.n0 h.n1 sg) E1 dI = true ∧ ck h.n0 h.n1 th sg S1.heap hpx = true ∧ cj (numsOf h.n0 sg hpx) = true)) := by
    rcases hcase with ⟨y, hy, hlt, hth, hrd⟩ | ⟨hne, hth, hrd⟩
    ·obtain ⟨E1, S1, g1, g2, g3, g4, g5, g6, g7⟩ := aF7 hrd
     exact ⟨_, E1, S1, g1, g2, g3, g4, .inl ⟨rfl, y, hy, hlt, hth, g5, g6, g7⟩⟩
    ·obtain ⟨E1, S1, g1, g2, g3, g4, g5, g6, g7⟩ := aF7 hrd
     exact ⟨_, E1, S1, g1, g2, g3, g4, .inr ⟨hne, rfl, hth, g5, g6, g7⟩⟩
   have hP' := hP x X
   refine eg.step ?_
   have hE : eA (D x X) ρ1 (cN (cV (ep x) l.keep) l.nt) a1 := by
    refine ⟨hsz1, hnt, fun t y ht => ?_⟩
    rcases kg _ _ (headOf_bd (hb x)) t y ht with g | g
    ·rcases aD9 _ _ _ _ g with h1 | h1
     ·exact hep t y h1
     ·obtain ⟨h1, rfl⟩ := h1
      simp only [Rel]
      rw [hX x X t h1]; exact hkeep t h1
    ·simp [T.cy] at g
   have Ed : Free ρ1 nh h.n1 := fun v g1 g2 => by rw [he1 v (by omega)]; exact hfree v (by omega) g2
   have hgo := (db (C := D x X) (B := da B ρ h w) (F := f) (Φ := Φ) (ν := ν) hΦ (fun g _ => cr_ok hall g) hall.tab hall.met hall.mix hall.fn f (Nat.le_refl _) L body (cN (cV (ep x) l.keep) l.nt) ⟨bA (hp x) .leaf, nh, 0, 0⟩ ex E1 S1 ρ1 a1 w1
    (Exit.then (eg Φ ν C.P body Q) Q) hc.loop hlpo hrun (by rw [htn]; exact hF1) (by show tb.ng ≤ nh; omega) hE (fun v g1 g2 => Ed v g1 (by omega)) ?_).1
   ·rw [hP'] at hgo; exact hgo
   ·intro ρ2 a2 w2 e1 e2 e3 e4 e5
    have e4 : Ext ρ1 ρ2 nh S1.next := e4
    rw [htn] at e3
    have hkp : ∀ t, t ∈ l.keep → a2.tmps.getD t undef = X t := fun t ht => by
     have := e1.2.2 t _ (aB2 hkept t ht)
     simp only [Rel] at this
     rw [this]; exact hX x X t ht
    have hsz2 : a2.tmps.size = l.nt := e1.1.trans hnt1
    have lF : ∀ v, v < h.n0 → ρ2 v = ρ v := fun v hv => by rw [e4 v (by omega), he1 v (by omega)]
    have hb2 := hb1.trans e5
    have hKs : ∀ k, da B ρ h w k → k < w2.heap.size := fun k hk => by
     have := hb2.size
     rcases hk with hk | hk
     ·have := hF.size k hk; omega
     ·omega
    have hext : ∀ hi, h.n0 ≤ hi → hi ≤ h.n1 → Ext ρ (ren ρ ρ2 h.n0 hi sg) h.n0 hi := fun hi _ _ v hv => by unfold ren; rw [if_neg (by omega)]
    rcases hcase with ⟨rfl, y, hy, hlt, hth, hen, hhe, hnd⟩ | ⟨hne, rfl, hth, hen, hhe, hnd⟩
    ·show eg Φ ν C.P body Q a2 w2
     obtain ⟨g1, g2⟩ := mV (C := D x X) (D := D y X) (ρ := ρ) (K := da B ρ h w) (by rw [hP, hP]) (by rw [hi, hi]) (by rw [hn, hn]) e3 hth lF av hhe hnd hKs
      (fun k hk => jC k (hF.low k (by rw [← hn y X]; exact hk))) (fun v k r _ _ _ hk => hk)
     refine ih y (by omega) hy X _ a2 w2 g1 (hext nh iQ.1 iQ.2) hb2 hsz2 (fun s b hs => ?_) hkp fun ρ' a3 w3 k1 k2 k3 k4 k5 k6 k7 k8 => ?_
     ·obtain ⟨c, hc1, hc2⟩ := qj hen s b hs
      exact g2 _ _ _ hc2 (e1.2.2 s c hc1)
     ·exact hK1 ρ' a3 w3 k1 k2 k3 (e2.trans k4 e5 k8) k5 k6 k7 (e5.trans k8)
    ·obtain ⟨g1, g2⟩ := mV (C := D x X) (D := E) (ρ := ρ) (K := da B ρ h w) ((hP x X).trans jk.symm) ((hi x X).trans jh.symm) ((hn x X).trans iR.symm) e3 hth lF av hhe hnd hKs
      (fun k hk => jC k (hF.low k (by rw [← iR]; exact hk))) (fun v k r _ _ _ hk => hk)
     obtain ⟨g3, g4⟩ := mV (C := E) (D := C) (ρ := ρ) (K := da B ρ h w) jk jh iR g1 cA (fun v hv => by unfold ren; rw [if_neg (by omega)]) av hxh hxn hKs
      (fun k hk => jC k (hF.low k hk)) (fun v k r _ _ _ hk => hk)
     have hfin : Q (mX l.ex) a2 w2 := hK1 _ a2 w2 hsz2 hkp (fun s b hs => by
      obtain ⟨c, hc1, hc2⟩ := qj hxe s b hs
      refine g4 _ _ _ hc2 ?_
      rcases kg _ _ (fun p hp => qc hbx p hp) s c hc1 with g | g
      ·obtain ⟨d, hd1, hd2⟩ := qj hen s c g
       exact g2 _ _ _ hd2 (e1.2.2 s d hd1)
      ·simp [T.cy] at g) e2 g3 (fun v k hm hge => ((iz hxh v k hm).move hge).2) (fun v hv => by unfold ren; rw [if_neg (by omega)]) e5
     cases hx : l.ex with
     | normal => exact absurd hx hne
     | exit id => rw [hx] at hfin; exact hfin
     | goto l => rw [hx] at hfin; exact hfin
     | ret => rw [hx] at hfin; exact hfin
 -- the start
 have ql : ∀ v k, (v, k) ∈ h.pre → v ≤ 16777213 := fun v k hm => by have := hh.pre v (mI.2 ⟨k, hm⟩); omega
 have hF0 : Fits C h.ng B ρ (bA h.pre .leaf) w := hF.sub fun v k hv => hpre v k (qW ql hv)
 obtain ⟨g1, g2⟩ := mV (C := C) (D := D start (fun t => a.tmps.getD t undef)) (ρ := ρ) (K := da B ρ h w) (hP _ _).symm (hi _ _).symm (hn _ _).symm hF0 (cB _) (fun v _ => rfl) av h0h h0n
  (fun k hk => by
    rcases hk with hk | hk
    ·exact hF.size k hk
    ·exact hk.1) (fun k hk => jC k (hF.low k (by rw [← hn start _]; exact hk))) (fun v k r hm hkr hr hk => by
    rcases hk with hk | hk
    ·exact hk
    ·obtain ⟨⟨j, hj, hjk⟩, _⟩ := iz h0h v k hm
     exact absurd rfl (hk.2 _ j r (qW ql hj) (by rw [← xV hjk]; exact hkr) hr))
 refine key _ start (Nat.lt_succ_self _) hstart _ _ a w g1 (fun v hv => by unfold ren; rw [if_neg (by omega)]) (Below.refl _ _) hsz (fun s y hs => ?_) (fun t ht => rfl) fun ρ' a' w' k1 k2 k3 k4 k5 k6 k7 k8 => ?_
 ·obtain ⟨b, hb1, hb2⟩ := qj h0e s y hs
  refine g2 _ _ _ hb2 (hslots s b ?_)
  rcases kg _ _ (fun p hp => qc hlp p hp) s b hb1 with g | g
  ·exact g
  ·simp [T.cy] at g
 ·exact hK ρ' a' w' (by rw [k1, hsz]) k2 k3 k4 (aH4 hh hF hpre hfree k8 k5 k7 k6) k7 (Below.less k8 jC)
end
end Go.AX
end
section
namespace Go.AX
noncomputable section
def wm : List Nat → List Nat → Bool
 | [], [] => true
 | a :: l, b :: m => Nat.beq a b && wm l m
 | _, _ => false
theorem aG3 : ∀ {a b : List Nat}, wm a b = true → a = b
 | [], [], _ => rfl
 | [], _ :: _, h => by cases h
 | _ :: _, [], h => by cases h
 | a :: l, b :: m, h => by
  simp only [wm, Bool.and_eq_true] at h
  rw [Nat.eq_of_beq_eq_true h.1, aG3 h.2]
def xB (l : LF) (h : LH) (nt : Nat) (keep : List Nat) (ex : Ex) (ng n0 n1 : Nat) : Bool := wm l.keep keep && Nat.beq l.nt nt && eK l.ex ex && Nat.beq h.ng ng && Nat.beq h.n0 n0 && Nat.beq h.n1 n1 && dG l.pre
def tS (l : LF) (h : LH) (nt n0 nh : Nat) (bD : List (Nat × AV)) (a8 : List (Nat × Nat)) (ep : List (Nat × AV)) (hp : List (Nat × aZ)) : Bool := iO bD (cd n0 nh a8) (cN l.pre nt) ep && ck n0 nh bD a8 (bA h.pre .leaf) hp && cj (numsOf n0 a8 hp)
def AL (l : LF) (h : LH) (nt n0 n1 : Nat) (bB : List (Nat × AV)) (dI : List (Nat × AV)) (hpx : List (Nat × aZ)) : Bool := iO bB (cd n0 n1 []) (cN dI nt) l.post && ck n0 n1 bB [] (bA hpx .leaf) h.post && cj (numsOf n0 [] h.post)
theorem ao {C1 C2 : Cx} : bN C1 C2 [] := fun i c h => by cases h
theorem eF {C1 C2 : Cx} {i : Nat} {c : AV} {r : List (Nat × AV)} (h : Is C1 c (C2.nu i)) (ht : bN C1 C2 r) : bN C1 C2 ((i, c) :: r) := fun j d hd => by
 unfold kS at hd
 cases hb : Nat.beq i j with
 | true =>
  rw [hb, cond_true] at hd
  injection hd with hd
  have := Nat.eq_of_beq_eq_true hb
  subst this; subst hd; exact h
 | false => rw [hb, cond_false] at hd; exact ht j d hd
theorem lA {C : Cx} {a : AV} {v u : Value} (h : Is C a v) (e : v = u) : Is C a u := e ▸ h
theorem lfOkX {C E : Cx} {body : Code} {l : LF} {h : LH} {keep : List Nat} {nt : Nat} {ex : Ex} {ng n0 nh n1 : Nat} {α : Type} {ep : α → List (Nat × AV)} {hp : α → List (Nat × aZ)} {dI : List (Nat × AV)} {hpx : List (Nat × aZ)} (I : α → Prop) (μ : α → Nat) (D : α → (Nat → Value) → Cx)
 (hP : ∀ x X, (D x X).P = C.P) (hi : ∀ x X, (D x X).inv = C.inv) (hn : ∀ x X, (D x X).cE = C.cE) (hX : ∀ x X t, t ∈ keep → (D x X).nu (1000000 + t) = X t)
 (jk : E.P = C.P) (jh : E.inv = C.inv) (iR : E.cE = C.cE) (hl : l.hp = some h) (hs : xB l h nt keep ex ng n0 n1 = true)
 (hb : ∀ x, (dG (ep x) && eG keep) = true) (hbx : dG dI = true) (iQ : (Nat.ble n0 nh && Nat.ble nh n1) = true)
 (start : α) (hstart : I start) {bD : List (Nat × AV)} {a8 : List (Nat × Nat)} (cB : ∀ X, bN C (D start X) bD) (h0 : tS l h nt n0 nh bD a8 (ep start) (hp start) = true)
 {bB : List (Nat × AV)} (cA : bN E C bB) (hx : AL l h nt n0 n1 bB dI hpx = true)
 (hr : ∀ x X, I x → bm E body keep nt ex ng n0 nh n1 ep hp dI hpx I μ D x X) : dz C body l := by
 simp only [xB, tS, AL, Bool.and_eq_true] at hs h0 hx iQ
 exact dz.h hl (loop_okH I μ D hP hi hn hX jk jh iR (aG3 hs.1.1.1.1.1.1) (Nat.eq_of_beq_eq_true hs.1.1.1.1.1.2) (Ev hs.1.1.1.1.2) (Nat.eq_of_beq_eq_true hs.1.1.1.2) (Nat.eq_of_beq_eq_true hs.1.1.2) (Nat.eq_of_beq_eq_true hs.1.2) hb hbx
  ⟨Nat.le_of_ble_eq_true iQ.1, Nat.le_of_ble_eq_true iQ.2⟩ start hstart cB h0.1.1 hs.2 h0.1.2 h0.2 cA hx.1.1 hx.1.2 hx.2 hr)
section
variable {E : Cx} {body : Code} {keep : List Nat} {nt : Nat} {ex : Ex} {ng n0 nh n1 : Nat} {α : Type} {ep : α → List (Nat × AV)} {hp : α → List (Nat × aZ)} {dI : List (Nat × AV)} {hpx : List (Nat × aZ)} {I : α → Prop} {μ : α → Nat} {D : α → (Nat → Value) → Cx} {x : α} {X : Nat → Value}
theorem bm.next {tb : Tab} {L : List LF} {f : Nat} {th : List (Nat × AV)} {sg : List (Nat × Nat)} (y : α) (hall : bM (D x X) tb) (hlp : bU (D x X) L body) (av : tb.ng = ng) (hy : I y) (hlt : μ y < μ x) (hth : bN (D x X) (D y X) th)
 (hrun : cr (code tb f L body (cN (cV (ep x) keep) nt) ⟨bA (hp x) .leaf, nh, 0, 0⟩) .normal keep nt n1 th sg n0 nh (ep y) (hp y) = true) : bm E body keep nt ex ng n0 nh n1 ep hp dI hpx I μ D x X :=
 ⟨tb, L, f, th, sg, hall, hlp, av, .inl ⟨y, hy, hlt, hth, hrun⟩⟩
theorem bm.leave {tb : Tab} {L : List LF} {f : Nat} {th : List (Nat × AV)} {sg : List (Nat × Nat)} (hall : bM (D x X) tb) (hlp : bU (D x X) L body) (av : tb.ng = ng) (hne : eK ex .normal = false) (hth : bN (D x X) E th)
 (hrun : cr (code tb f L body (cN (cV (ep x) keep) nt) ⟨bA (hp x) .leaf, nh, 0, 0⟩) ex keep nt n1 th sg n0 n1 dI hpx = true) : bm E body keep nt ex ng n0 nh n1 ep hp dI hpx I μ D x X :=
 ⟨tb, L, f, th, sg, hall, hlp, av, .inr ⟨(fun e => by subst e; cases hne), hth, hrun⟩⟩
end
/- classes of bytes, by a mask -/
end
end Go.AX
namespace Go.AX
theorem pF {C : Cx} {x : Bool} (h : x = true) : Den C (.b true) (.bool x) := by subst h; exact me true
theorem denBF {C : Cx} {x : Bool} (h : ¬ (x = true)) : Den C (.b false) (.bool x) := by
 cases x with
 | true => exact absurd rfl h
 | false => exact me false
end Go.AX
namespace Go.AX
theorem thX {C1 C2 : Cx} {i id : Nat} {r : List (Nat × AV)} (h : C1.nu id = C2.nu i) (ht : bN C1 C2 r) : bN C1 C2 ((i, .x id) :: r) :=
 eF (fun ρ v hv => by simp only [Rel] at hv; rw [hv, h]) ht
theorem c8 {C1 C2 : Cx} {i id : Nat} {k : IntKind} {a b : Int} {r : List (Nat × AV)} (h1 : C1.nu id = .int k a) (h2 : C2.nu i = .int k b) (e : a = b) (ht : bN C1 C2 r) : bN C1 C2 ((i, .x id) :: r) :=
 thX (by rw [h1, h2, e]) ht
end Go.AX
end
section
namespace Go.AX
end Go.AX
namespace Go.AX
end Go.AX
namespace Go.AX
end Go.AX
namespace Go.AX
theorem xN {C : Cx} {x y : AV} {b : Bool} (hx : Is C x (.bool b)) (hy : Is C y (.bool b)) : aS C (.bI x y) (.b true) :=
 ⟨true, rfl, fun ρ vx vy h1 h2 => ⟨b, b, hx ρ vx h1, hy ρ vy h2, by simp⟩⟩
end Go.AX
end
section
namespace Go.AX
noncomputable section
def bJ (l : List (List UInt8)) : Value := .tuple ⟨l.map St'⟩
def rX (l : List Value) (X : Nat → Value) (t : Nat) : Value := cond (Nat.blt t 1000000) (X t) (aY l (t - 1000000))
theorem fV {l : List Value} {X : Nat → Value} {t : Nat} (h : t < 1000000) : rX l X t = X t := by
 have : Nat.blt t 1000000 = true := by rw [Nat.blt_eq]; exact h
 unfold rX; rw [this, cond_true]
section
variable {C : Cx} {x y i r : AV} {l : List (List UInt8)}
theorem eH (hr : Den C r (bJ [])) : aS C .rn r := fun ρ => hr ρ
end
end
end Go.AX
end
section
namespace Go.AX
abbrev LB := List UInt8
abbrev LA := List (Nat × AV)
abbrev LE := List (Nat × aZ)
abbrev LK := List (HK × AV)
section
variable {C : Cx} {i j m : Nat} {k : IntKind} {a b c : Int} {n : Nat} {l : List UInt8}
theorem iN : Is C (.i k (.ofNat n)) (.int k (n : Int)) := isI k (Int.ofNat n)
theorem dO (h1 : C.nu i = .int k a := by exact rfl) (h2 : C.nu j = .int k b := by exact rfl) (h : a < b := by omega) : aS C (.bin .lss (.x i) (.x j)) (.b true) := kLt (aA h1) (aA h2) (decide_eq_true h)
theorem iJ (h1 : C.nu i = .int k a := by exact rfl) (h2 : C.nu j = .int k b := by exact rfl) (h : ¬ a < b := by omega) : aS C (.bin .lss (.x i) (.x j)) (.b false) := kLt (aA h1) (aA h2) (decide_eq_false h)
theorem kb (h1 : C.nu i = .int k a := by exact rfl) (h : a < (n : Int) := by omega) : aS C (.bin .lss (.x i) (.i k (.ofNat n))) (.b true) := kLt (aA h1) iN (decide_eq_true h)
theorem il (h1 : C.nu i = .int k a := by exact rfl) (h : ¬ a < (n : Int) := by omega) : aS C (.bin .lss (.x i) (.i k (.ofNat n))) (.b false) := kLt (aA h1) iN (decide_eq_false h)
theorem lecT (h1 : C.nu i = .int k a := by exact rfl) (h : a ≤ (n : Int) := by omega) : aS C (.bin .leq (.x i) (.i k (.ofNat n))) (.b true) := kLe (aA h1) iN (decide_eq_true h)
theorem lecF (h1 : C.nu i = .int k a := by exact rfl) (h : ¬ a ≤ (n : Int) := by omega) : aS C (.bin .leq (.x i) (.i k (.ofNat n))) (.b false) := kLe (aA h1) iN (decide_eq_false h)
theorem fM (h1 : C.nu i = .int k a := by exact rfl) (h : (n : Int) < a := by omega) : aS C (.bin .gtr (.x i) (.i k (.ofNat n))) (.b true) := kGt (aA h1) iN (decide_eq_true h)
theorem ey (h1 : C.nu i = .int k a := by exact rfl) (h : ¬ (n : Int) < a := by omega) : aS C (.bin .gtr (.x i) (.i k (.ofNat n))) (.b false) := kGt (aA h1) iN (decide_eq_false h)
theorem mS (h1 : C.nu i = .int k a := by exact rfl) (h : (n : Int) ≤ a := by omega) : aS C (.bin .geq (.x i) (.i k (.ofNat n))) (.b true) := kGe (aA h1) iN (decide_eq_true h)
theorem rA (h1 : C.nu i = .int k a := by exact rfl) (h : ¬ (n : Int) ≤ a := by omega) : aS C (.bin .geq (.x i) (.i k (.ofNat n))) (.b false) := kGe (aA h1) iN (decide_eq_false h)
theorem bu (h1 : C.nu i = .int k a := by exact rfl) (h : a = (n : Int) := by omega) : aS C (.bin .eql (.x i) (.i k (.ofNat n))) (.b true) := kEqI (aA h1) iN (decide_eq_true h)
theorem aQ (h1 : C.nu i = .int k a := by exact rfl) (h : ¬ a = (n : Int) := by omega) : aS C (.bin .eql (.x i) (.i k (.ofNat n))) (.b false) := kEqI (aA h1) iN (decide_eq_false h)
theorem cQ (h1 : C.nu i = .int .i64 a := by exact rfl) (h3 : C.nu m = .int .i64 c := by exact rfl) (h : a + (n : Int) = c ∧ -9223372036854775808 ≤ c ∧ c ≤ 9223372036854775807 := by omega) : aS C (.bin .add (.x i) (.i .i64 (.ofNat n))) (.x m) := oX (aA h1) iN (aF h3) h.1 (rC h.2.1 h.2.2)
theorem bZ (h1 : C.nu i = St' l := by exact rfl) (h3 : C.nu m = .int .i64 c := by exact rfl) (h : (l.length : Int) = c := by omega) : aS C (.len (.x i)) (.x m) := kLenE (aA h1) (aF h3) h
end
end Go.AX
namespace Go.AX
theorem thXv {C1 C2 : Cx} {i id : Nat} {v : Value} {r : List (Nat × AV)} (h1 : C1.nu id = v) (h2 : C2.nu i = v) (ht : bN C1 C2 r) : bN C1 C2 ((i, .x id) :: r) := thX (h1.trans h2.symm) ht
end Go.AX
namespace Go.AX
theorem bn {C1 C2 : Cx} {i id : Nat} {v u : Value} {r : List (Nat × AV)} (h1 : C1.nu id = v) (h2 : C2.nu i = u) (e : v = u) (ht : bN C1 C2 r) : bN C1 C2 ((i, .x id) :: r) := thX (h1.trans (e.trans h2.symm)) ht
end Go.AX
namespace Go.AX
theorem aW {C1 C2 : Cx} {i id : Nat} {v : Value} {r : List (Nat × AV)} (ht : bN C1 C2 r) (h1 : C1.nu id = v := by exact rfl) (h2 : C2.nu i = v := by exact rfl) : bN C1 C2 ((i, .x id) :: r) := thXv h1 h2 ht
end Go.AX
end
