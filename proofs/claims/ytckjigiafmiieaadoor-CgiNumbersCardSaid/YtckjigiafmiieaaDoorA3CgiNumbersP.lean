/- A part of the proof: an interpreter of the model's own code on partly known states, and that what it answers is what the program answers. No condition of its own. -/
import Derived.Test.YtckjigiafmiieaaDoorA3CgiNumbersR0
import Derived.Test.YtckjigiafmiieaaDoorA3CgiNumbersR1
import Derived.Test.YtckjigiafmiieaaDoorA3CgiNumbersR2
import Derived.Test.YtckjigiafmiieaaDoorA3CgiNumbersR3
import Derived.Test.YtckjigiafmiieaaDoorA3CgiNumbersR4
import Derived.Test.YtckjigiafmiieaaDoorA3CgiNumbersR5
import Derived.Test.YtckjigiafmiieaaDoorA3CgiNumbersR6
import Derived.Test.YtckjigiafmiieaaDoorA3CgiNumbersR7
import Derived.Test.YtckjigiafmiieaaDoorA3CgiNumbersR8
import Derived.Test.YtckjigiafmiieaaDoorA3CgiNumbersR9
import Derived.Test.YtckjigiafmiieaaDoorA3CgiNumbersR10
import Derived.Test.YtckjigiafmiieaaDoorA3CgiNumbersR11
import Derived.Test.YtckjigiafmiieaaDoorA3CgiNumbersR12
import Derived.Test.YtckjigiafmiieaaDoorA3CgiNumbersR13
import Derived.Test.YtckjigiafmiieaaDoorA3CgiNumbersR14
import Derived.Test.YtckjigiafmiieaaDoorA3CgiNumbersR15
import Derived.Test.YtckjigiafmiieaaDoorA3CgiNumbersR16
import Derived.Test.YtckjigiafmiieaaDoorA3CgiNumbersR17
import Derived.Test.YtckjigiafmiieaaDoorA3CgiNumbersR18
import Derived.Test.YtckjigiafmiieaaDoorA3CgiNumbersR19
import Derived.Test.YtckjigiafmiieaaDoorA3CgiNumbersR20
import Derived.Test.YtckjigiafmiieaaDoorA3CgiNumbersR21
import Derived.Test.YtckjigiafmiieaaDoorA3CgiNumbersR22
import Derived.Test.YtckjigiafmiieaaDoorA3CgiNumbersR23
import Derived.Test.YtckjigiafmiieaaDoorA3CgiNumbersR24
import Derived.Test.YtckjigiafmiieaaDoorA3CgiNumbersR25
import Derived.Test.YtckjigiafmiieaaDoorA3CgiNumbersR26
import Derived.Test.YtckjigiafmiieaaDoorA3CgiNumbersR27
import Derived.Test.YtckjigiafmiieaaDoorA3CgiNumbersR28
import Derived.Test.YtckjigiafmiieaaDoorA3CgiNumbersR29
import Derived.Test.YtckjigiafmiieaaDoorA3CgiNumbersR30
import Derived.Test.YtckjigiafmiieaaDoorA3CgiNumbersR31
import Derived.Test.YtckjigiafmiieaaDoorA3CgiNumbersR32
import Derived.Test.YtckjigiafmiieaaDoorA3CgiNumbersR33
import Derived.Test.YtckjigiafmiieaaDoorA3CgiNumbersR34
import Derived.Test.YtckjigiafmiieaaDoorA3CgiNumbersR35
import Derived.Test.YtckjigiafmiieaaDoorA3CgiNumbersR36
import Derived.Test.YtckjigiafmiieaaDoorA3CgiNumbersR37
import Derived.Test.YtckjigiafmiieaaDoorA3CgiNumbersR38
import Derived.Test.YtckjigiafmiieaaDoorA3CgiNumbersR39
set_option maxRecDepth 100000
set_option linter.unusedVariables false
namespace Go.Proofs.YtckjigiafmiieaaDoor.cgiNumbers
open Go Go.AX Go.Proofs Go.Proofs.YtckjigiafmiieaaDoor
theorem allRuns (e : Nat) : ∀ i, i < 5500 → runI e i = true := by
  intro i hi
  by_cases h2744 : i < 2744
  · by_cases h1372 : i < 1372
    · by_cases h686 : i < 686
      · by_cases h343 : i < 343
        · by_cases h147 : i < 147
          · by_cases h49 : i < 49
            · exact allN_at (r0 e ) i (by omega) (by omega)
            · by_cases h98 : i < 98
              · exact allN_at (r49 e ) i (by omega) (by omega)
              · exact allN_at (r98 e ) i (by omega) (by omega)
          · by_cases h245 : i < 245
            · by_cases h196 : i < 196
              · exact allN_at (r147 e ) i (by omega) (by omega)
              · exact allN_at (r196 e ) i (by omega) (by omega)
            · by_cases h294 : i < 294
              · exact allN_at (r245 e ) i (by omega) (by omega)
              · exact allN_at (r294 e ) i (by omega) (by omega)
        · by_cases h490 : i < 490
          · by_cases h392 : i < 392
            · exact allN_at (r343 e ) i (by omega) (by omega)
            · by_cases h441 : i < 441
              · exact allN_at (r392 e ) i (by omega) (by omega)
              · exact allN_at (r441 e ) i (by omega) (by omega)
          · by_cases h588 : i < 588
            · by_cases h539 : i < 539
              · exact allN_at (r490 e ) i (by omega) (by omega)
              · exact allN_at (r539 e ) i (by omega) (by omega)
            · by_cases h637 : i < 637
              · exact allN_at (r588 e ) i (by omega) (by omega)
              · exact allN_at (r637 e ) i (by omega) (by omega)
      · by_cases h1029 : i < 1029
        · by_cases h833 : i < 833
          · by_cases h735 : i < 735
            · exact allN_at (r686 e ) i (by omega) (by omega)
            · by_cases h784 : i < 784
              · exact allN_at (r735 e ) i (by omega) (by omega)
              · exact allN_at (r784 e ) i (by omega) (by omega)
          · by_cases h931 : i < 931
            · by_cases h882 : i < 882
              · exact allN_at (r833 e ) i (by omega) (by omega)
              · exact allN_at (r882 e ) i (by omega) (by omega)
            · by_cases h980 : i < 980
              · exact allN_at (r931 e ) i (by omega) (by omega)
              · exact allN_at (r980 e ) i (by omega) (by omega)
        · by_cases h1176 : i < 1176
          · by_cases h1078 : i < 1078
            · exact allN_at (r1029 e ) i (by omega) (by omega)
            · by_cases h1127 : i < 1127
              · exact allN_at (r1078 e ) i (by omega) (by omega)
              · exact allN_at (r1127 e ) i (by omega) (by omega)
          · by_cases h1274 : i < 1274
            · by_cases h1225 : i < 1225
              · exact allN_at (r1176 e ) i (by omega) (by omega)
              · exact allN_at (r1225 e ) i (by omega) (by omega)
            · by_cases h1323 : i < 1323
              · exact allN_at (r1274 e ) i (by omega) (by omega)
              · exact allN_at (r1323 e ) i (by omega) (by omega)
    · by_cases h2058 : i < 2058
      · by_cases h1715 : i < 1715
        · by_cases h1519 : i < 1519
          · by_cases h1421 : i < 1421
            · exact allN_at (r1372 e ) i (by omega) (by omega)
            · by_cases h1470 : i < 1470
              · exact allN_at (r1421 e ) i (by omega) (by omega)
              · exact allN_at (r1470 e ) i (by omega) (by omega)
          · by_cases h1617 : i < 1617
            · by_cases h1568 : i < 1568
              · exact allN_at (r1519 e ) i (by omega) (by omega)
              · exact allN_at (r1568 e ) i (by omega) (by omega)
            · by_cases h1666 : i < 1666
              · exact allN_at (r1617 e ) i (by omega) (by omega)
              · exact allN_at (r1666 e ) i (by omega) (by omega)
        · by_cases h1862 : i < 1862
          · by_cases h1764 : i < 1764
            · exact allN_at (r1715 e ) i (by omega) (by omega)
            · by_cases h1813 : i < 1813
              · exact allN_at (r1764 e ) i (by omega) (by omega)
              · exact allN_at (r1813 e ) i (by omega) (by omega)
          · by_cases h1960 : i < 1960
            · by_cases h1911 : i < 1911
              · exact allN_at (r1862 e ) i (by omega) (by omega)
              · exact allN_at (r1911 e ) i (by omega) (by omega)
            · by_cases h2009 : i < 2009
              · exact allN_at (r1960 e ) i (by omega) (by omega)
              · exact allN_at (r2009 e ) i (by omega) (by omega)
      · by_cases h2401 : i < 2401
        · by_cases h2205 : i < 2205
          · by_cases h2107 : i < 2107
            · exact allN_at (r2058 e ) i (by omega) (by omega)
            · by_cases h2156 : i < 2156
              · exact allN_at (r2107 e ) i (by omega) (by omega)
              · exact allN_at (r2156 e ) i (by omega) (by omega)
          · by_cases h2303 : i < 2303
            · by_cases h2254 : i < 2254
              · exact allN_at (r2205 e ) i (by omega) (by omega)
              · exact allN_at (r2254 e ) i (by omega) (by omega)
            · by_cases h2352 : i < 2352
              · exact allN_at (r2303 e ) i (by omega) (by omega)
              · exact allN_at (r2352 e ) i (by omega) (by omega)
        · by_cases h2548 : i < 2548
          · by_cases h2450 : i < 2450
            · exact allN_at (r2401 e ) i (by omega) (by omega)
            · by_cases h2499 : i < 2499
              · exact allN_at (r2450 e ) i (by omega) (by omega)
              · exact allN_at (r2499 e ) i (by omega) (by omega)
          · by_cases h2646 : i < 2646
            · by_cases h2597 : i < 2597
              · exact allN_at (r2548 e ) i (by omega) (by omega)
              · exact allN_at (r2597 e ) i (by omega) (by omega)
            · by_cases h2695 : i < 2695
              · exact allN_at (r2646 e ) i (by omega) (by omega)
              · exact allN_at (r2695 e ) i (by omega) (by omega)
  · by_cases h4116 : i < 4116
    · by_cases h3430 : i < 3430
      · by_cases h3087 : i < 3087
        · by_cases h2891 : i < 2891
          · by_cases h2793 : i < 2793
            · exact allN_at (r2744 e ) i (by omega) (by omega)
            · by_cases h2842 : i < 2842
              · exact allN_at (r2793 e ) i (by omega) (by omega)
              · exact allN_at (r2842 e ) i (by omega) (by omega)
          · by_cases h2989 : i < 2989
            · by_cases h2940 : i < 2940
              · exact allN_at (r2891 e ) i (by omega) (by omega)
              · exact allN_at (r2940 e ) i (by omega) (by omega)
            · by_cases h3038 : i < 3038
              · exact allN_at (r2989 e ) i (by omega) (by omega)
              · exact allN_at (r3038 e ) i (by omega) (by omega)
        · by_cases h3234 : i < 3234
          · by_cases h3136 : i < 3136
            · exact allN_at (r3087 e ) i (by omega) (by omega)
            · by_cases h3185 : i < 3185
              · exact allN_at (r3136 e ) i (by omega) (by omega)
              · exact allN_at (r3185 e ) i (by omega) (by omega)
          · by_cases h3332 : i < 3332
            · by_cases h3283 : i < 3283
              · exact allN_at (r3234 e ) i (by omega) (by omega)
              · exact allN_at (r3283 e ) i (by omega) (by omega)
            · by_cases h3381 : i < 3381
              · exact allN_at (r3332 e ) i (by omega) (by omega)
              · exact allN_at (r3381 e ) i (by omega) (by omega)
      · by_cases h3773 : i < 3773
        · by_cases h3577 : i < 3577
          · by_cases h3479 : i < 3479
            · exact allN_at (r3430 e ) i (by omega) (by omega)
            · by_cases h3528 : i < 3528
              · exact allN_at (r3479 e ) i (by omega) (by omega)
              · exact allN_at (r3528 e ) i (by omega) (by omega)
          · by_cases h3675 : i < 3675
            · by_cases h3626 : i < 3626
              · exact allN_at (r3577 e ) i (by omega) (by omega)
              · exact allN_at (r3626 e ) i (by omega) (by omega)
            · by_cases h3724 : i < 3724
              · exact allN_at (r3675 e ) i (by omega) (by omega)
              · exact allN_at (r3724 e ) i (by omega) (by omega)
        · by_cases h3920 : i < 3920
          · by_cases h3822 : i < 3822
            · exact allN_at (r3773 e ) i (by omega) (by omega)
            · by_cases h3871 : i < 3871
              · exact allN_at (r3822 e ) i (by omega) (by omega)
              · exact allN_at (r3871 e ) i (by omega) (by omega)
          · by_cases h4018 : i < 4018
            · by_cases h3969 : i < 3969
              · exact allN_at (r3920 e ) i (by omega) (by omega)
              · exact allN_at (r3969 e ) i (by omega) (by omega)
            · by_cases h4067 : i < 4067
              · exact allN_at (r4018 e ) i (by omega) (by omega)
              · exact allN_at (r4067 e ) i (by omega) (by omega)
    · by_cases h4802 : i < 4802
      · by_cases h4459 : i < 4459
        · by_cases h4263 : i < 4263
          · by_cases h4165 : i < 4165
            · exact allN_at (r4116 e ) i (by omega) (by omega)
            · by_cases h4214 : i < 4214
              · exact allN_at (r4165 e ) i (by omega) (by omega)
              · exact allN_at (r4214 e ) i (by omega) (by omega)
          · by_cases h4361 : i < 4361
            · by_cases h4312 : i < 4312
              · exact allN_at (r4263 e ) i (by omega) (by omega)
              · exact allN_at (r4312 e ) i (by omega) (by omega)
            · by_cases h4410 : i < 4410
              · exact allN_at (r4361 e ) i (by omega) (by omega)
              · exact allN_at (r4410 e ) i (by omega) (by omega)
        · by_cases h4606 : i < 4606
          · by_cases h4508 : i < 4508
            · exact allN_at (r4459 e ) i (by omega) (by omega)
            · by_cases h4557 : i < 4557
              · exact allN_at (r4508 e ) i (by omega) (by omega)
              · exact allN_at (r4557 e ) i (by omega) (by omega)
          · by_cases h4704 : i < 4704
            · by_cases h4655 : i < 4655
              · exact allN_at (r4606 e ) i (by omega) (by omega)
              · exact allN_at (r4655 e ) i (by omega) (by omega)
            · by_cases h4753 : i < 4753
              · exact allN_at (r4704 e ) i (by omega) (by omega)
              · exact allN_at (r4753 e ) i (by omega) (by omega)
      · by_cases h5145 : i < 5145
        · by_cases h4949 : i < 4949
          · by_cases h4851 : i < 4851
            · exact allN_at (r4802 e ) i (by omega) (by omega)
            · by_cases h4900 : i < 4900
              · exact allN_at (r4851 e ) i (by omega) (by omega)
              · exact allN_at (r4900 e ) i (by omega) (by omega)
          · by_cases h5047 : i < 5047
            · by_cases h4998 : i < 4998
              · exact allN_at (r4949 e ) i (by omega) (by omega)
              · exact allN_at (r4998 e ) i (by omega) (by omega)
            · by_cases h5096 : i < 5096
              · exact allN_at (r5047 e ) i (by omega) (by omega)
              · exact allN_at (r5096 e ) i (by omega) (by omega)
        · by_cases h5341 : i < 5341
          · by_cases h5243 : i < 5243
            · by_cases h5194 : i < 5194
              · exact allN_at (r5145 e ) i (by omega) (by omega)
              · exact allN_at (r5194 e ) i (by omega) (by omega)
            · by_cases h5292 : i < 5292
              · exact allN_at (r5243 e ) i (by omega) (by omega)
              · exact allN_at (r5292 e ) i (by omega) (by omega)
          · by_cases h5439 : i < 5439
            · by_cases h5390 : i < 5390
              · exact allN_at (r5341 e ) i (by omega) (by omega)
              · exact allN_at (r5390 e ) i (by omega) (by omega)
            · by_cases h5488 : i < 5488
              · exact allN_at (r5439 e ) i (by omega) (by omega)
              · exact allN_at (r5488 e ) i (by omega) (by omega)
theorem runs (e : Nat) (c0 : Nat) (c1 : Nat) (h0 : c0 < 1100) (h1 : c1 < 5) : run e c0 c1 = true := by
  have h := allRuns e ((c0 + 1100 * c1)) (by omega)
  unfold runI at h
  have e0 : Nat.mod ((c0 + 1100 * c1)) 1100 = c0 := by show ((c0 + 1100 * c1)) % 1100 = c0; omega
  have d0 : Nat.div ((c0 + 1100 * c1)) 1100 = c1 := by show ((c0 + 1100 * c1)) / 1100 = c1; omega
  rw [e0, d0] at h
  have e1 : Nat.mod (c1) 5 = c1 := by show (c1) % 5 = c1; omega
  rw [e1] at h
  exact h
def nu (x0 : Nat) (x1 : Nat) : Nat → Value
  | 0 => .int .u16 (.ofNat x0)
  | 100 => .int .u8 (.ofNat x1)
  | _ => .bool true
theorem nu_one (x0 : Nat) (x1 : Nat) : ∀ i, (nu x0 x1 i).oneCell' = true := by
  intro i; unfold nu; split <;> rfl
theorem hyOk (x0 : Nat) (x1 : Nat) (c0 : Nat) (c1 : Nat) (hc0 : x0 % 1100 = c0) (hx0 : x0 ≤ 65535) (hc1 : x1 % 5 = c1) (hx1 : x1 ≤ 255) : ∀ k r, (k, r) ∈ hy c0 c1 → HOk (cx (nu x0 x1) (nu_one x0 x1) 1 laidE laidE_stab) k r := by
  intro k r h
  simp only [hy, List.mem_cons, List.not_mem_nil, or_false, Prod.mk.injEq] at h
  rcases h with ⟨rfl, rfl⟩ | ⟨rfl, rfl⟩
  · exact hRemX (x := x0) rfl (by omega) hc0
  · exact hRemX (x := x1) rfl (by omega) hc1
theorem walk (a0 : Int) (a1 : Int) (w0 : (Lit.int .u16 a0).wf = true) (w1 : (Lit.int .u8 a1).wf = true) (w : World) (hl : laidE w) :
    Calls Tryd.prog 12 #[.int .u16 a0, .int .u8 a1] w fun e w' => e = .returned (.bool true) ∧ Go.AX.Below w.heap.size w w' := by
  obtain ⟨fi, hfi, hb⟩ : ∃ fi, tabk.fn.get 12 = some fi ∧ fi.body.isSome = true := ⟨_, rfl, by kernel_rfl⟩
  obtain ⟨x0, rfl, hx0⟩ := natOf (M := 65535) w0 rfl rfl
  obtain ⟨x1, rfl, hx1⟩ := natOf (M := 255) w1 rfl rfl
  have hall : AllOk (cx (nu x0 x1) (nu_one x0 x1) 1 laidE laidE_stab) (tabC (x0 % 1100) (x1 % 5)) := (tabkOk (nu x0 x1) (nu_one x0 x1)).hyps (hyOk x0 x1 _ _ rfl hx0 rfl hx1)
  exact runD hall rfl hfi hb (fun e => runs e (x0 % 1100) (x1 % 5) (Nat.mod_lt _ (by omega)) (Nat.mod_lt _ (by omega))) (args := [.int .u16 (.ofNat x0), .int .u8 (.ofNat x1)]) (by simp only [RelL, Rel]; exact ⟨_, _, rfl, rfl, ⟨_, _, rfl, rfl, rfl⟩⟩) w hl
end Go.Proofs.YtckjigiafmiieaaDoor.cgiNumbers
