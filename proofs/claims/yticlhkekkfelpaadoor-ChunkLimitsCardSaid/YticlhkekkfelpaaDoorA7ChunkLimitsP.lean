/- A part of the proof: an interpreter of the model's own code on partly known states, and that what it answers is what the program answers. No condition of its own. -/
import Derived.Test.YticlhkekkfelpaaDoorA7ChunkLimitsR0
import Derived.Test.YticlhkekkfelpaaDoorA7ChunkLimitsR1
import Derived.Test.YticlhkekkfelpaaDoorA7ChunkLimitsR2
import Derived.Test.YticlhkekkfelpaaDoorA7ChunkLimitsR3
import Derived.Test.YticlhkekkfelpaaDoorA7ChunkLimitsR4
import Derived.Test.YticlhkekkfelpaaDoorA7ChunkLimitsR5
import Derived.Test.YticlhkekkfelpaaDoorA7ChunkLimitsR6
import Derived.Test.YticlhkekkfelpaaDoorA7ChunkLimitsR7
import Derived.Test.YticlhkekkfelpaaDoorA7ChunkLimitsR8
import Derived.Test.YticlhkekkfelpaaDoorA7ChunkLimitsR9
import Derived.Test.YticlhkekkfelpaaDoorA7ChunkLimitsR10
import Derived.Test.YticlhkekkfelpaaDoorA7ChunkLimitsR11
import Derived.Test.YticlhkekkfelpaaDoorA7ChunkLimitsR12
import Derived.Test.YticlhkekkfelpaaDoorA7ChunkLimitsR13
import Derived.Test.YticlhkekkfelpaaDoorA7ChunkLimitsR14
import Derived.Test.YticlhkekkfelpaaDoorA7ChunkLimitsR15
import Derived.Test.YticlhkekkfelpaaDoorA7ChunkLimitsR16
import Derived.Test.YticlhkekkfelpaaDoorA7ChunkLimitsR17
import Derived.Test.YticlhkekkfelpaaDoorA7ChunkLimitsR18
import Derived.Test.YticlhkekkfelpaaDoorA7ChunkLimitsR19
set_option maxRecDepth 100000
set_option linter.unusedVariables false
namespace Go.Proofs.YticlhkekkfelpaaDoor.chunkLimits
open Go Go.AX Go.Proofs Go.Proofs.YticlhkekkfelpaaDoor
theorem allRuns (e6 : Nat) : ∀ i, i < 1500 → runI e6 i = true := by
  intro i hi
  by_cases h752 : i < 752
  · by_cases h368 : i < 368
    · by_cases h176 : i < 176
      · by_cases h80 : i < 80
        · by_cases h32 : i < 32
          · by_cases h16 : i < 16
            · exact allN_at (r0 e6 ) i (by omega) (by omega)
            · exact allN_at (r16 e6 ) i (by omega) (by omega)
          · by_cases h48 : i < 48
            · exact allN_at (r32 e6 ) i (by omega) (by omega)
            · by_cases h64 : i < 64
              · exact allN_at (r48 e6 ) i (by omega) (by omega)
              · exact allN_at (r64 e6 ) i (by omega) (by omega)
        · by_cases h128 : i < 128
          · by_cases h96 : i < 96
            · exact allN_at (r80 e6 ) i (by omega) (by omega)
            · by_cases h112 : i < 112
              · exact allN_at (r96 e6 ) i (by omega) (by omega)
              · exact allN_at (r112 e6 ) i (by omega) (by omega)
          · by_cases h144 : i < 144
            · exact allN_at (r128 e6 ) i (by omega) (by omega)
            · by_cases h160 : i < 160
              · exact allN_at (r144 e6 ) i (by omega) (by omega)
              · exact allN_at (r160 e6 ) i (by omega) (by omega)
      · by_cases h272 : i < 272
        · by_cases h224 : i < 224
          · by_cases h192 : i < 192
            · exact allN_at (r176 e6 ) i (by omega) (by omega)
            · by_cases h208 : i < 208
              · exact allN_at (r192 e6 ) i (by omega) (by omega)
              · exact allN_at (r208 e6 ) i (by omega) (by omega)
          · by_cases h240 : i < 240
            · exact allN_at (r224 e6 ) i (by omega) (by omega)
            · by_cases h256 : i < 256
              · exact allN_at (r240 e6 ) i (by omega) (by omega)
              · exact allN_at (r256 e6 ) i (by omega) (by omega)
        · by_cases h320 : i < 320
          · by_cases h288 : i < 288
            · exact allN_at (r272 e6 ) i (by omega) (by omega)
            · by_cases h304 : i < 304
              · exact allN_at (r288 e6 ) i (by omega) (by omega)
              · exact allN_at (r304 e6 ) i (by omega) (by omega)
          · by_cases h336 : i < 336
            · exact allN_at (r320 e6 ) i (by omega) (by omega)
            · by_cases h352 : i < 352
              · exact allN_at (r336 e6 ) i (by omega) (by omega)
              · exact allN_at (r352 e6 ) i (by omega) (by omega)
    · by_cases h560 : i < 560
      · by_cases h464 : i < 464
        · by_cases h416 : i < 416
          · by_cases h384 : i < 384
            · exact allN_at (r368 e6 ) i (by omega) (by omega)
            · by_cases h400 : i < 400
              · exact allN_at (r384 e6 ) i (by omega) (by omega)
              · exact allN_at (r400 e6 ) i (by omega) (by omega)
          · by_cases h432 : i < 432
            · exact allN_at (r416 e6 ) i (by omega) (by omega)
            · by_cases h448 : i < 448
              · exact allN_at (r432 e6 ) i (by omega) (by omega)
              · exact allN_at (r448 e6 ) i (by omega) (by omega)
        · by_cases h512 : i < 512
          · by_cases h480 : i < 480
            · exact allN_at (r464 e6 ) i (by omega) (by omega)
            · by_cases h496 : i < 496
              · exact allN_at (r480 e6 ) i (by omega) (by omega)
              · exact allN_at (r496 e6 ) i (by omega) (by omega)
          · by_cases h528 : i < 528
            · exact allN_at (r512 e6 ) i (by omega) (by omega)
            · by_cases h544 : i < 544
              · exact allN_at (r528 e6 ) i (by omega) (by omega)
              · exact allN_at (r544 e6 ) i (by omega) (by omega)
      · by_cases h656 : i < 656
        · by_cases h608 : i < 608
          · by_cases h576 : i < 576
            · exact allN_at (r560 e6 ) i (by omega) (by omega)
            · by_cases h592 : i < 592
              · exact allN_at (r576 e6 ) i (by omega) (by omega)
              · exact allN_at (r592 e6 ) i (by omega) (by omega)
          · by_cases h624 : i < 624
            · exact allN_at (r608 e6 ) i (by omega) (by omega)
            · by_cases h640 : i < 640
              · exact allN_at (r624 e6 ) i (by omega) (by omega)
              · exact allN_at (r640 e6 ) i (by omega) (by omega)
        · by_cases h704 : i < 704
          · by_cases h672 : i < 672
            · exact allN_at (r656 e6 ) i (by omega) (by omega)
            · by_cases h688 : i < 688
              · exact allN_at (r672 e6 ) i (by omega) (by omega)
              · exact allN_at (r688 e6 ) i (by omega) (by omega)
          · by_cases h720 : i < 720
            · exact allN_at (r704 e6 ) i (by omega) (by omega)
            · by_cases h736 : i < 736
              · exact allN_at (r720 e6 ) i (by omega) (by omega)
              · exact allN_at (r736 e6 ) i (by omega) (by omega)
  · by_cases h1120 : i < 1120
    · by_cases h928 : i < 928
      · by_cases h832 : i < 832
        · by_cases h784 : i < 784
          · by_cases h768 : i < 768
            · exact allN_at (r752 e6 ) i (by omega) (by omega)
            · exact allN_at (r768 e6 ) i (by omega) (by omega)
          · by_cases h800 : i < 800
            · exact allN_at (r784 e6 ) i (by omega) (by omega)
            · by_cases h816 : i < 816
              · exact allN_at (r800 e6 ) i (by omega) (by omega)
              · exact allN_at (r816 e6 ) i (by omega) (by omega)
        · by_cases h880 : i < 880
          · by_cases h848 : i < 848
            · exact allN_at (r832 e6 ) i (by omega) (by omega)
            · by_cases h864 : i < 864
              · exact allN_at (r848 e6 ) i (by omega) (by omega)
              · exact allN_at (r864 e6 ) i (by omega) (by omega)
          · by_cases h896 : i < 896
            · exact allN_at (r880 e6 ) i (by omega) (by omega)
            · by_cases h912 : i < 912
              · exact allN_at (r896 e6 ) i (by omega) (by omega)
              · exact allN_at (r912 e6 ) i (by omega) (by omega)
      · by_cases h1024 : i < 1024
        · by_cases h976 : i < 976
          · by_cases h944 : i < 944
            · exact allN_at (r928 e6 ) i (by omega) (by omega)
            · by_cases h960 : i < 960
              · exact allN_at (r944 e6 ) i (by omega) (by omega)
              · exact allN_at (r960 e6 ) i (by omega) (by omega)
          · by_cases h992 : i < 992
            · exact allN_at (r976 e6 ) i (by omega) (by omega)
            · by_cases h1008 : i < 1008
              · exact allN_at (r992 e6 ) i (by omega) (by omega)
              · exact allN_at (r1008 e6 ) i (by omega) (by omega)
        · by_cases h1072 : i < 1072
          · by_cases h1040 : i < 1040
            · exact allN_at (r1024 e6 ) i (by omega) (by omega)
            · by_cases h1056 : i < 1056
              · exact allN_at (r1040 e6 ) i (by omega) (by omega)
              · exact allN_at (r1056 e6 ) i (by omega) (by omega)
          · by_cases h1088 : i < 1088
            · exact allN_at (r1072 e6 ) i (by omega) (by omega)
            · by_cases h1104 : i < 1104
              · exact allN_at (r1088 e6 ) i (by omega) (by omega)
              · exact allN_at (r1104 e6 ) i (by omega) (by omega)
    · by_cases h1312 : i < 1312
      · by_cases h1216 : i < 1216
        · by_cases h1168 : i < 1168
          · by_cases h1136 : i < 1136
            · exact allN_at (r1120 e6 ) i (by omega) (by omega)
            · by_cases h1152 : i < 1152
              · exact allN_at (r1136 e6 ) i (by omega) (by omega)
              · exact allN_at (r1152 e6 ) i (by omega) (by omega)
          · by_cases h1184 : i < 1184
            · exact allN_at (r1168 e6 ) i (by omega) (by omega)
            · by_cases h1200 : i < 1200
              · exact allN_at (r1184 e6 ) i (by omega) (by omega)
              · exact allN_at (r1200 e6 ) i (by omega) (by omega)
        · by_cases h1264 : i < 1264
          · by_cases h1232 : i < 1232
            · exact allN_at (r1216 e6 ) i (by omega) (by omega)
            · by_cases h1248 : i < 1248
              · exact allN_at (r1232 e6 ) i (by omega) (by omega)
              · exact allN_at (r1248 e6 ) i (by omega) (by omega)
          · by_cases h1280 : i < 1280
            · exact allN_at (r1264 e6 ) i (by omega) (by omega)
            · by_cases h1296 : i < 1296
              · exact allN_at (r1280 e6 ) i (by omega) (by omega)
              · exact allN_at (r1296 e6 ) i (by omega) (by omega)
      · by_cases h1408 : i < 1408
        · by_cases h1360 : i < 1360
          · by_cases h1328 : i < 1328
            · exact allN_at (r1312 e6 ) i (by omega) (by omega)
            · by_cases h1344 : i < 1344
              · exact allN_at (r1328 e6 ) i (by omega) (by omega)
              · exact allN_at (r1344 e6 ) i (by omega) (by omega)
          · by_cases h1376 : i < 1376
            · exact allN_at (r1360 e6 ) i (by omega) (by omega)
            · by_cases h1392 : i < 1392
              · exact allN_at (r1376 e6 ) i (by omega) (by omega)
              · exact allN_at (r1392 e6 ) i (by omega) (by omega)
        · by_cases h1456 : i < 1456
          · by_cases h1424 : i < 1424
            · exact allN_at (r1408 e6 ) i (by omega) (by omega)
            · by_cases h1440 : i < 1440
              · exact allN_at (r1424 e6 ) i (by omega) (by omega)
              · exact allN_at (r1440 e6 ) i (by omega) (by omega)
          · by_cases h1472 : i < 1472
            · exact allN_at (r1456 e6 ) i (by omega) (by omega)
            · by_cases h1488 : i < 1488
              · exact allN_at (r1472 e6 ) i (by omega) (by omega)
              · exact allN_at (r1488 e6 ) i (by omega) (by omega)
theorem runs (e6 : Nat) (c0 : Nat) (c1 : Nat) (h0 : c0 < 500) (h1 : c1 < 3) : run e6 c0 c1 = true := by
  have h := allRuns e6 ((c0 + 500 * c1)) (by omega)
  unfold runI at h
  have e0 : Nat.mod ((c0 + 500 * c1)) 500 = c0 := by show ((c0 + 500 * c1)) % 500 = c0; omega
  have d0 : Nat.div ((c0 + 500 * c1)) 500 = c1 := by show ((c0 + 500 * c1)) / 500 = c1; omega
  rw [e0, d0] at h
  have e1 : Nat.mod (c1) 3 = c1 := by show (c1) % 3 = c1; omega
  rw [e1] at h
  exact h
def nu (x0 : Nat) (x1 : Nat) : Nat → Value
  | 0 => .int .u16 (.ofNat x0)
  | 100 => .int .u8 (.ofNat x1)
  | _ => .bool true
theorem nu_one (x0 : Nat) (x1 : Nat) : ∀ i, (nu x0 x1 i).oneCell' = true := by
  intro i; unfold nu; split <;> rfl
theorem hyOk (x0 : Nat) (x1 : Nat) (c0 : Nat) (c1 : Nat) (hc0 : x0 % 500 = c0) (hx0 : x0 ≤ 65535) (hc1 : x1 % 3 = c1) (hx1 : x1 ≤ 255) : ∀ k r, (k, r) ∈ hy c0 c1 → HOk (cx (nu x0 x1) (nu_one x0 x1) 7 laidE laidE_stab) k r := by
  intro k r h
  simp only [hy, List.mem_cons, List.not_mem_nil, or_false, Prod.mk.injEq] at h
  rcases h with ⟨rfl, rfl⟩ | ⟨rfl, rfl⟩
  · exact hRemX (x := x0) rfl (by omega) hc0
  · exact hRemX (x := x1) rfl (by omega) hc1
theorem walk (a0 : Int) (a1 : Int) (w0 : (Lit.int .u16 a0).wf = true) (w1 : (Lit.int .u8 a1).wf = true) (w : World) (hl : laidE w) :
    Calls Tryd.prog 5 #[.int .u16 a0, .int .u8 a1] w fun e w' => e = .returned (.bool true) ∧ Go.AX.Below w.heap.size w w' := by
  obtain ⟨fi, hfi, hb⟩ : ∃ fi, tabk.fn.get 5 = some fi ∧ fi.body.isSome = true := ⟨_, rfl, by kernel_rfl⟩
  obtain ⟨x0, rfl, hx0⟩ := natOf (M := 65535) w0 rfl rfl
  obtain ⟨x1, rfl, hx1⟩ := natOf (M := 255) w1 rfl rfl
  have hall : AllOk (cx (nu x0 x1) (nu_one x0 x1) 7 laidE laidE_stab) (tabC (x0 % 500) (x1 % 3)) := (tabkOk (nu x0 x1) (nu_one x0 x1)).hyps (hyOk x0 x1 _ _ rfl hx0 rfl hx1)
  exact runD hall rfl hfi hb (fun e6 => runs e6 (x0 % 500) (x1 % 3) (Nat.mod_lt _ (by omega)) (Nat.mod_lt _ (by omega))) (args := [.int .u16 (.ofNat x0), .int .u8 (.ofNat x1)]) (by simp only [RelL, Rel]; exact ⟨_, _, rfl, rfl, ⟨_, _, rfl, rfl, rfl⟩⟩) w hl
end Go.Proofs.YticlhkekkfelpaaDoor.chunkLimits
