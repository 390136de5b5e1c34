/- A part of the proof: an interpreter of the model's own code on partly known states, and that what it answers is what the program answers. No condition of its own. -/
import Derived.Test.YtlemmcoefpcpmaaDoorA1ReplyHeadsR0
import Derived.Test.YtlemmcoefpcpmaaDoorA1ReplyHeadsR1
import Derived.Test.YtlemmcoefpcpmaaDoorA1ReplyHeadsR2
import Derived.Test.YtlemmcoefpcpmaaDoorA1ReplyHeadsR3
set_option maxRecDepth 100000
set_option linter.unusedVariables false
namespace Go.Proofs.YtlemmcoefpcpmaaDoor.replyHeads
open Go Go.AX Go.Proofs Go.Proofs.YtlemmcoefpcpmaaDoor
theorem allRuns (e4 : Nat) (e6 : Nat) : ∀ i, i < 1024 → runI e4 e6 i = true := by
  intro i hi
  by_cases h510 : i < 510
  · by_cases h255 : i < 255
    · by_cases h119 : i < 119
      · by_cases h51 : i < 51
        · by_cases h17 : i < 17
          · exact allN_at (r0 e4 e6 ) i (by omega) (by omega)
          · by_cases h34 : i < 34
            · exact allN_at (r17 e4 e6 ) i (by omega) (by omega)
            · exact allN_at (r34 e4 e6 ) i (by omega) (by omega)
        · by_cases h85 : i < 85
          · by_cases h68 : i < 68
            · exact allN_at (r51 e4 e6 ) i (by omega) (by omega)
            · exact allN_at (r68 e4 e6 ) i (by omega) (by omega)
          · by_cases h102 : i < 102
            · exact allN_at (r85 e4 e6 ) i (by omega) (by omega)
            · exact allN_at (r102 e4 e6 ) i (by omega) (by omega)
      · by_cases h187 : i < 187
        · by_cases h153 : i < 153
          · by_cases h136 : i < 136
            · exact allN_at (r119 e4 e6 ) i (by omega) (by omega)
            · exact allN_at (r136 e4 e6 ) i (by omega) (by omega)
          · by_cases h170 : i < 170
            · exact allN_at (r153 e4 e6 ) i (by omega) (by omega)
            · exact allN_at (r170 e4 e6 ) i (by omega) (by omega)
        · by_cases h221 : i < 221
          · by_cases h204 : i < 204
            · exact allN_at (r187 e4 e6 ) i (by omega) (by omega)
            · exact allN_at (r204 e4 e6 ) i (by omega) (by omega)
          · by_cases h238 : i < 238
            · exact allN_at (r221 e4 e6 ) i (by omega) (by omega)
            · exact allN_at (r238 e4 e6 ) i (by omega) (by omega)
    · by_cases h374 : i < 374
      · by_cases h306 : i < 306
        · by_cases h272 : i < 272
          · exact allN_at (r255 e4 e6 ) i (by omega) (by omega)
          · by_cases h289 : i < 289
            · exact allN_at (r272 e4 e6 ) i (by omega) (by omega)
            · exact allN_at (r289 e4 e6 ) i (by omega) (by omega)
        · by_cases h340 : i < 340
          · by_cases h323 : i < 323
            · exact allN_at (r306 e4 e6 ) i (by omega) (by omega)
            · exact allN_at (r323 e4 e6 ) i (by omega) (by omega)
          · by_cases h357 : i < 357
            · exact allN_at (r340 e4 e6 ) i (by omega) (by omega)
            · exact allN_at (r357 e4 e6 ) i (by omega) (by omega)
      · by_cases h442 : i < 442
        · by_cases h408 : i < 408
          · by_cases h391 : i < 391
            · exact allN_at (r374 e4 e6 ) i (by omega) (by omega)
            · exact allN_at (r391 e4 e6 ) i (by omega) (by omega)
          · by_cases h425 : i < 425
            · exact allN_at (r408 e4 e6 ) i (by omega) (by omega)
            · exact allN_at (r425 e4 e6 ) i (by omega) (by omega)
        · by_cases h476 : i < 476
          · by_cases h459 : i < 459
            · exact allN_at (r442 e4 e6 ) i (by omega) (by omega)
            · exact allN_at (r459 e4 e6 ) i (by omega) (by omega)
          · by_cases h493 : i < 493
            · exact allN_at (r476 e4 e6 ) i (by omega) (by omega)
            · exact allN_at (r493 e4 e6 ) i (by omega) (by omega)
  · by_cases h765 : i < 765
    · by_cases h629 : i < 629
      · by_cases h561 : i < 561
        · by_cases h527 : i < 527
          · exact allN_at (r510 e4 e6 ) i (by omega) (by omega)
          · by_cases h544 : i < 544
            · exact allN_at (r527 e4 e6 ) i (by omega) (by omega)
            · exact allN_at (r544 e4 e6 ) i (by omega) (by omega)
        · by_cases h595 : i < 595
          · by_cases h578 : i < 578
            · exact allN_at (r561 e4 e6 ) i (by omega) (by omega)
            · exact allN_at (r578 e4 e6 ) i (by omega) (by omega)
          · by_cases h612 : i < 612
            · exact allN_at (r595 e4 e6 ) i (by omega) (by omega)
            · exact allN_at (r612 e4 e6 ) i (by omega) (by omega)
      · by_cases h697 : i < 697
        · by_cases h663 : i < 663
          · by_cases h646 : i < 646
            · exact allN_at (r629 e4 e6 ) i (by omega) (by omega)
            · exact allN_at (r646 e4 e6 ) i (by omega) (by omega)
          · by_cases h680 : i < 680
            · exact allN_at (r663 e4 e6 ) i (by omega) (by omega)
            · exact allN_at (r680 e4 e6 ) i (by omega) (by omega)
        · by_cases h731 : i < 731
          · by_cases h714 : i < 714
            · exact allN_at (r697 e4 e6 ) i (by omega) (by omega)
            · exact allN_at (r714 e4 e6 ) i (by omega) (by omega)
          · by_cases h748 : i < 748
            · exact allN_at (r731 e4 e6 ) i (by omega) (by omega)
            · exact allN_at (r748 e4 e6 ) i (by omega) (by omega)
    · by_cases h901 : i < 901
      · by_cases h833 : i < 833
        · by_cases h799 : i < 799
          · by_cases h782 : i < 782
            · exact allN_at (r765 e4 e6 ) i (by omega) (by omega)
            · exact allN_at (r782 e4 e6 ) i (by omega) (by omega)
          · by_cases h816 : i < 816
            · exact allN_at (r799 e4 e6 ) i (by omega) (by omega)
            · exact allN_at (r816 e4 e6 ) i (by omega) (by omega)
        · by_cases h867 : i < 867
          · by_cases h850 : i < 850
            · exact allN_at (r833 e4 e6 ) i (by omega) (by omega)
            · exact allN_at (r850 e4 e6 ) i (by omega) (by omega)
          · by_cases h884 : i < 884
            · exact allN_at (r867 e4 e6 ) i (by omega) (by omega)
            · exact allN_at (r884 e4 e6 ) i (by omega) (by omega)
      · by_cases h969 : i < 969
        · by_cases h935 : i < 935
          · by_cases h918 : i < 918
            · exact allN_at (r901 e4 e6 ) i (by omega) (by omega)
            · exact allN_at (r918 e4 e6 ) i (by omega) (by omega)
          · by_cases h952 : i < 952
            · exact allN_at (r935 e4 e6 ) i (by omega) (by omega)
            · exact allN_at (r952 e4 e6 ) i (by omega) (by omega)
        · by_cases h1003 : i < 1003
          · by_cases h986 : i < 986
            · exact allN_at (r969 e4 e6 ) i (by omega) (by omega)
            · exact allN_at (r986 e4 e6 ) i (by omega) (by omega)
          · by_cases h1020 : i < 1020
            · exact allN_at (r1003 e4 e6 ) i (by omega) (by omega)
            · exact allN_at (r1020 e4 e6 ) i (by omega) (by omega)
theorem runs (e4 : Nat) (e6 : Nat) (c0 : Nat) (b1 : Bool) (b2 : Bool) (h0 : c0 < 256) : run e4 e6 c0 b1 b2 = true := by
  have hb1 := nOf_lt b1
  have hb2 := nOf_lt b2
  have h := allRuns e4 e6 ((c0 + 256 * (nOf b1 + 2 * nOf b2))) (by omega)
  unfold runI at h
  have e0 : Nat.mod ((c0 + 256 * (nOf b1 + 2 * nOf b2))) 256 = c0 := by show ((c0 + 256 * (nOf b1 + 2 * nOf b2))) % 256 = c0; omega
  have d0 : Nat.div ((c0 + 256 * (nOf b1 + 2 * nOf b2))) 256 = (nOf b1 + 2 * nOf b2) := by show ((c0 + 256 * (nOf b1 + 2 * nOf b2))) / 256 = (nOf b1 + 2 * nOf b2); omega
  rw [e0, d0] at h
  have e1 : Nat.mod ((nOf b1 + 2 * nOf b2)) 2 = nOf b1 := by show ((nOf b1 + 2 * nOf b2)) % 2 = nOf b1; omega
  have d1 : Nat.div ((nOf b1 + 2 * nOf b2)) 2 = nOf b2 := by show ((nOf b1 + 2 * nOf b2)) / 2 = nOf b2; omega
  rw [e1, d1, bOf_nOf] at h
  have e2 : Nat.mod (nOf b2) 2 = nOf b2 := by show (nOf b2) % 2 = nOf b2; omega
  rw [e2, bOf_nOf] at h
  exact h
def nu (x0 : Nat) : Nat → Value
  | 0 => .int .u16 (.ofNat x0)
  | 1 => .int .u16 (.ofNat (x0 >>> 0))
  | 2 => .int .u16 (.ofNat (x0 >>> 1))
  | 3 => .int .u16 (.ofNat (x0 >>> 2))
  | 4 => .int .u16 (.ofNat (x0 >>> 3))
  | 5 => .int .u16 (.ofNat (x0 >>> 4))
  | 6 => .int .u16 (.ofNat (x0 >>> 5))
  | 7 => .int .u16 (.ofNat (x0 >>> 6))
  | 8 => .int .u16 (.ofNat (x0 >>> 7))
  | _ => .bool true
theorem nu_one (x0 : Nat) : ∀ i, (nu x0 i).oneCell' = true := by
  intro i; unfold nu; split <;> rfl
theorem hyOk (x0 : Nat) (c0 : Nat) (hc0 : x0 % 256 = c0) (hx0 : x0 ≤ 65535) : ∀ k r, (k, r) ∈ hy c0 → HOk (cx (nu x0) (nu_one x0) 7 laidE laidE_stab) k r := by
  intro k r h
  simp only [hy, List.mem_cons, List.not_mem_nil, or_false, Prod.mk.injEq] at h
  rcases h with ⟨rfl, rfl⟩ | ⟨rfl, rfl⟩ | ⟨rfl, rfl⟩ | ⟨rfl, rfl⟩ | ⟨rfl, rfl⟩ | ⟨rfl, rfl⟩ | ⟨rfl, rfl⟩ | ⟨rfl, rfl⟩ | ⟨rfl, rfl⟩ | ⟨rfl, rfl⟩ | ⟨rfl, rfl⟩ | ⟨rfl, rfl⟩ | ⟨rfl, rfl⟩ | ⟨rfl, rfl⟩ | ⟨rfl, rfl⟩ | ⟨rfl, rfl⟩
  · exact hShrX rfl (by decide) rfl
  · exact hAndX (x := x0 >>> 0) rfl (fitsShr hx0 0) rfl (fitsBit _) (bitOf hc0 0 (by omega))
  · exact hShrX rfl (by decide) rfl
  · exact hAndX (x := x0 >>> 1) rfl (fitsShr hx0 1) rfl (fitsBit _) (bitOf hc0 1 (by omega))
  · exact hShrX rfl (by decide) rfl
  · exact hAndX (x := x0 >>> 2) rfl (fitsShr hx0 2) rfl (fitsBit _) (bitOf hc0 2 (by omega))
  · exact hShrX rfl (by decide) rfl
  · exact hAndX (x := x0 >>> 3) rfl (fitsShr hx0 3) rfl (fitsBit _) (bitOf hc0 3 (by omega))
  · exact hShrX rfl (by decide) rfl
  · exact hAndX (x := x0 >>> 4) rfl (fitsShr hx0 4) rfl (fitsBit _) (bitOf hc0 4 (by omega))
  · exact hShrX rfl (by decide) rfl
  · exact hAndX (x := x0 >>> 5) rfl (fitsShr hx0 5) rfl (fitsBit _) (bitOf hc0 5 (by omega))
  · exact hShrX rfl (by decide) rfl
  · exact hAndX (x := x0 >>> 6) rfl (fitsShr hx0 6) rfl (fitsBit _) (bitOf hc0 6 (by omega))
  · exact hShrX rfl (by decide) rfl
  · exact hAndX (x := x0 >>> 7) rfl (fitsShr hx0 7) rfl (fitsBit _) (bitOf hc0 7 (by omega))
theorem walk (a0 : Int) (a1 : Bool) (a2 : Bool) (w0 : (Lit.int .u16 a0).wf = true) (w : World) (hl : laidE w) :
    Calls Tryd.prog 7 #[.int .u16 a0, .bool a1, .bool a2] w fun e w' => e = .returned (.bool true) ∧ Go.AX.Below w.heap.size w w' := by
  obtain ⟨fi, hfi, hb⟩ : ∃ fi, tabk.fn.get 7 = some fi ∧ fi.body.isSome = true := ⟨_, rfl, by kernel_rfl⟩
  obtain ⟨x0, rfl, hx0⟩ := natOf (M := 65535) w0 rfl rfl
  have hall : AllOk (cx (nu x0) (nu_one x0) 7 laidE laidE_stab) (tabC (x0 % 256)) := (tabkOk (nu x0) (nu_one x0)).hyps (hyOk x0 _ rfl hx0)
  exact runD hall rfl hfi hb (fun e4 e6 => runs e4 e6 (x0 % 256) a1 a2 (Nat.mod_lt _ (by omega))) (args := [.int .u16 (.ofNat x0), .bool a1, .bool a2]) (by simp only [RelL, Rel]; exact ⟨_, _, rfl, rfl, ⟨_, _, rfl, rfl, ⟨_, _, rfl, rfl, rfl⟩⟩⟩) w hl
end Go.Proofs.YtlemmcoefpcpmaaDoor.replyHeads
