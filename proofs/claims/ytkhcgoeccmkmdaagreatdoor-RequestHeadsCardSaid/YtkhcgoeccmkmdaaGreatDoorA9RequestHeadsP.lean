/- A part of the proof: an interpreter of the model's own code on partly known states, and that what it answers is what the program answers. No condition of its own. -/
import Derived.Test.YtkhcgoeccmkmdaaGreatDoorA9RequestHeadsR0
import Derived.Test.YtkhcgoeccmkmdaaGreatDoorA9RequestHeadsR1
import Derived.Test.YtkhcgoeccmkmdaaGreatDoorA9RequestHeadsR2
import Derived.Test.YtkhcgoeccmkmdaaGreatDoorA9RequestHeadsR3
import Derived.Test.YtkhcgoeccmkmdaaGreatDoorA9RequestHeadsR4
import Derived.Test.YtkhcgoeccmkmdaaGreatDoorA9RequestHeadsR5
import Derived.Test.YtkhcgoeccmkmdaaGreatDoorA9RequestHeadsR6
import Derived.Test.YtkhcgoeccmkmdaaGreatDoorA9RequestHeadsR7
import Derived.Test.YtkhcgoeccmkmdaaGreatDoorA9RequestHeadsR8
import Derived.Test.YtkhcgoeccmkmdaaGreatDoorA9RequestHeadsR9
import Derived.Test.YtkhcgoeccmkmdaaGreatDoorA9RequestHeadsR10
import Derived.Test.YtkhcgoeccmkmdaaGreatDoorA9RequestHeadsR11
import Derived.Test.YtkhcgoeccmkmdaaGreatDoorA9RequestHeadsR12
import Derived.Test.YtkhcgoeccmkmdaaGreatDoorA9RequestHeadsR13
import Derived.Test.YtkhcgoeccmkmdaaGreatDoorA9RequestHeadsR14
import Derived.Test.YtkhcgoeccmkmdaaGreatDoorA9RequestHeadsR15
import Derived.Test.YtkhcgoeccmkmdaaGreatDoorA9RequestHeadsR16
import Derived.Test.YtkhcgoeccmkmdaaGreatDoorA9RequestHeadsR17
import Derived.Test.YtkhcgoeccmkmdaaGreatDoorA9RequestHeadsR18
import Derived.Test.YtkhcgoeccmkmdaaGreatDoorA9RequestHeadsR19
import Derived.Test.YtkhcgoeccmkmdaaGreatDoorA9RequestHeadsR20
import Derived.Test.YtkhcgoeccmkmdaaGreatDoorA9RequestHeadsR21
import Derived.Test.YtkhcgoeccmkmdaaGreatDoorA9RequestHeadsR22
import Derived.Test.YtkhcgoeccmkmdaaGreatDoorA9RequestHeadsR23
import Derived.Test.YtkhcgoeccmkmdaaGreatDoorA9RequestHeadsR24
import Derived.Test.YtkhcgoeccmkmdaaGreatDoorA9RequestHeadsR25
import Derived.Test.YtkhcgoeccmkmdaaGreatDoorA9RequestHeadsR26
import Derived.Test.YtkhcgoeccmkmdaaGreatDoorA9RequestHeadsR27
import Derived.Test.YtkhcgoeccmkmdaaGreatDoorA9RequestHeadsR28
import Derived.Test.YtkhcgoeccmkmdaaGreatDoorA9RequestHeadsR29
import Derived.Test.YtkhcgoeccmkmdaaGreatDoorA9RequestHeadsR30
import Derived.Test.YtkhcgoeccmkmdaaGreatDoorA9RequestHeadsR31
import Derived.Test.YtkhcgoeccmkmdaaGreatDoorA9RequestHeadsR32
import Derived.Test.YtkhcgoeccmkmdaaGreatDoorA9RequestHeadsR33
import Derived.Test.YtkhcgoeccmkmdaaGreatDoorA9RequestHeadsR34
import Derived.Test.YtkhcgoeccmkmdaaGreatDoorA9RequestHeadsR35
import Derived.Test.YtkhcgoeccmkmdaaGreatDoorA9RequestHeadsR36
import Derived.Test.YtkhcgoeccmkmdaaGreatDoorA9RequestHeadsR37
import Derived.Test.YtkhcgoeccmkmdaaGreatDoorA9RequestHeadsR38
import Derived.Test.YtkhcgoeccmkmdaaGreatDoorA9RequestHeadsR39
set_option maxRecDepth 100000
set_option linter.unusedVariables false
namespace Go.Proofs.YtkhcgoeccmkmdaaGreatDoor.requestHeads
open Go Go.AX Go.Proofs Go.Proofs.YtkhcgoeccmkmdaaGreatDoor
theorem allRuns : ∀ i, i < 120 → runI i = true := by
  intro i hi
  by_cases h60 : i < 60
  · by_cases h30 : i < 30
    · by_cases h15 : i < 15
      · by_cases h7 : i < 7
        · by_cases h3 : i < 3
          · by_cases h1 : i < 1
            · exact allN_at (r0 ) i (by omega) (by omega)
            · by_cases h2 : i < 2
              · exact allN_at (r1 ) i (by omega) (by omega)
              · exact allN_at (r2 ) i (by omega) (by omega)
          · by_cases h5 : i < 5
            · by_cases h4 : i < 4
              · exact allN_at (r3 ) i (by omega) (by omega)
              · exact allN_at (r4 ) i (by omega) (by omega)
            · by_cases h6 : i < 6
              · exact allN_at (r5 ) i (by omega) (by omega)
              · exact allN_at (r6 ) i (by omega) (by omega)
        · by_cases h11 : i < 11
          · by_cases h9 : i < 9
            · by_cases h8 : i < 8
              · exact allN_at (r7 ) i (by omega) (by omega)
              · exact allN_at (r8 ) i (by omega) (by omega)
            · by_cases h10 : i < 10
              · exact allN_at (r9 ) i (by omega) (by omega)
              · exact allN_at (r10 ) i (by omega) (by omega)
          · by_cases h13 : i < 13
            · by_cases h12 : i < 12
              · exact allN_at (r11 ) i (by omega) (by omega)
              · exact allN_at (r12 ) i (by omega) (by omega)
            · by_cases h14 : i < 14
              · exact allN_at (r13 ) i (by omega) (by omega)
              · exact allN_at (r14 ) i (by omega) (by omega)
      · by_cases h22 : i < 22
        · by_cases h18 : i < 18
          · by_cases h16 : i < 16
            · exact allN_at (r15 ) i (by omega) (by omega)
            · by_cases h17 : i < 17
              · exact allN_at (r16 ) i (by omega) (by omega)
              · exact allN_at (r17 ) i (by omega) (by omega)
          · by_cases h20 : i < 20
            · by_cases h19 : i < 19
              · exact allN_at (r18 ) i (by omega) (by omega)
              · exact allN_at (r19 ) i (by omega) (by omega)
            · by_cases h21 : i < 21
              · exact allN_at (r20 ) i (by omega) (by omega)
              · exact allN_at (r21 ) i (by omega) (by omega)
        · by_cases h26 : i < 26
          · by_cases h24 : i < 24
            · by_cases h23 : i < 23
              · exact allN_at (r22 ) i (by omega) (by omega)
              · exact allN_at (r23 ) i (by omega) (by omega)
            · by_cases h25 : i < 25
              · exact allN_at (r24 ) i (by omega) (by omega)
              · exact allN_at (r25 ) i (by omega) (by omega)
          · by_cases h28 : i < 28
            · by_cases h27 : i < 27
              · exact allN_at (r26 ) i (by omega) (by omega)
              · exact allN_at (r27 ) i (by omega) (by omega)
            · by_cases h29 : i < 29
              · exact allN_at (r28 ) i (by omega) (by omega)
              · exact allN_at (r29 ) i (by omega) (by omega)
    · by_cases h45 : i < 45
      · by_cases h37 : i < 37
        · by_cases h33 : i < 33
          · by_cases h31 : i < 31
            · exact allN_at (r30 ) i (by omega) (by omega)
            · by_cases h32 : i < 32
              · exact allN_at (r31 ) i (by omega) (by omega)
              · exact allN_at (r32 ) i (by omega) (by omega)
          · by_cases h35 : i < 35
            · by_cases h34 : i < 34
              · exact allN_at (r33 ) i (by omega) (by omega)
              · exact allN_at (r34 ) i (by omega) (by omega)
            · by_cases h36 : i < 36
              · exact allN_at (r35 ) i (by omega) (by omega)
              · exact allN_at (r36 ) i (by omega) (by omega)
        · by_cases h41 : i < 41
          · by_cases h39 : i < 39
            · by_cases h38 : i < 38
              · exact allN_at (r37 ) i (by omega) (by omega)
              · exact allN_at (r38 ) i (by omega) (by omega)
            · by_cases h40 : i < 40
              · exact allN_at (r39 ) i (by omega) (by omega)
              · exact allN_at (r40 ) i (by omega) (by omega)
          · by_cases h43 : i < 43
            · by_cases h42 : i < 42
              · exact allN_at (r41 ) i (by omega) (by omega)
              · exact allN_at (r42 ) i (by omega) (by omega)
            · by_cases h44 : i < 44
              · exact allN_at (r43 ) i (by omega) (by omega)
              · exact allN_at (r44 ) i (by omega) (by omega)
      · by_cases h52 : i < 52
        · by_cases h48 : i < 48
          · by_cases h46 : i < 46
            · exact allN_at (r45 ) i (by omega) (by omega)
            · by_cases h47 : i < 47
              · exact allN_at (r46 ) i (by omega) (by omega)
              · exact allN_at (r47 ) i (by omega) (by omega)
          · by_cases h50 : i < 50
            · by_cases h49 : i < 49
              · exact allN_at (r48 ) i (by omega) (by omega)
              · exact allN_at (r49 ) i (by omega) (by omega)
            · by_cases h51 : i < 51
              · exact allN_at (r50 ) i (by omega) (by omega)
              · exact allN_at (r51 ) i (by omega) (by omega)
        · by_cases h56 : i < 56
          · by_cases h54 : i < 54
            · by_cases h53 : i < 53
              · exact allN_at (r52 ) i (by omega) (by omega)
              · exact allN_at (r53 ) i (by omega) (by omega)
            · by_cases h55 : i < 55
              · exact allN_at (r54 ) i (by omega) (by omega)
              · exact allN_at (r55 ) i (by omega) (by omega)
          · by_cases h58 : i < 58
            · by_cases h57 : i < 57
              · exact allN_at (r56 ) i (by omega) (by omega)
              · exact allN_at (r57 ) i (by omega) (by omega)
            · by_cases h59 : i < 59
              · exact allN_at (r58 ) i (by omega) (by omega)
              · exact allN_at (r59 ) i (by omega) (by omega)
  · by_cases h90 : i < 90
    · by_cases h75 : i < 75
      · by_cases h67 : i < 67
        · by_cases h63 : i < 63
          · by_cases h61 : i < 61
            · exact allN_at (r60 ) i (by omega) (by omega)
            · by_cases h62 : i < 62
              · exact allN_at (r61 ) i (by omega) (by omega)
              · exact allN_at (r62 ) i (by omega) (by omega)
          · by_cases h65 : i < 65
            · by_cases h64 : i < 64
              · exact allN_at (r63 ) i (by omega) (by omega)
              · exact allN_at (r64 ) i (by omega) (by omega)
            · by_cases h66 : i < 66
              · exact allN_at (r65 ) i (by omega) (by omega)
              · exact allN_at (r66 ) i (by omega) (by omega)
        · by_cases h71 : i < 71
          · by_cases h69 : i < 69
            · by_cases h68 : i < 68
              · exact allN_at (r67 ) i (by omega) (by omega)
              · exact allN_at (r68 ) i (by omega) (by omega)
            · by_cases h70 : i < 70
              · exact allN_at (r69 ) i (by omega) (by omega)
              · exact allN_at (r70 ) i (by omega) (by omega)
          · by_cases h73 : i < 73
            · by_cases h72 : i < 72
              · exact allN_at (r71 ) i (by omega) (by omega)
              · exact allN_at (r72 ) i (by omega) (by omega)
            · by_cases h74 : i < 74
              · exact allN_at (r73 ) i (by omega) (by omega)
              · exact allN_at (r74 ) i (by omega) (by omega)
      · by_cases h82 : i < 82
        · by_cases h78 : i < 78
          · by_cases h76 : i < 76
            · exact allN_at (r75 ) i (by omega) (by omega)
            · by_cases h77 : i < 77
              · exact allN_at (r76 ) i (by omega) (by omega)
              · exact allN_at (r77 ) i (by omega) (by omega)
          · by_cases h80 : i < 80
            · by_cases h79 : i < 79
              · exact allN_at (r78 ) i (by omega) (by omega)
              · exact allN_at (r79 ) i (by omega) (by omega)
            · by_cases h81 : i < 81
              · exact allN_at (r80 ) i (by omega) (by omega)
              · exact allN_at (r81 ) i (by omega) (by omega)
        · by_cases h86 : i < 86
          · by_cases h84 : i < 84
            · by_cases h83 : i < 83
              · exact allN_at (r82 ) i (by omega) (by omega)
              · exact allN_at (r83 ) i (by omega) (by omega)
            · by_cases h85 : i < 85
              · exact allN_at (r84 ) i (by omega) (by omega)
              · exact allN_at (r85 ) i (by omega) (by omega)
          · by_cases h88 : i < 88
            · by_cases h87 : i < 87
              · exact allN_at (r86 ) i (by omega) (by omega)
              · exact allN_at (r87 ) i (by omega) (by omega)
            · by_cases h89 : i < 89
              · exact allN_at (r88 ) i (by omega) (by omega)
              · exact allN_at (r89 ) i (by omega) (by omega)
    · by_cases h105 : i < 105
      · by_cases h97 : i < 97
        · by_cases h93 : i < 93
          · by_cases h91 : i < 91
            · exact allN_at (r90 ) i (by omega) (by omega)
            · by_cases h92 : i < 92
              · exact allN_at (r91 ) i (by omega) (by omega)
              · exact allN_at (r92 ) i (by omega) (by omega)
          · by_cases h95 : i < 95
            · by_cases h94 : i < 94
              · exact allN_at (r93 ) i (by omega) (by omega)
              · exact allN_at (r94 ) i (by omega) (by omega)
            · by_cases h96 : i < 96
              · exact allN_at (r95 ) i (by omega) (by omega)
              · exact allN_at (r96 ) i (by omega) (by omega)
        · by_cases h101 : i < 101
          · by_cases h99 : i < 99
            · by_cases h98 : i < 98
              · exact allN_at (r97 ) i (by omega) (by omega)
              · exact allN_at (r98 ) i (by omega) (by omega)
            · by_cases h100 : i < 100
              · exact allN_at (r99 ) i (by omega) (by omega)
              · exact allN_at (r100 ) i (by omega) (by omega)
          · by_cases h103 : i < 103
            · by_cases h102 : i < 102
              · exact allN_at (r101 ) i (by omega) (by omega)
              · exact allN_at (r102 ) i (by omega) (by omega)
            · by_cases h104 : i < 104
              · exact allN_at (r103 ) i (by omega) (by omega)
              · exact allN_at (r104 ) i (by omega) (by omega)
      · by_cases h112 : i < 112
        · by_cases h108 : i < 108
          · by_cases h106 : i < 106
            · exact allN_at (r105 ) i (by omega) (by omega)
            · by_cases h107 : i < 107
              · exact allN_at (r106 ) i (by omega) (by omega)
              · exact allN_at (r107 ) i (by omega) (by omega)
          · by_cases h110 : i < 110
            · by_cases h109 : i < 109
              · exact allN_at (r108 ) i (by omega) (by omega)
              · exact allN_at (r109 ) i (by omega) (by omega)
            · by_cases h111 : i < 111
              · exact allN_at (r110 ) i (by omega) (by omega)
              · exact allN_at (r111 ) i (by omega) (by omega)
        · by_cases h116 : i < 116
          · by_cases h114 : i < 114
            · by_cases h113 : i < 113
              · exact allN_at (r112 ) i (by omega) (by omega)
              · exact allN_at (r113 ) i (by omega) (by omega)
            · by_cases h115 : i < 115
              · exact allN_at (r114 ) i (by omega) (by omega)
              · exact allN_at (r115 ) i (by omega) (by omega)
          · by_cases h118 : i < 118
            · by_cases h117 : i < 117
              · exact allN_at (r116 ) i (by omega) (by omega)
              · exact allN_at (r117 ) i (by omega) (by omega)
            · by_cases h119 : i < 119
              · exact allN_at (r118 ) i (by omega) (by omega)
              · exact allN_at (r119 ) i (by omega) (by omega)
theorem runs (c0 : Nat) (b1 : Bool) (b2 : Bool) (h0 : c0 < 30) : run c0 b1 b2 = true := by
  have hb1 := nOf_lt b1
  have hb2 := nOf_lt b2
  have h := allRuns ((c0 + 30 * (nOf b1 + 2 * nOf b2))) (by omega)
  unfold runI at h
  have e0 : Nat.mod ((c0 + 30 * (nOf b1 + 2 * nOf b2))) 30 = c0 := by show ((c0 + 30 * (nOf b1 + 2 * nOf b2))) % 30 = c0; omega
  have d0 : Nat.div ((c0 + 30 * (nOf b1 + 2 * nOf b2))) 30 = (nOf b1 + 2 * nOf b2) := by show ((c0 + 30 * (nOf b1 + 2 * nOf b2))) / 30 = (nOf b1 + 2 * nOf b2); omega
  rw [e0, d0] at h
  have e1 : Nat.mod ((nOf b1 + 2 * nOf b2)) 2 = nOf b1 := by show ((nOf b1 + 2 * nOf b2)) % 2 = nOf b1; omega
  have d1 : Nat.div ((nOf b1 + 2 * nOf b2)) 2 = nOf b2 := by show ((nOf b1 + 2 * nOf b2)) / 2 = nOf b2; omega
  rw [e1, d1, bOf_nOf] at h
  have e2 : Nat.mod (nOf b2) 2 = nOf b2 := by show (nOf b2) % 2 = nOf b2; omega
  rw [e2, bOf_nOf] at h
  exact h
def nu (x0 : Nat) : Nat → Value
  | 0 => .int .u8 (.ofNat x0)
  | _ => .bool true
theorem nu_one (x0 : Nat) : ∀ i, (nu x0 i).oneCell' = true := by
  intro i; unfold nu; split <;> rfl
theorem hyOk (x0 : Nat) (c0 : Nat) (hc0 : x0 % 30 = c0) (hx0 : x0 ≤ 255) : ∀ k r, (k, r) ∈ hy c0 → HOk (cx (nu x0) (nu_one x0) 0 laidE laidE_stab) k r := by
  intro k r h
  simp only [hy, List.mem_cons, List.not_mem_nil, or_false, Prod.mk.injEq] at h
  obtain ⟨rfl, rfl⟩ := h
  exact hRemX (x := x0) rfl (by omega) hc0
theorem walk (a0 : Int) (a1 : Bool) (a2 : Bool) (w0 : (Lit.int .u8 a0).wf = true) (w : World) (hl : laidE w) :
    Calls Tryz.prog 3 #[.int .u8 a0, .bool a1, .bool a2] w fun e w' => e = .returned (.bool true) ∧ Go.AX.Below w.heap.size w w' := by
  obtain ⟨fi, hfi, hb⟩ : ∃ fi, tabk.fn.get 3 = some fi ∧ fi.body.isSome = true := ⟨_, rfl, by kernel_rfl⟩
  obtain ⟨x0, rfl, hx0⟩ := natOf (M := 255) w0 rfl rfl
  have hall : AllOk (cx (nu x0) (nu_one x0) 0 laidE laidE_stab) (tabC (x0 % 30)) := (tabkOk (nu x0) (nu_one x0)).hyps (hyOk x0 _ rfl hx0)
  exact runD hall rfl hfi hb (runs (x0 % 30) a1 a2 (Nat.mod_lt _ (by omega))) (args := [.int .u8 (.ofNat x0), .bool a1, .bool a2]) (by simp only [RelL, Rel]; exact ⟨_, _, rfl, rfl, ⟨_, _, rfl, rfl, ⟨_, _, rfl, rfl, rfl⟩⟩⟩) w hl
end Go.Proofs.YtkhcgoeccmkmdaaGreatDoor.requestHeads
