/- A part of the proof: an interpreter of the model's own code on partly known states, and that what it answers is what the program answers. No condition of its own. -/
import Derived.Test.YticlhkekkfelpaaGreatDoorA8ClientContinuesR0
import Derived.Test.YticlhkekkfelpaaGreatDoorA8ClientContinuesR1
import Derived.Test.YticlhkekkfelpaaGreatDoorA8ClientContinuesR2
import Derived.Test.YticlhkekkfelpaaGreatDoorA8ClientContinuesR3
import Derived.Test.YticlhkekkfelpaaGreatDoorA8ClientContinuesR4
import Derived.Test.YticlhkekkfelpaaGreatDoorA8ClientContinuesR5
import Derived.Test.YticlhkekkfelpaaGreatDoorA8ClientContinuesR6
import Derived.Test.YticlhkekkfelpaaGreatDoorA8ClientContinuesR7
import Derived.Test.YticlhkekkfelpaaGreatDoorA8ClientContinuesR8
import Derived.Test.YticlhkekkfelpaaGreatDoorA8ClientContinuesR9
import Derived.Test.YticlhkekkfelpaaGreatDoorA8ClientContinuesR10
import Derived.Test.YticlhkekkfelpaaGreatDoorA8ClientContinuesR11
set_option maxRecDepth 100000
set_option linter.unusedVariables false
namespace Go.Proofs.YticlhkekkfelpaaGreatDoor.clientContinues
open Go Go.AX Go.Proofs Go.Proofs.YticlhkekkfelpaaGreatDoor
theorem allRuns : ∀ i, i < 204 → runI i = true := by
  intro i hi
  by_cases h102 : i < 102
  · by_cases h51 : i < 51
    · by_cases h25 : i < 25
      · by_cases h12 : i < 12
        · by_cases h6 : i < 6
          · by_cases h3 : i < 3
            · by_cases h1 : i < 1
              · exact allN_at (r0 ) i (by omega) (by omega)
              · by_cases h2 : i < 2
                · exact allN_at (r1 ) i (by omega) (by omega)
                · exact allN_at (r2 ) i (by omega) (by omega)
            · by_cases h4 : i < 4
              · exact allN_at (r3 ) i (by omega) (by omega)
              · by_cases h5 : i < 5
                · exact allN_at (r4 ) i (by omega) (by omega)
                · exact allN_at (r5 ) i (by omega) (by omega)
          · by_cases h9 : i < 9
            · by_cases h7 : i < 7
              · exact allN_at (r6 ) i (by omega) (by omega)
              · by_cases h8 : i < 8
                · exact allN_at (r7 ) i (by omega) (by omega)
                · exact allN_at (r8 ) i (by omega) (by omega)
            · by_cases h10 : i < 10
              · exact allN_at (r9 ) i (by omega) (by omega)
              · by_cases h11 : i < 11
                · exact allN_at (r10 ) i (by omega) (by omega)
                · exact allN_at (r11 ) i (by omega) (by omega)
        · by_cases h18 : i < 18
          · by_cases h15 : i < 15
            · by_cases h13 : i < 13
              · exact allN_at (r12 ) i (by omega) (by omega)
              · by_cases h14 : i < 14
                · exact allN_at (r13 ) i (by omega) (by omega)
                · exact allN_at (r14 ) i (by omega) (by omega)
            · by_cases h16 : i < 16
              · exact allN_at (r15 ) i (by omega) (by omega)
              · by_cases h17 : i < 17
                · exact allN_at (r16 ) i (by omega) (by omega)
                · exact allN_at (r17 ) i (by omega) (by omega)
          · by_cases h21 : i < 21
            · by_cases h19 : i < 19
              · exact allN_at (r18 ) i (by omega) (by omega)
              · by_cases h20 : i < 20
                · exact allN_at (r19 ) i (by omega) (by omega)
                · exact allN_at (r20 ) i (by omega) (by omega)
            · by_cases h23 : i < 23
              · by_cases h22 : i < 22
                · exact allN_at (r21 ) i (by omega) (by omega)
                · exact allN_at (r22 ) i (by omega) (by omega)
              · by_cases h24 : i < 24
                · exact allN_at (r23 ) i (by omega) (by omega)
                · exact allN_at (r24 ) i (by omega) (by omega)
      · by_cases h38 : i < 38
        · by_cases h31 : i < 31
          · by_cases h28 : i < 28
            · by_cases h26 : i < 26
              · exact allN_at (r25 ) i (by omega) (by omega)
              · by_cases h27 : i < 27
                · exact allN_at (r26 ) i (by omega) (by omega)
                · exact allN_at (r27 ) i (by omega) (by omega)
            · by_cases h29 : i < 29
              · exact allN_at (r28 ) i (by omega) (by omega)
              · by_cases h30 : i < 30
                · exact allN_at (r29 ) i (by omega) (by omega)
                · exact allN_at (r30 ) i (by omega) (by omega)
          · by_cases h34 : i < 34
            · by_cases h32 : i < 32
              · exact allN_at (r31 ) i (by omega) (by omega)
              · by_cases h33 : i < 33
                · exact allN_at (r32 ) i (by omega) (by omega)
                · exact allN_at (r33 ) i (by omega) (by omega)
            · by_cases h36 : i < 36
              · by_cases h35 : i < 35
                · exact allN_at (r34 ) i (by omega) (by omega)
                · exact allN_at (r35 ) i (by omega) (by omega)
              · by_cases h37 : i < 37
                · exact allN_at (r36 ) i (by omega) (by omega)
                · exact allN_at (r37 ) i (by omega) (by omega)
        · by_cases h44 : i < 44
          · by_cases h41 : i < 41
            · by_cases h39 : i < 39
              · exact allN_at (r38 ) i (by omega) (by omega)
              · by_cases h40 : i < 40
                · exact allN_at (r39 ) i (by omega) (by omega)
                · exact allN_at (r40 ) i (by omega) (by omega)
            · by_cases h42 : i < 42
              · exact allN_at (r41 ) i (by omega) (by omega)
              · by_cases h43 : i < 43
                · exact allN_at (r42 ) i (by omega) (by omega)
                · exact allN_at (r43 ) i (by omega) (by omega)
          · by_cases h47 : i < 47
            · by_cases h45 : i < 45
              · exact allN_at (r44 ) i (by omega) (by omega)
              · by_cases h46 : i < 46
                · exact allN_at (r45 ) i (by omega) (by omega)
                · exact allN_at (r46 ) i (by omega) (by omega)
            · by_cases h49 : i < 49
              · by_cases h48 : i < 48
                · exact allN_at (r47 ) i (by omega) (by omega)
                · exact allN_at (r48 ) i (by omega) (by omega)
              · by_cases h50 : i < 50
                · exact allN_at (r49 ) i (by omega) (by omega)
                · exact allN_at (r50 ) i (by omega) (by omega)
    · by_cases h76 : i < 76
      · by_cases h63 : i < 63
        · by_cases h57 : i < 57
          · by_cases h54 : i < 54
            · by_cases h52 : i < 52
              · exact allN_at (r51 ) i (by omega) (by omega)
              · by_cases h53 : i < 53
                · exact allN_at (r52 ) i (by omega) (by omega)
                · exact allN_at (r53 ) i (by omega) (by omega)
            · by_cases h55 : i < 55
              · exact allN_at (r54 ) i (by omega) (by omega)
              · by_cases h56 : i < 56
                · exact allN_at (r55 ) i (by omega) (by omega)
                · exact allN_at (r56 ) i (by omega) (by omega)
          · by_cases h60 : i < 60
            · by_cases h58 : i < 58
              · exact allN_at (r57 ) i (by omega) (by omega)
              · by_cases h59 : i < 59
                · exact allN_at (r58 ) i (by omega) (by omega)
                · exact allN_at (r59 ) i (by omega) (by omega)
            · by_cases h61 : i < 61
              · exact allN_at (r60 ) i (by omega) (by omega)
              · by_cases h62 : i < 62
                · exact allN_at (r61 ) i (by omega) (by omega)
                · exact allN_at (r62 ) i (by omega) (by omega)
        · by_cases h69 : i < 69
          · by_cases h66 : i < 66
            · by_cases h64 : i < 64
              · exact allN_at (r63 ) i (by omega) (by omega)
              · by_cases h65 : i < 65
                · exact allN_at (r64 ) i (by omega) (by omega)
                · exact allN_at (r65 ) i (by omega) (by omega)
            · by_cases h67 : i < 67
              · exact allN_at (r66 ) i (by omega) (by omega)
              · by_cases h68 : i < 68
                · exact allN_at (r67 ) i (by omega) (by omega)
                · exact allN_at (r68 ) i (by omega) (by omega)
          · by_cases h72 : i < 72
            · by_cases h70 : i < 70
              · exact allN_at (r69 ) i (by omega) (by omega)
              · by_cases h71 : i < 71
                · exact allN_at (r70 ) i (by omega) (by omega)
                · exact allN_at (r71 ) i (by omega) (by omega)
            · by_cases h74 : i < 74
              · by_cases h73 : i < 73
                · exact allN_at (r72 ) i (by omega) (by omega)
                · exact allN_at (r73 ) i (by omega) (by omega)
              · by_cases h75 : i < 75
                · exact allN_at (r74 ) i (by omega) (by omega)
                · exact allN_at (r75 ) i (by omega) (by omega)
      · by_cases h89 : i < 89
        · by_cases h82 : i < 82
          · by_cases h79 : i < 79
            · by_cases h77 : i < 77
              · exact allN_at (r76 ) i (by omega) (by omega)
              · by_cases h78 : i < 78
                · exact allN_at (r77 ) i (by omega) (by omega)
                · exact allN_at (r78 ) i (by omega) (by omega)
            · by_cases h80 : i < 80
              · exact allN_at (r79 ) i (by omega) (by omega)
              · by_cases h81 : i < 81
                · exact allN_at (r80 ) i (by omega) (by omega)
                · exact allN_at (r81 ) i (by omega) (by omega)
          · by_cases h85 : i < 85
            · by_cases h83 : i < 83
              · exact allN_at (r82 ) i (by omega) (by omega)
              · by_cases h84 : i < 84
                · exact allN_at (r83 ) i (by omega) (by omega)
                · exact allN_at (r84 ) i (by omega) (by omega)
            · by_cases h87 : i < 87
              · by_cases h86 : i < 86
                · exact allN_at (r85 ) i (by omega) (by omega)
                · exact allN_at (r86 ) i (by omega) (by omega)
              · by_cases h88 : i < 88
                · exact allN_at (r87 ) i (by omega) (by omega)
                · exact allN_at (r88 ) i (by omega) (by omega)
        · by_cases h95 : i < 95
          · by_cases h92 : i < 92
            · by_cases h90 : i < 90
              · exact allN_at (r89 ) i (by omega) (by omega)
              · by_cases h91 : i < 91
                · exact allN_at (r90 ) i (by omega) (by omega)
                · exact allN_at (r91 ) i (by omega) (by omega)
            · by_cases h93 : i < 93
              · exact allN_at (r92 ) i (by omega) (by omega)
              · by_cases h94 : i < 94
                · exact allN_at (r93 ) i (by omega) (by omega)
                · exact allN_at (r94 ) i (by omega) (by omega)
          · by_cases h98 : i < 98
            · by_cases h96 : i < 96
              · exact allN_at (r95 ) i (by omega) (by omega)
              · by_cases h97 : i < 97
                · exact allN_at (r96 ) i (by omega) (by omega)
                · exact allN_at (r97 ) i (by omega) (by omega)
            · by_cases h100 : i < 100
              · by_cases h99 : i < 99
                · exact allN_at (r98 ) i (by omega) (by omega)
                · exact allN_at (r99 ) i (by omega) (by omega)
              · by_cases h101 : i < 101
                · exact allN_at (r100 ) i (by omega) (by omega)
                · exact allN_at (r101 ) i (by omega) (by omega)
  · by_cases h153 : i < 153
    · by_cases h127 : i < 127
      · by_cases h114 : i < 114
        · by_cases h108 : i < 108
          · by_cases h105 : i < 105
            · by_cases h103 : i < 103
              · exact allN_at (r102 ) i (by omega) (by omega)
              · by_cases h104 : i < 104
                · exact allN_at (r103 ) i (by omega) (by omega)
                · exact allN_at (r104 ) i (by omega) (by omega)
            · by_cases h106 : i < 106
              · exact allN_at (r105 ) i (by omega) (by omega)
              · by_cases h107 : i < 107
                · exact allN_at (r106 ) i (by omega) (by omega)
                · exact allN_at (r107 ) i (by omega) (by omega)
          · by_cases h111 : i < 111
            · by_cases h109 : i < 109
              · exact allN_at (r108 ) i (by omega) (by omega)
              · by_cases h110 : i < 110
                · exact allN_at (r109 ) i (by omega) (by omega)
                · exact allN_at (r110 ) i (by omega) (by omega)
            · by_cases h112 : i < 112
              · exact allN_at (r111 ) i (by omega) (by omega)
              · by_cases h113 : i < 113
                · exact allN_at (r112 ) i (by omega) (by omega)
                · exact allN_at (r113 ) i (by omega) (by omega)
        · by_cases h120 : i < 120
          · by_cases h117 : i < 117
            · by_cases h115 : i < 115
              · exact allN_at (r114 ) i (by omega) (by omega)
              · by_cases h116 : i < 116
                · exact allN_at (r115 ) i (by omega) (by omega)
                · exact allN_at (r116 ) i (by omega) (by omega)
            · by_cases h118 : i < 118
              · exact allN_at (r117 ) i (by omega) (by omega)
              · by_cases h119 : i < 119
                · exact allN_at (r118 ) i (by omega) (by omega)
                · exact allN_at (r119 ) i (by omega) (by omega)
          · by_cases h123 : i < 123
            · by_cases h121 : i < 121
              · exact allN_at (r120 ) i (by omega) (by omega)
              · by_cases h122 : i < 122
                · exact allN_at (r121 ) i (by omega) (by omega)
                · exact allN_at (r122 ) i (by omega) (by omega)
            · by_cases h125 : i < 125
              · by_cases h124 : i < 124
                · exact allN_at (r123 ) i (by omega) (by omega)
                · exact allN_at (r124 ) i (by omega) (by omega)
              · by_cases h126 : i < 126
                · exact allN_at (r125 ) i (by omega) (by omega)
                · exact allN_at (r126 ) i (by omega) (by omega)
      · by_cases h140 : i < 140
        · by_cases h133 : i < 133
          · by_cases h130 : i < 130
            · by_cases h128 : i < 128
              · exact allN_at (r127 ) i (by omega) (by omega)
              · by_cases h129 : i < 129
                · exact allN_at (r128 ) i (by omega) (by omega)
                · exact allN_at (r129 ) i (by omega) (by omega)
            · by_cases h131 : i < 131
              · exact allN_at (r130 ) i (by omega) (by omega)
              · by_cases h132 : i < 132
                · exact allN_at (r131 ) i (by omega) (by omega)
                · exact allN_at (r132 ) i (by omega) (by omega)
          · by_cases h136 : i < 136
            · by_cases h134 : i < 134
              · exact allN_at (r133 ) i (by omega) (by omega)
              · by_cases h135 : i < 135
                · exact allN_at (r134 ) i (by omega) (by omega)
                · exact allN_at (r135 ) i (by omega) (by omega)
            · by_cases h138 : i < 138
              · by_cases h137 : i < 137
                · exact allN_at (r136 ) i (by omega) (by omega)
                · exact allN_at (r137 ) i (by omega) (by omega)
              · by_cases h139 : i < 139
                · exact allN_at (r138 ) i (by omega) (by omega)
                · exact allN_at (r139 ) i (by omega) (by omega)
        · by_cases h146 : i < 146
          · by_cases h143 : i < 143
            · by_cases h141 : i < 141
              · exact allN_at (r140 ) i (by omega) (by omega)
              · by_cases h142 : i < 142
                · exact allN_at (r141 ) i (by omega) (by omega)
                · exact allN_at (r142 ) i (by omega) (by omega)
            · by_cases h144 : i < 144
              · exact allN_at (r143 ) i (by omega) (by omega)
              · by_cases h145 : i < 145
                · exact allN_at (r144 ) i (by omega) (by omega)
                · exact allN_at (r145 ) i (by omega) (by omega)
          · by_cases h149 : i < 149
            · by_cases h147 : i < 147
              · exact allN_at (r146 ) i (by omega) (by omega)
              · by_cases h148 : i < 148
                · exact allN_at (r147 ) i (by omega) (by omega)
                · exact allN_at (r148 ) i (by omega) (by omega)
            · by_cases h151 : i < 151
              · by_cases h150 : i < 150
                · exact allN_at (r149 ) i (by omega) (by omega)
                · exact allN_at (r150 ) i (by omega) (by omega)
              · by_cases h152 : i < 152
                · exact allN_at (r151 ) i (by omega) (by omega)
                · exact allN_at (r152 ) i (by omega) (by omega)
    · by_cases h178 : i < 178
      · by_cases h165 : i < 165
        · by_cases h159 : i < 159
          · by_cases h156 : i < 156
            · by_cases h154 : i < 154
              · exact allN_at (r153 ) i (by omega) (by omega)
              · by_cases h155 : i < 155
                · exact allN_at (r154 ) i (by omega) (by omega)
                · exact allN_at (r155 ) i (by omega) (by omega)
            · by_cases h157 : i < 157
              · exact allN_at (r156 ) i (by omega) (by omega)
              · by_cases h158 : i < 158
                · exact allN_at (r157 ) i (by omega) (by omega)
                · exact allN_at (r158 ) i (by omega) (by omega)
          · by_cases h162 : i < 162
            · by_cases h160 : i < 160
              · exact allN_at (r159 ) i (by omega) (by omega)
              · by_cases h161 : i < 161
                · exact allN_at (r160 ) i (by omega) (by omega)
                · exact allN_at (r161 ) i (by omega) (by omega)
            · by_cases h163 : i < 163
              · exact allN_at (r162 ) i (by omega) (by omega)
              · by_cases h164 : i < 164
                · exact allN_at (r163 ) i (by omega) (by omega)
                · exact allN_at (r164 ) i (by omega) (by omega)
        · by_cases h171 : i < 171
          · by_cases h168 : i < 168
            · by_cases h166 : i < 166
              · exact allN_at (r165 ) i (by omega) (by omega)
              · by_cases h167 : i < 167
                · exact allN_at (r166 ) i (by omega) (by omega)
                · exact allN_at (r167 ) i (by omega) (by omega)
            · by_cases h169 : i < 169
              · exact allN_at (r168 ) i (by omega) (by omega)
              · by_cases h170 : i < 170
                · exact allN_at (r169 ) i (by omega) (by omega)
                · exact allN_at (r170 ) i (by omega) (by omega)
          · by_cases h174 : i < 174
            · by_cases h172 : i < 172
              · exact allN_at (r171 ) i (by omega) (by omega)
              · by_cases h173 : i < 173
                · exact allN_at (r172 ) i (by omega) (by omega)
                · exact allN_at (r173 ) i (by omega) (by omega)
            · by_cases h176 : i < 176
              · by_cases h175 : i < 175
                · exact allN_at (r174 ) i (by omega) (by omega)
                · exact allN_at (r175 ) i (by omega) (by omega)
              · by_cases h177 : i < 177
                · exact allN_at (r176 ) i (by omega) (by omega)
                · exact allN_at (r177 ) i (by omega) (by omega)
      · by_cases h191 : i < 191
        · by_cases h184 : i < 184
          · by_cases h181 : i < 181
            · by_cases h179 : i < 179
              · exact allN_at (r178 ) i (by omega) (by omega)
              · by_cases h180 : i < 180
                · exact allN_at (r179 ) i (by omega) (by omega)
                · exact allN_at (r180 ) i (by omega) (by omega)
            · by_cases h182 : i < 182
              · exact allN_at (r181 ) i (by omega) (by omega)
              · by_cases h183 : i < 183
                · exact allN_at (r182 ) i (by omega) (by omega)
                · exact allN_at (r183 ) i (by omega) (by omega)
          · by_cases h187 : i < 187
            · by_cases h185 : i < 185
              · exact allN_at (r184 ) i (by omega) (by omega)
              · by_cases h186 : i < 186
                · exact allN_at (r185 ) i (by omega) (by omega)
                · exact allN_at (r186 ) i (by omega) (by omega)
            · by_cases h189 : i < 189
              · by_cases h188 : i < 188
                · exact allN_at (r187 ) i (by omega) (by omega)
                · exact allN_at (r188 ) i (by omega) (by omega)
              · by_cases h190 : i < 190
                · exact allN_at (r189 ) i (by omega) (by omega)
                · exact allN_at (r190 ) i (by omega) (by omega)
        · by_cases h197 : i < 197
          · by_cases h194 : i < 194
            · by_cases h192 : i < 192
              · exact allN_at (r191 ) i (by omega) (by omega)
              · by_cases h193 : i < 193
                · exact allN_at (r192 ) i (by omega) (by omega)
                · exact allN_at (r193 ) i (by omega) (by omega)
            · by_cases h195 : i < 195
              · exact allN_at (r194 ) i (by omega) (by omega)
              · by_cases h196 : i < 196
                · exact allN_at (r195 ) i (by omega) (by omega)
                · exact allN_at (r196 ) i (by omega) (by omega)
          · by_cases h200 : i < 200
            · by_cases h198 : i < 198
              · exact allN_at (r197 ) i (by omega) (by omega)
              · by_cases h199 : i < 199
                · exact allN_at (r198 ) i (by omega) (by omega)
                · exact allN_at (r199 ) i (by omega) (by omega)
            · by_cases h202 : i < 202
              · by_cases h201 : i < 201
                · exact allN_at (r200 ) i (by omega) (by omega)
                · exact allN_at (r201 ) i (by omega) (by omega)
              · by_cases h203 : i < 203
                · exact allN_at (r202 ) i (by omega) (by omega)
                · exact allN_at (r203 ) i (by omega) (by omega)
theorem runs (c0 : Nat) (c1 : Nat) (h0 : c0 < 68) (h1 : c1 < 3) : run c0 c1 = true := by
  have h := allRuns ((c0 + 68 * c1)) (by omega)
  unfold runI at h
  have e0 : Nat.mod ((c0 + 68 * c1)) 68 = c0 := by show ((c0 + 68 * c1)) % 68 = c0; omega
  have d0 : Nat.div ((c0 + 68 * c1)) 68 = c1 := by show ((c0 + 68 * c1)) / 68 = c1; omega
  rw [e0, d0] at h
  have e1 : Nat.mod (c1) 3 = c1 := by show (c1) % 3 = c1; omega
  rw [e1] at h
  exact h
def nu (x0 : Nat) (x1 : Nat) : Nat → Value
  | 0 => .int .u8 (.ofNat x0)
  | 1 => .int .i64 (.ofNat x0)
  | 100 => .int .u8 (.ofNat x1)
  | _ => .bool true
theorem nu_one (x0 : Nat) (x1 : Nat) : ∀ i, (nu x0 x1 i).oneCell' = true := by
  intro i; unfold nu; split <;> rfl
theorem hyOk (x0 : Nat) (x1 : Nat) (c0 : Nat) (c1 : Nat) (hc0 : x0 % 68 = c0) (hx0 : x0 ≤ 255) (hc1 : x1 % 3 = c1) (hx1 : x1 ≤ 255) : ∀ k r, (k, r) ∈ hy c0 c1 → HOk (cx (nu x0 x1) (nu_one x0 x1) 0 laidE laidE_stab) k r := by
  intro k r h
  simp only [hy, List.mem_cons, List.not_mem_nil, or_false, Prod.mk.injEq] at h
  rcases h with ⟨rfl, rfl⟩ | ⟨rfl, rfl⟩ | ⟨rfl, rfl⟩
  · exact hConvX (x := x0) rfl (by kernel_rfl) (fits64 (by omega)) rfl
  · exact hRemX (x := x0) rfl (by omega) hc0
  · exact hRemX (x := x1) rfl (by omega) hc1
theorem walk (a0 : Int) (a1 : Int) (w0 : (Lit.int .u8 a0).wf = true) (w1 : (Lit.int .u8 a1).wf = true) (w : World) (hl : laidE w) :
    Calls Tryz.prog 4 #[.int .u8 a0, .int .u8 a1] w fun e w' => e = .returned (.bool true) ∧ Go.AX.Below w.heap.size w w' := by
  obtain ⟨fi, hfi, hb⟩ : ∃ fi, tabk.fn.get 4 = some fi ∧ fi.body.isSome = true := ⟨_, rfl, by kernel_rfl⟩
  obtain ⟨x0, rfl, hx0⟩ := natOf (M := 255) w0 rfl rfl
  obtain ⟨x1, rfl, hx1⟩ := natOf (M := 255) w1 rfl rfl
  have hall : AllOk (cx (nu x0 x1) (nu_one x0 x1) 0 laidE laidE_stab) (tabC (x0 % 68) (x1 % 3)) := (tabkOk (nu x0 x1) (nu_one x0 x1)).hyps (hyOk x0 x1 _ _ rfl hx0 rfl hx1)
  exact runD hall rfl hfi hb (runs (x0 % 68) (x1 % 3) (Nat.mod_lt _ (by omega)) (Nat.mod_lt _ (by omega))) (args := [.int .u8 (.ofNat x0), .int .u8 (.ofNat x1)]) (by simp only [RelL, Rel]; exact ⟨_, _, rfl, rfl, ⟨_, _, rfl, rfl, rfl⟩⟩) w hl
end Go.Proofs.YticlhkekkfelpaaGreatDoor.clientContinues
