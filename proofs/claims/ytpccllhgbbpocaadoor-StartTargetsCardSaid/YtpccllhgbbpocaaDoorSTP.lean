/- A part of the proof: an interpreter of the model's own code on partly known states, and that what it answers is what the program answers. No condition of its own. -/
import Derived.Test.YtpccllhgbbpocaaDoorSTA
import Derived.Test.YtpccllhgbbpocaaDoorSTB
import Derived.Test.YtpccllhgbbpocaaDoorSTC
import Derived.Test.YtpccllhgbbpocaaDoorSTD
set_option maxRecDepth 100000
set_option linter.unusedVariables false
namespace Go.Proofs.YtpccllhgbbpocaaDoor
open Go Go.AX Go.Proofs
open Go.RowKit (Below)
namespace startTargets
theorem nu_one (a0 : Int) : ∀ i, ((fun _ : Nat => Value.int .u8 a0) i).oneCell' = true := fun _ => rfl
theorem runs (i : Nat) (h : i < 256) (e : Nat) : run e i = true := by
  by_cases h0 : i < 8
  · exact allN_at (r0 e) i (by omega) (by omega)
  by_cases h8 : i < 16
  · exact allN_at (r8 e) i (by omega) (by omega)
  by_cases h16 : i < 24
  · exact allN_at (r16 e) i (by omega) (by omega)
  by_cases h24 : i < 32
  · exact allN_at (r24 e) i (by omega) (by omega)
  by_cases h32 : i < 40
  · exact allN_at (r32 e) i (by omega) (by omega)
  by_cases h40 : i < 48
  · exact allN_at (r40 e) i (by omega) (by omega)
  by_cases h48 : i < 56
  · exact allN_at (r48 e) i (by omega) (by omega)
  by_cases h56 : i < 64
  · exact allN_at (r56 e) i (by omega) (by omega)
  by_cases h64 : i < 72
  · exact allN_at (r64 e) i (by omega) (by omega)
  by_cases h72 : i < 80
  · exact allN_at (r72 e) i (by omega) (by omega)
  by_cases h80 : i < 88
  · exact allN_at (r80 e) i (by omega) (by omega)
  by_cases h88 : i < 96
  · exact allN_at (r88 e) i (by omega) (by omega)
  by_cases h96 : i < 104
  · exact allN_at (r96 e) i (by omega) (by omega)
  by_cases h104 : i < 112
  · exact allN_at (r104 e) i (by omega) (by omega)
  by_cases h112 : i < 120
  · exact allN_at (r112 e) i (by omega) (by omega)
  by_cases h120 : i < 128
  · exact allN_at (r120 e) i (by omega) (by omega)
  by_cases h128 : i < 136
  · exact allN_at (r128 e) i (by omega) (by omega)
  by_cases h136 : i < 144
  · exact allN_at (r136 e) i (by omega) (by omega)
  by_cases h144 : i < 152
  · exact allN_at (r144 e) i (by omega) (by omega)
  by_cases h152 : i < 160
  · exact allN_at (r152 e) i (by omega) (by omega)
  by_cases h160 : i < 168
  · exact allN_at (r160 e) i (by omega) (by omega)
  by_cases h168 : i < 176
  · exact allN_at (r168 e) i (by omega) (by omega)
  by_cases h176 : i < 184
  · exact allN_at (r176 e) i (by omega) (by omega)
  by_cases h184 : i < 192
  · exact allN_at (r184 e) i (by omega) (by omega)
  by_cases h192 : i < 200
  · exact allN_at (r192 e) i (by omega) (by omega)
  by_cases h200 : i < 208
  · exact allN_at (r200 e) i (by omega) (by omega)
  by_cases h208 : i < 216
  · exact allN_at (r208 e) i (by omega) (by omega)
  by_cases h216 : i < 224
  · exact allN_at (r216 e) i (by omega) (by omega)
  by_cases h224 : i < 232
  · exact allN_at (r224 e) i (by omega) (by omega)
  by_cases h232 : i < 240
  · exact allN_at (r232 e) i (by omega) (by omega)
  by_cases h240 : i < 248
  · exact allN_at (r240 e) i (by omega) (by omega)
  by_cases h248 : i < 256
  · exact allN_at (r248 e) i (by omega) (by omega)
  omega
theorem walk (a0 : Int) (a1 : Bool) (w0 : (Lit.int .u8 a0).wf = true) (w : World) (hl : laidE w) :
    Calls Tryd.prog 7 #[.int .u8 a0, .bool a1] w fun e w' => e = .returned (.bool true) ∧ Below w.heap.size w w' := by
  obtain ⟨fi, hfi, hb⟩ : ∃ fi, tab7.fn.get 7 = some fi ∧ fi.body.isSome = true := ⟨_, rfl, by kernel_rfl⟩
  obtain ⟨h1, h2⟩ := byteRange w0
  cases a1 with
  | false =>
    obtain ⟨i, rfl⟩ : ∃ i : Nat, a0 = Int.ofNat i := ⟨a0.toNat, by show a0 = (a0.toNat : Int); omega⟩
    have hi : i < 256 := by
      have : (i : Int) ≤ 255 := h2
      omega
    exact runD (tab7Ok _ (nu_one 0)) rfl hfi hb (fun e => runs i hi e) (args := [.int .u8 (Int.ofNat i), .bool false]) (by simp only [RelL, Rel]; exact ⟨_, _, rfl, rfl, _, _, rfl, rfl, rfl⟩) w hl
  | true =>
    exact runD (tab7Ok _ (nu_one a0)) rfl hfi hb star (args := [.int .u8 a0, .bool true]) (by simp only [RelL, Rel]; exact ⟨_, _, rfl, rfl, _, _, rfl, rfl, rfl⟩) w hl
end startTargets
end Go.Proofs.YtpccllhgbbpocaaDoor
