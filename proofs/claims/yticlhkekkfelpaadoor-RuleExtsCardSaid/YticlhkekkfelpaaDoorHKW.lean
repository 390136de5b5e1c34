/- A part of the proof: an interpreter of the model's own code on partly known states, and that what it answers is what the program answers. No condition of its own. -/
import Derived.Test.YticlhkekkfelpaaDoorCXpart4
set_option linter.unusedSimpArgs false
set_option linter.unusedVariables false
namespace Go.AX
section
variable {C : Cx} {x y r : AV} {l : List UInt8}
theorem kIdxC {q : IntKind} {i c : Nat} (hx : Is C x (St' l)) (hi : i < l.length) (h : l.getD i 0 = u8 (Int.ofNat c)) (hc : c ≤ 255) : HOk C (.idx x (.i q (.ofNat i))) (.i .u8 (.ofNat c)) :=
  kIdxE (i := i) hx (isI q (Int.ofNat i)) (denI .u8 (Int.ofNat c)) rfl hi (bt_at h (by have : Int.ofNat c = (c : Int) := rfl; omega) (by have : Int.ofNat c = (c : Int) := rfl; omega))
theorem bC {vs : List AV} {bs : List UInt8} {n : Nat} (h : n ≤ 255) (ht : BY C vs bs) : BY C (.i .u8 (.ofNat n) :: vs) (u8 (Int.ofNat n) :: bs) :=
  .cons (isB8 (isI .u8 (Int.ofNat n)) (by have : Int.ofNat n = (n : Int) := rfl; omega) (by have : Int.ofNat n = (n : Int) := rfl; omega)) ht
end
abbrev i6 (n : Nat) : AV := .i .i64 (.ofNat n)
abbrev u1 (n : Nat) : AV := .i .u8 (.ofNat n)
end Go.AX
