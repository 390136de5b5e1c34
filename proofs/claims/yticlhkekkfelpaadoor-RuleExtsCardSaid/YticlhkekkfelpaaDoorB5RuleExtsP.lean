/- A part of the proof: an interpreter of the model's own code on partly known states, and that what it answers is what the program answers. No condition of its own. -/
import Derived.Test.YticlhkekkfelpaaDoorB5RuleExtsR0
import Derived.Test.YticlhkekkfelpaaDoorB5RuleExtsR1
import Derived.Test.YticlhkekkfelpaaDoorB5RuleExtsR2
import Derived.Test.YticlhkekkfelpaaDoorB5RuleExtsR3
import Derived.Test.YticlhkekkfelpaaDoorB5RuleExtsR4
import Derived.Test.YticlhkekkfelpaaDoorB5RuleExtsR5
import Derived.Test.YticlhkekkfelpaaDoorB5RuleExtsR6
import Derived.Test.YticlhkekkfelpaaDoorB5RuleExtsR7
import Derived.Test.YticlhkekkfelpaaDoorB5RuleExtsR8
import Derived.Test.YticlhkekkfelpaaDoorB5RuleExtsR9
import Derived.Test.YticlhkekkfelpaaDoorB5RuleExtsR10
import Derived.Test.YticlhkekkfelpaaDoorB5RuleExtsR11
import Derived.Test.YticlhkekkfelpaaDoorB5RuleExtsR12
import Derived.Test.YticlhkekkfelpaaDoorB5RuleExtsR13
set_option maxRecDepth 100000
set_option linter.unusedVariables false
set_option linter.unusedSimpArgs false
namespace Go.Proofs.YticlhkekkfelpaaDoor.ruleExts
open Go Go.AX Go.Proofs Go.Proofs.YticlhkekkfelpaaDoor
theorem walk (n : Int) (pos : Int) (chr : Int) (b0 : 0 ≤ n) (b1 : n ≤ 255) (b2 : 0 ≤ pos) (b3 : pos ≤ 255) (b4 : 0 ≤ chr) (b5 : chr ≤ 255) (w : World) (hl : laidE w) : Calls Tryd.prog 7 #[.int .u8 n, .int .u8 pos, .int .u8 chr] w fun e w' => e = .returned (.bool true) ∧ Go.AX.Below w.heap.size w w' := by
  have bb : BB n pos chr := ⟨b0, b1, b2, b3, b4, b5⟩
  rcases (show n % 11 = 0 ∨ n % 11 = 1 ∨ n % 11 = 2 ∨ n % 11 = 3 ∨ n % 11 = 4 ∨ n % 11 = 5 ∨ n % 11 = 6 ∨ n % 11 = 7 ∨ n % 11 = 8 ∨ n % 11 = 9 ∨ n % 11 = 10 from by omega) with h0 | h0 | h0 | h0 | h0 | h0 | h0 | h0 | h0 | h0 | h0
  · exact path0 n pos chr bb h0 w hl
  · by_cases h2 : 97 ≤ chr
    · by_cases h3 : chr ≤ 122
      · exact path2 n pos chr bb h0 h2 h3 w hl
      · exact path3 n pos chr bb h0 h2 h3 w hl
    · exact path1 n pos chr bb h0 h2 w hl
  · rcases (show pos % 2 = 0 ∨ pos % 2 = 1 from by omega) with h1 | h1
    · by_cases h2 : 97 ≤ chr
      · by_cases h3 : chr ≤ 122
        · exact path5 n pos chr bb h0 h1 h2 h3 w hl
        · exact path6 n pos chr bb h0 h1 h2 h3 w hl
      · exact path4 n pos chr bb h0 h1 h2 w hl
    · by_cases h2 : 97 ≤ chr
      · by_cases h3 : chr ≤ 122
        · exact path8 n pos chr bb h0 h1 h2 h3 w hl
        · exact path9 n pos chr bb h0 h1 h2 h3 w hl
      · exact path7 n pos chr bb h0 h1 h2 w hl
  · rcases (show pos % 3 = 0 ∨ pos % 3 = 1 ∨ pos % 3 = 2 from by omega) with h1 | h1 | h1
    · by_cases h2 : 97 ≤ chr
      · by_cases h3 : chr ≤ 122
        · exact path11 n pos chr bb h0 h1 h2 h3 w hl
        · exact path12 n pos chr bb h0 h1 h2 h3 w hl
      · exact path10 n pos chr bb h0 h1 h2 w hl
    · by_cases h2 : 97 ≤ chr
      · by_cases h3 : chr ≤ 122
        · exact path14 n pos chr bb h0 h1 h2 h3 w hl
        · exact path15 n pos chr bb h0 h1 h2 h3 w hl
      · exact path13 n pos chr bb h0 h1 h2 w hl
    · by_cases h2 : 97 ≤ chr
      · by_cases h3 : chr ≤ 122
        · exact path17 n pos chr bb h0 h1 h2 h3 w hl
        · exact path18 n pos chr bb h0 h1 h2 h3 w hl
      · exact path16 n pos chr bb h0 h1 h2 w hl
  · rcases (show pos % 4 = 0 ∨ pos % 4 = 1 ∨ pos % 4 = 2 ∨ pos % 4 = 3 from by omega) with h1 | h1 | h1 | h1
    · by_cases h2 : 97 ≤ chr
      · by_cases h3 : chr ≤ 122
        · exact path20 n pos chr bb h0 h1 h2 h3 w hl
        · exact path21 n pos chr bb h0 h1 h2 h3 w hl
      · exact path19 n pos chr bb h0 h1 h2 w hl
    · by_cases h2 : 97 ≤ chr
      · by_cases h3 : chr ≤ 122
        · exact path23 n pos chr bb h0 h1 h2 h3 w hl
        · exact path24 n pos chr bb h0 h1 h2 h3 w hl
      · exact path22 n pos chr bb h0 h1 h2 w hl
    · by_cases h2 : 97 ≤ chr
      · by_cases h3 : chr ≤ 122
        · exact path26 n pos chr bb h0 h1 h2 h3 w hl
        · exact path27 n pos chr bb h0 h1 h2 h3 w hl
      · exact path25 n pos chr bb h0 h1 h2 w hl
    · by_cases h2 : 97 ≤ chr
      · by_cases h3 : chr ≤ 122
        · exact path29 n pos chr bb h0 h1 h2 h3 w hl
        · exact path30 n pos chr bb h0 h1 h2 h3 w hl
      · exact path28 n pos chr bb h0 h1 h2 w hl
  · rcases (show pos % 5 = 0 ∨ pos % 5 = 1 ∨ pos % 5 = 2 ∨ pos % 5 = 3 ∨ pos % 5 = 4 from by omega) with h1 | h1 | h1 | h1 | h1
    · by_cases h2 : 97 ≤ chr
      · by_cases h3 : chr ≤ 122
        · exact path32 n pos chr bb h0 h1 h2 h3 w hl
        · exact path33 n pos chr bb h0 h1 h2 h3 w hl
      · exact path31 n pos chr bb h0 h1 h2 w hl
    · by_cases h2 : 97 ≤ chr
      · by_cases h3 : chr ≤ 122
        · exact path35 n pos chr bb h0 h1 h2 h3 w hl
        · exact path36 n pos chr bb h0 h1 h2 h3 w hl
      · exact path34 n pos chr bb h0 h1 h2 w hl
    · by_cases h2 : 97 ≤ chr
      · by_cases h3 : chr ≤ 122
        · exact path38 n pos chr bb h0 h1 h2 h3 w hl
        · exact path39 n pos chr bb h0 h1 h2 h3 w hl
      · exact path37 n pos chr bb h0 h1 h2 w hl
    · by_cases h2 : 97 ≤ chr
      · by_cases h3 : chr ≤ 122
        · exact path41 n pos chr bb h0 h1 h2 h3 w hl
        · exact path42 n pos chr bb h0 h1 h2 h3 w hl
      · exact path40 n pos chr bb h0 h1 h2 w hl
    · by_cases h2 : 97 ≤ chr
      · by_cases h3 : chr ≤ 122
        · exact path44 n pos chr bb h0 h1 h2 h3 w hl
        · exact path45 n pos chr bb h0 h1 h2 h3 w hl
      · exact path43 n pos chr bb h0 h1 h2 w hl
  · rcases (show pos % 6 = 0 ∨ pos % 6 = 1 ∨ pos % 6 = 2 ∨ pos % 6 = 3 ∨ pos % 6 = 4 ∨ pos % 6 = 5 from by omega) with h1 | h1 | h1 | h1 | h1 | h1
    · by_cases h2 : 97 ≤ chr
      · by_cases h3 : chr ≤ 122
        · exact path47 n pos chr bb h0 h1 h2 h3 w hl
        · exact path48 n pos chr bb h0 h1 h2 h3 w hl
      · exact path46 n pos chr bb h0 h1 h2 w hl
    · by_cases h2 : 97 ≤ chr
      · by_cases h3 : chr ≤ 122
        · exact path50 n pos chr bb h0 h1 h2 h3 w hl
        · exact path51 n pos chr bb h0 h1 h2 h3 w hl
      · exact path49 n pos chr bb h0 h1 h2 w hl
    · by_cases h2 : 97 ≤ chr
      · by_cases h3 : chr ≤ 122
        · exact path53 n pos chr bb h0 h1 h2 h3 w hl
        · exact path54 n pos chr bb h0 h1 h2 h3 w hl
      · exact path52 n pos chr bb h0 h1 h2 w hl
    · by_cases h2 : 97 ≤ chr
      · by_cases h3 : chr ≤ 122
        · exact path56 n pos chr bb h0 h1 h2 h3 w hl
        · exact path57 n pos chr bb h0 h1 h2 h3 w hl
      · exact path55 n pos chr bb h0 h1 h2 w hl
    · by_cases h2 : 97 ≤ chr
      · by_cases h3 : chr ≤ 122
        · exact path59 n pos chr bb h0 h1 h2 h3 w hl
        · exact path60 n pos chr bb h0 h1 h2 h3 w hl
      · exact path58 n pos chr bb h0 h1 h2 w hl
    · by_cases h2 : 97 ≤ chr
      · by_cases h3 : chr ≤ 122
        · exact path62 n pos chr bb h0 h1 h2 h3 w hl
        · exact path63 n pos chr bb h0 h1 h2 h3 w hl
      · exact path61 n pos chr bb h0 h1 h2 w hl
  · rcases (show pos % 7 = 0 ∨ pos % 7 = 1 ∨ pos % 7 = 2 ∨ pos % 7 = 3 ∨ pos % 7 = 4 ∨ pos % 7 = 5 ∨ pos % 7 = 6 from by omega) with h1 | h1 | h1 | h1 | h1 | h1 | h1
    · by_cases h2 : 97 ≤ chr
      · by_cases h3 : chr ≤ 122
        · exact path65 n pos chr bb h0 h1 h2 h3 w hl
        · exact path66 n pos chr bb h0 h1 h2 h3 w hl
      · exact path64 n pos chr bb h0 h1 h2 w hl
    · by_cases h2 : 97 ≤ chr
      · by_cases h3 : chr ≤ 122
        · exact path68 n pos chr bb h0 h1 h2 h3 w hl
        · exact path69 n pos chr bb h0 h1 h2 h3 w hl
      · exact path67 n pos chr bb h0 h1 h2 w hl
    · by_cases h2 : 97 ≤ chr
      · by_cases h3 : chr ≤ 122
        · exact path71 n pos chr bb h0 h1 h2 h3 w hl
        · exact path72 n pos chr bb h0 h1 h2 h3 w hl
      · exact path70 n pos chr bb h0 h1 h2 w hl
    · by_cases h2 : 97 ≤ chr
      · by_cases h3 : chr ≤ 122
        · exact path74 n pos chr bb h0 h1 h2 h3 w hl
        · exact path75 n pos chr bb h0 h1 h2 h3 w hl
      · exact path73 n pos chr bb h0 h1 h2 w hl
    · by_cases h2 : 97 ≤ chr
      · by_cases h3 : chr ≤ 122
        · exact path77 n pos chr bb h0 h1 h2 h3 w hl
        · exact path78 n pos chr bb h0 h1 h2 h3 w hl
      · exact path76 n pos chr bb h0 h1 h2 w hl
    · by_cases h2 : 97 ≤ chr
      · by_cases h3 : chr ≤ 122
        · exact path80 n pos chr bb h0 h1 h2 h3 w hl
        · exact path81 n pos chr bb h0 h1 h2 h3 w hl
      · exact path79 n pos chr bb h0 h1 h2 w hl
    · by_cases h2 : 97 ≤ chr
      · by_cases h3 : chr ≤ 122
        · exact path83 n pos chr bb h0 h1 h2 h3 w hl
        · exact path84 n pos chr bb h0 h1 h2 h3 w hl
      · exact path82 n pos chr bb h0 h1 h2 w hl
  · rcases (show pos % 8 = 0 ∨ pos % 8 = 1 ∨ pos % 8 = 2 ∨ pos % 8 = 3 ∨ pos % 8 = 4 ∨ pos % 8 = 5 ∨ pos % 8 = 6 ∨ pos % 8 = 7 from by omega) with h1 | h1 | h1 | h1 | h1 | h1 | h1 | h1
    · by_cases h2 : 97 ≤ chr
      · by_cases h3 : chr ≤ 122
        · exact path86 n pos chr bb h0 h1 h2 h3 w hl
        · exact path87 n pos chr bb h0 h1 h2 h3 w hl
      · exact path85 n pos chr bb h0 h1 h2 w hl
    · by_cases h2 : 97 ≤ chr
      · by_cases h3 : chr ≤ 122
        · exact path89 n pos chr bb h0 h1 h2 h3 w hl
        · exact path90 n pos chr bb h0 h1 h2 h3 w hl
      · exact path88 n pos chr bb h0 h1 h2 w hl
    · by_cases h2 : 97 ≤ chr
      · by_cases h3 : chr ≤ 122
        · exact path92 n pos chr bb h0 h1 h2 h3 w hl
        · exact path93 n pos chr bb h0 h1 h2 h3 w hl
      · exact path91 n pos chr bb h0 h1 h2 w hl
    · by_cases h2 : 97 ≤ chr
      · by_cases h3 : chr ≤ 122
        · exact path95 n pos chr bb h0 h1 h2 h3 w hl
        · exact path96 n pos chr bb h0 h1 h2 h3 w hl
      · exact path94 n pos chr bb h0 h1 h2 w hl
    · by_cases h2 : 97 ≤ chr
      · by_cases h3 : chr ≤ 122
        · exact path98 n pos chr bb h0 h1 h2 h3 w hl
        · exact path99 n pos chr bb h0 h1 h2 h3 w hl
      · exact path97 n pos chr bb h0 h1 h2 w hl
    · by_cases h2 : 97 ≤ chr
      · by_cases h3 : chr ≤ 122
        · exact path101 n pos chr bb h0 h1 h2 h3 w hl
        · exact path102 n pos chr bb h0 h1 h2 h3 w hl
      · exact path100 n pos chr bb h0 h1 h2 w hl
    · by_cases h2 : 97 ≤ chr
      · by_cases h3 : chr ≤ 122
        · exact path104 n pos chr bb h0 h1 h2 h3 w hl
        · exact path105 n pos chr bb h0 h1 h2 h3 w hl
      · exact path103 n pos chr bb h0 h1 h2 w hl
    · by_cases h2 : 97 ≤ chr
      · by_cases h3 : chr ≤ 122
        · exact path107 n pos chr bb h0 h1 h2 h3 w hl
        · exact path108 n pos chr bb h0 h1 h2 h3 w hl
      · exact path106 n pos chr bb h0 h1 h2 w hl
  · rcases (show pos % 9 = 0 ∨ pos % 9 = 1 ∨ pos % 9 = 2 ∨ pos % 9 = 3 ∨ pos % 9 = 4 ∨ pos % 9 = 5 ∨ pos % 9 = 6 ∨ pos % 9 = 7 ∨ pos % 9 = 8 from by omega) with h1 | h1 | h1 | h1 | h1 | h1 | h1 | h1 | h1
    · by_cases h2 : 97 ≤ chr
      · by_cases h3 : chr ≤ 122
        · exact path110 n pos chr bb h0 h1 h2 h3 w hl
        · exact path111 n pos chr bb h0 h1 h2 h3 w hl
      · exact path109 n pos chr bb h0 h1 h2 w hl
    · by_cases h2 : 97 ≤ chr
      · by_cases h3 : chr ≤ 122
        · exact path113 n pos chr bb h0 h1 h2 h3 w hl
        · exact path114 n pos chr bb h0 h1 h2 h3 w hl
      · exact path112 n pos chr bb h0 h1 h2 w hl
    · by_cases h2 : 97 ≤ chr
      · by_cases h3 : chr ≤ 122
        · exact path116 n pos chr bb h0 h1 h2 h3 w hl
        · exact path117 n pos chr bb h0 h1 h2 h3 w hl
      · exact path115 n pos chr bb h0 h1 h2 w hl
    · by_cases h2 : 97 ≤ chr
      · by_cases h3 : chr ≤ 122
        · exact path119 n pos chr bb h0 h1 h2 h3 w hl
        · exact path120 n pos chr bb h0 h1 h2 h3 w hl
      · exact path118 n pos chr bb h0 h1 h2 w hl
    · by_cases h2 : 97 ≤ chr
      · by_cases h3 : chr ≤ 122
        · exact path122 n pos chr bb h0 h1 h2 h3 w hl
        · exact path123 n pos chr bb h0 h1 h2 h3 w hl
      · exact path121 n pos chr bb h0 h1 h2 w hl
    · by_cases h2 : 97 ≤ chr
      · by_cases h3 : chr ≤ 122
        · exact path125 n pos chr bb h0 h1 h2 h3 w hl
        · exact path126 n pos chr bb h0 h1 h2 h3 w hl
      · exact path124 n pos chr bb h0 h1 h2 w hl
    · by_cases h2 : 97 ≤ chr
      · by_cases h3 : chr ≤ 122
        · exact path128 n pos chr bb h0 h1 h2 h3 w hl
        · exact path129 n pos chr bb h0 h1 h2 h3 w hl
      · exact path127 n pos chr bb h0 h1 h2 w hl
    · by_cases h2 : 97 ≤ chr
      · by_cases h3 : chr ≤ 122
        · exact path131 n pos chr bb h0 h1 h2 h3 w hl
        · exact path132 n pos chr bb h0 h1 h2 h3 w hl
      · exact path130 n pos chr bb h0 h1 h2 w hl
    · by_cases h2 : 97 ≤ chr
      · by_cases h3 : chr ≤ 122
        · exact path134 n pos chr bb h0 h1 h2 h3 w hl
        · exact path135 n pos chr bb h0 h1 h2 h3 w hl
      · exact path133 n pos chr bb h0 h1 h2 w hl
  · rcases (show pos % 10 = 0 ∨ pos % 10 = 1 ∨ pos % 10 = 2 ∨ pos % 10 = 3 ∨ pos % 10 = 4 ∨ pos % 10 = 5 ∨ pos % 10 = 6 ∨ pos % 10 = 7 ∨ pos % 10 = 8 ∨ pos % 10 = 9 from by omega) with h1 | h1 | h1 | h1 | h1 | h1 | h1 | h1 | h1 | h1
    · by_cases h2 : 97 ≤ chr
      · by_cases h3 : chr ≤ 122
        · exact path137 n pos chr bb h0 h1 h2 h3 w hl
        · exact path138 n pos chr bb h0 h1 h2 h3 w hl
      · exact path136 n pos chr bb h0 h1 h2 w hl
    · by_cases h2 : 97 ≤ chr
      · by_cases h3 : chr ≤ 122
        · exact path140 n pos chr bb h0 h1 h2 h3 w hl
        · exact path141 n pos chr bb h0 h1 h2 h3 w hl
      · exact path139 n pos chr bb h0 h1 h2 w hl
    · by_cases h2 : 97 ≤ chr
      · by_cases h3 : chr ≤ 122
        · exact path143 n pos chr bb h0 h1 h2 h3 w hl
        · exact path144 n pos chr bb h0 h1 h2 h3 w hl
      · exact path142 n pos chr bb h0 h1 h2 w hl
    · by_cases h2 : 97 ≤ chr
      · by_cases h3 : chr ≤ 122
        · exact path146 n pos chr bb h0 h1 h2 h3 w hl
        · exact path147 n pos chr bb h0 h1 h2 h3 w hl
      · exact path145 n pos chr bb h0 h1 h2 w hl
    · by_cases h2 : 97 ≤ chr
      · by_cases h3 : chr ≤ 122
        · exact path149 n pos chr bb h0 h1 h2 h3 w hl
        · exact path150 n pos chr bb h0 h1 h2 h3 w hl
      · exact path148 n pos chr bb h0 h1 h2 w hl
    · by_cases h2 : 97 ≤ chr
      · by_cases h3 : chr ≤ 122
        · exact path152 n pos chr bb h0 h1 h2 h3 w hl
        · exact path153 n pos chr bb h0 h1 h2 h3 w hl
      · exact path151 n pos chr bb h0 h1 h2 w hl
    · by_cases h2 : 97 ≤ chr
      · by_cases h3 : chr ≤ 122
        · exact path155 n pos chr bb h0 h1 h2 h3 w hl
        · exact path156 n pos chr bb h0 h1 h2 h3 w hl
      · exact path154 n pos chr bb h0 h1 h2 w hl
    · by_cases h2 : 97 ≤ chr
      · by_cases h3 : chr ≤ 122
        · exact path158 n pos chr bb h0 h1 h2 h3 w hl
        · exact path159 n pos chr bb h0 h1 h2 h3 w hl
      · exact path157 n pos chr bb h0 h1 h2 w hl
    · by_cases h2 : 97 ≤ chr
      · by_cases h3 : chr ≤ 122
        · exact path161 n pos chr bb h0 h1 h2 h3 w hl
        · exact path162 n pos chr bb h0 h1 h2 h3 w hl
      · exact path160 n pos chr bb h0 h1 h2 w hl
    · by_cases h2 : 97 ≤ chr
      · by_cases h3 : chr ≤ 122
        · exact path164 n pos chr bb h0 h1 h2 h3 w hl
        · exact path165 n pos chr bb h0 h1 h2 h3 w hl
      · exact path163 n pos chr bb h0 h1 h2 w hl
end Go.Proofs.YticlhkekkfelpaaDoor.ruleExts
