/- A part of the proof: an interpreter of the model's own code on partly known states, and that what it answers is what the program answers. No condition of its own. -/
import Derived.Test.YtojgdbbjblaalaaDoorAXzg
set_option linter.unusedSimpArgs false
set_option linter.unusedVariables false
namespace Go.AX
def hasAll (want : Array (String × TypeId)) (got : Array Method) : Bool := (want.toList.filter fun x => !got.any fun m => m.name == x.1 && m.sig == x.2).isEmpty
theorem least_isNone (l : List String) : (Instr.least l).isNone = l.isEmpty := by cases l <;> rfl
theorem orElse_isNone {α : Type} (a b : Option α) : (a <|> b).isNone = (a.isNone && b.isNone) := by cases a <;> rfl
theorem missing_none (want : Array (String × TypeId)) (got : Array Method) : (Instr.missingMethod want got).isNone = hasAll want got := by
  unfold Instr.missingMethod hasAll
  have key : ∀ (L : List (String × TypeId)), (Instr.least ((L.map (·.1)).partition (·.contains (Char.ofNat 46))).2 <|> Instr.least (((L.map (·.1)).partition (·.contains (Char.ofNat 46))).1.map fun id => (id.splitOn ".").getLastD id)).isNone = L.isEmpty := by
    intro L
    rw [orElse_isNone, least_isNone, least_isNone, List.partition_eq_filter_filter]
    cases L with
    | nil => rfl
    | cons x L =>
      simp only [List.map_cons, List.isEmpty_cons]
      cases hc : x.1.contains (Char.ofNat 46) with
      | true => simp [hc]; intro h1 _ h2; exact absurd h1 h2
      | false => simp [hc]; intro h1 _ h2; exact absurd h1 h2
  exact key _
def impAns' (P : Program) (t d : Nat) : Option Bool := match P.underlying t, P.info? d with
  | some (.interface want), some i => some (hasAll want i.methods)
  | _, _ => none
theorem impAns_eq (P : Program) (t d : Nat) : impAns P t d = impAns' P t d := by
  unfold impAns impAns'
  generalize P.underlying t = u
  generalize P.info? d = i
  cases u with
  | none => rfl
  | some u => cases u <;> first | rfl | (cases i with | none => rfl | some i => simp only [missing_none])
theorem impEq_of {P : Program} {tb : Tab} (h : tb.imp.map (fun p => some p.2.2) = tb.imp.map fun p => impAns' P p.1 p.2.1) : ImpEq P tb := by
  unfold ImpEq
  simp only [impAns_eq]; exact h
end Go.AX
