/- A part of the proof: what an interpreter answers on partly known states is what the program answers. No condition. -/
import Derived.Test.YtngkglegomkjkaaDoorAXcs
set_option linter.unusedSimpArgs false
set_option linter.unusedVariables false
namespace Go.AX
def cI (C E : Cx) (body : Code) (keep : List Nat) (nt : Nat) (ex : Ex) (ng n0 nh n1 : Nat) {α : Type} (ep : α → List (Nat × AV)) (hp : α → List (Nat × aZ)) (dI : List (Nat × AV)) (hpx : List (Nat × aZ)) (I : α → Prop) (D : α → (Nat → Value) → Cx) : Prop :=
 ∀ (l : LF) (h : LH) (st : α), I st → l.hp = some h → xB l h nt keep ex ng n0 n1 = true → ∀ (bD : List (Nat × AV)) (a8 : List (Nat × Nat)), (∀ X, bN C (D st X) bD) → tS l h nt n0 nh bD a8 (ep st) (hp st) = true →
  ∀ (bB : List (Nat × AV)), bN E C bB → AL l h nt n0 n1 bB dI hpx = true → dz C body l
section
variable {C E : Cx} {body : Code} {keep : List Nat} {nt : Nat} {ex : Ex} {ng n0 nh n1 : Nat} {α : Type} {ep : α → List (Nat × AV)} {hp : α → List (Nat × aZ)} {dI : List (Nat × AV)} {hpx : List (Nat × aZ)} {I : α → Prop} {D : α → (Nat → Value) → Cx}
theorem fb (μ : α → Nat) (hP : ∀ x X, (D x X).P = C.P) (hi : ∀ x X, (D x X).inv = C.inv) (hn : ∀ x X, (D x X).cE = C.cE) (hX : ∀ x X t, t ∈ keep → (D x X).nu (1000000 + t) = X t)
 (jk : E.P = C.P) (jh : E.inv = C.inv) (iR : E.cE = C.cE) (hb : ∀ x, (dG (ep x) && eG keep) = true) (hbx : dG dI = true) (iQ : (Nat.ble n0 nh && Nat.ble nh n1) = true)
 (hr : ∀ x X, I x → bm E body keep nt ex ng n0 nh n1 ep hp dI hpx I μ D x X) : cI C E body keep nt ex ng n0 nh n1 ep hp dI hpx I D :=
 fun _ _ st hI hl hs _ _ cB h0 _ cA hx => lfOkX I μ D hP hi hn hX jk jh iR hl hs hb hbx iQ st hI cB h0 cA hx hr
theorem cI.use {l : LF} {h : LH} (k : cI C E body keep nt ex ng n0 nh n1 ep hp dI hpx I D) (st : α) (hI : I st) (hl : l.hp = some h) (hs : xB l h nt keep ex ng n0 n1 = true) {bD : List (Nat × AV)} {a8 : List (Nat × Nat)} (cB : ∀ X, bN C (D st X) bD)
 (h0 : tS l h nt n0 nh bD a8 (ep st) (hp st) = true) {bB : List (Nat × AV)} (cA : bN E C bB) (hx : AL l h nt n0 n1 bB dI hpx = true) : dz C body l := k l h st hI hl hs bD a8 cB h0 bB cA hx
end
end Go.AX

