/- A part of the proof: what an interpreter answers on partly known states is what the program answers. No condition. -/
import Derived.Test.YtcjanblpboaleaaDoorSeatU1
import Derived.Test.YtcjanblpboaleaaDoorHXpart4
import Derived.Test.YtcjanblpboaleaaDoorTDx
import Derived.Test.YtcjanblpboaleaaDoorAXro
import Derived.Test.YtcjanblpboaleaaDoorHKA
import Derived.Test.YtcjanblpboaleaaDoorHKI
import Derived.Test.YtcjanblpboaleaaDoorHKJ
import Derived.Test.YtcjanblpboaleaaDoorHKK
import Derived.Test.YtcjanblpboaleaaDoorHKN
import Derived.Test.YtcjanblpboaleaaDoorAXcf
import Derived.Test.YtcjanblpboaleaaDoorAXcs
import Derived.Test.YtcjanblpboaleaaDoorAXmv
import Derived.Shelf.Strings.SlTrimAscii
import Derived.Shelf.Strings.Prefix
set_option maxRecDepth 100000
set_option linter.unusedVariables false
set_option linter.unusedSimpArgs false
namespace Go.Proofs.YtcjanblpboaleaaDoor.cgiCuts
open Go Go.AX Go.Proofs Go.Proofs.YtcjanblpboaleaaDoor
abbrev dE : Nat := 126948300911699
abbrev ek : Nat := 148242139331322749289446818328511647671190698532961
abbrev dc : Nat := 189814454558355192443563562858952416920183008991932423509127981416179310689
abbrev fK : Nat := 649248766979928951574177036794372923360672071101301633065057
abbrev hU : Nat := 11741791329322882625517572748643507450351239753385849183905873288774964261101665
abbrev jP : Nat := 7957695015157985100
abbrev mE : Nat := 31393958642898984038472511299
abbrev zn7 : Nat := 599150967718827368314351220150988660
abbrev zn8 : Nat := 195053149958377637163323602353056821652343320621615607581941524370030993505
abbrev mD : Nat := 121424956187986
abbrev qw : Nat := 656752058384775479847414506184778529
abbrev zn11 : Nat := 10577595352064782555832588426925618080005505675071725665
abbrev zn12 : Nat := 14192045650840644658529170585523350257391154252810650922002320430786485060056893453492521501416210440289
abbrev zn13 : Nat := 182747443711471208076085756494561942872126296763519694800331953563798741089
abbrev zn14 : Nat := 46783345590136629267477953662607857375264332134587908757689197303719776362593
abbrev zn15 : Nat := 45856972714230065511992109926267275154050353492070103754928252244428942680161
abbrev zn16 : Nat := 659153264020315522437124361530834594069509992301
abbrev aw : List UInt8 := [u8 83, u8 116, u8 97, u8 116, u8 117, u8 115]
abbrev cV : List UInt8 := [u8 76, u8 111, u8 99, u8 97, u8 116, u8 105, u8 111, u8 110]
abbrev dQ : List UInt8 := [u8 97, u8 32, u8 108, u8 105, u8 110, u8 101, u8 32, u8 116, u8 104, u8 97, u8 116, u8 32, u8 98, u8 101, u8 103, u8 105, u8 110, u8 115, u8 32, u8 119, u8 105, u8 116, u8 104, u8 32, u8 97, u8 32, u8 98, u8 108, u8 97, u8 110, u8 107]
abbrev db : List UInt8 := [u8 67, u8 111, u8 110, u8 116, u8 101, u8 110, u8 116, u8 45, u8 84, u8 121, u8 112, u8 101]
abbrev eK : List UInt8 := [u8 97, u8 32, u8 115, u8 116, u8 97, u8 116, u8 117, u8 115, u8 32, u8 116, u8 104, u8 97, u8 116, u8 32, u8 105, u8 115, u8 32, u8 110, u8 111, u8 110, u8 101]
abbrev fJ : List UInt8 := [u8 97, u8 32, u8 104, u8 101, u8 97, u8 100, u8 32, u8 116, u8 104, u8 97, u8 116, u8 32, u8 116, u8 101, u8 108, u8 108, u8 115, u8 32, u8 110, u8 111, u8 116, u8 104, u8 105, u8 110, u8 103]
abbrev fb : List UInt8 := [u8 82, u8 101, u8 97, u8 115, u8 111, u8 110]
abbrev gS : List UInt8 := [u8 97, u8 32, u8 115, u8 99, u8 114, u8 105, u8 112, u8 116, u8 39, u8 115, u8 32, u8 104, u8 101, u8 97, u8 100, u8 32, u8 116, u8 104, u8 97, u8 116, u8 32, u8 105, u8 115, u8 32, u8 116, u8 111, u8 111, u8 32, u8 108, u8 97, u8 114, u8 103, u8 101]
abbrev mC : List UInt8 := [u8 116, u8 111, u8 111, u8 32, u8 109, u8 97, u8 110, u8 121, u8 32, u8 102, u8 105, u8 101, u8 108, u8 100, u8 115]
abbrev zq9 : List UInt8 := [u8 33, u8 35, u8 36, u8 37, u8 38, u8 39, u8 42, u8 43, u8 45, u8 46, u8 94, u8 95, u8 96, u8 124, u8 126]
abbrev qv : List UInt8 := [u8 97, u8 32, u8 102, u8 105, u8 101, u8 108, u8 100, u8 39, u8 115, u8 32, u8 110, u8 97, u8 109, u8 101, u8 32, u8 116, u8 104, u8 97, u8 116, u8 32, u8 105, u8 115, u8 32, u8 110, u8 111, u8 32, u8 116, u8 111, u8 107, u8 101, u8 110]
abbrev uv : List UInt8 := [u8 97, u8 32, u8 115, u8 116, u8 97, u8 116, u8 117, u8 115, u8 32, u8 119, u8 104, u8 111, u8 115, u8 101, u8 32, u8 114, u8 101, u8 97, u8 115, u8 111, u8 110, u8 32, u8 109, u8 97, u8 121, u8 32, u8 110, u8 111, u8 116, u8 32, u8 98, u8 101]
abbrev uu : List UInt8 := [u8 109, u8 111, u8 114, u8 101, u8 32, u8 116, u8 104, u8 97, u8 110, u8 32, u8 111, u8 110, u8 101, u8 32, u8 115, u8 116, u8 97, u8 116, u8 117, u8 115]
abbrev zq13 : List UInt8 := [u8 97, u8 32, u8 102, u8 105, u8 101, u8 108, u8 100, u8 32, u8 119, u8 105, u8 116, u8 104, u8 111, u8 117, u8 116, u8 32, u8 97, u8 32, u8 99, u8 111, u8 108, u8 111, u8 110]
abbrev zq14 : List UInt8 := [u8 97, u8 32, u8 102, u8 105, u8 101, u8 108, u8 100, u8 39, u8 115, u8 32, u8 118, u8 97, u8 108, u8 117, u8 101, u8 32, u8 119, u8 105, u8 116, u8 104, u8 32, u8 97, u8 32, u8 98, u8 121, u8 116, u8 101, u8 32, u8 116, u8 104, u8 97, u8 116, u8 32, u8 109, u8 97, u8 121, u8 32, u8 110, u8 111, u8 116, u8 32, u8 98, u8 101]
abbrev zq15 : List UInt8 := [u8 97, u8 32, u8 102, u8 105, u8 101, u8 108, u8 100, u8 39, u8 115, u8 32, u8 110, u8 97, u8 109, u8 101, u8 32, u8 116, u8 104, u8 97, u8 116, u8 32, u8 105, u8 115, u8 32, u8 116, u8 111, u8 111, u8 32, u8 108, u8 111, u8 110, u8 103]
abbrev zq16 : List UInt8 := [u8 97, u8 32, u8 102, u8 105, u8 101, u8 108, u8 100, u8 39, u8 115, u8 32, u8 118, u8 97, u8 108, u8 117, u8 101, u8 32, u8 116, u8 104, u8 97, u8 116, u8 32, u8 105, u8 115, u8 32, u8 116, u8 111, u8 111, u8 32, u8 108, u8 111, u8 110, u8 103]
theorem bS {C : Cx} : Is C (I6 0) (.int .i64 ((0 : Int))) := bg (v := .int .i64 0) (ct _ _) rfl
theorem hN0 : ([] : List UInt8).length = 0 := rfl
theorem bm {t : Int} : t + (0 : Int) = t := Int.add_zero t
def ph (w : World) : Prop := ∃ e fz, w.heap[0]? = some (.cells ⟨[.iface 80 (.agg #[typeHandle Tryd.prog 27])]⟩ e fz)
theorem laidE0_same {w w' : World} (h : ph w) (hh : w'.heap[0]? = w.heap[0]?) : ph w' := by
 obtain ⟨e, fz, hw⟩ := h
 exact ⟨e, fz, by rw [hh]; exact hw⟩
theorem laidE0_size {w : World} (h : ph w) : 0 < w.heap.size := by
 obtain ⟨e, fz, hw⟩ := h
 rcases Nat.lt_or_ge 0 w.heap.size with h0 | h0
 ·exact h0
 ·rw [Array.getElem?_eq_none h0] at hw; cases hw
theorem geOf {C : Cx} {w : World} (hP : C.P = Tryd.prog) (h : ph w) : ∃ e, ow C w 0 e [.aZ 80 (.ag [.h 27])] := by
 obtain ⟨e, fz, h0⟩ := h
 refine ⟨e, _, fz, h0, rfl, fun j a hj => ?_⟩
 match j, hj with
 | 0, hj =>
  simp only [List.getElem?_cons_zero, Option.some.injEq] at hj
  subst hj
  refine ⟨.iface 80 (.agg #[typeHandle Tryd.prog 27]), rfl, ?_, rfl⟩
  simp only [Rel, aJ, hP]
  exact ⟨_, rfl, _, rfl, _, _, rfl, rfl, rfl⟩
 | j + 1, hj => simp at hj
def aH (w : World) : Prop := ph w
theorem aQ : ∀ w w' : World, (∀ k, k < 1 → w'.heap[k]? = w.heap[k]?) → aH w → aH w' := fun w w' h hE => laidE0_same hE (h 0 (by omega))
theorem C8 {w : World} (h : aH w) : 1 ≤ w.heap.size := by
 have hE := h
 have := laidE0_size hE
 omega
noncomputable def H0 (e : Nat) : T aS := T.set .leaf 0 (oP e (.l [.aZ 80 (.ag [.h 27])]))
theorem pG {nu : Nat → Value} {one : ∀ i, i < 1000000 → (nu i).oneCell' = true} {tb : Tab} (h : aq (cx nu one 1 aH aQ) tb) (aW : tb.ng = 4) {f g : Nat} {fi : FI} (hfi : tb.fn.get g = some fi) (hb : fi.body.isSome = true) {l : List AV} {args : List Value}
 (hr : ∀ e, okB (call tb f g l ⟨H0 e , 4, 0, 0⟩) = true) (hl : aJ (cx nu one 1 aH aQ) (fun _ => none) l args) (w : World) (hw : aH w) :
 Calls Tryd.prog g ⟨args⟩ w fun e w' => e = .returned (.bool true) ∧ Go.AX.Below (Go.AX.Fz.lt w.heap.size) w w' := by
 have hE := id hw
 obtain ⟨e, g0⟩ := geOf (C := cx nu one 1 aH aQ) rfl hE
 obtain ⟨S, hS⟩ := aS1 (hr e)
 refine (aR1 h (H := H0 e ) hfi hb (by rw [aW]; exact hS) hl w hw (C8 hw) fun v k hv => ?_).mono fun e' w' he => ?_
 ·unfold H0 at hv
  rw [dY _ _ _ _ (by omega)] at hv
  split at hv
  ·rename_i e0; subst e0; injection hv with hv; subst hv
   exact ⟨by rw [aW]; omega, e, _, _, rfl, ⟨trivial, rfl⟩, g0⟩
  simp [T.dH] at hv
 ·obtain ⟨x, ρ, rfl, hx, hb⟩ := he
  simp only [Rel] at hx
  exact ⟨by rw [hx], hb⟩
theorem runA {nu : Nat → Value} {one : ∀ i, i < 1000000 → (nu i).oneCell' = true} {tb : Tab} (h : aq (cx nu one 1 aH aQ) tb) (aW : tb.ng = 4) {f g : Nat} {fi : FI} (hfi : tb.fn.get g = some fi) (hb : fi.body.isSome = true) {l : List AV} {args : List Value} {ra : AV} (hnr : iE 8 ra = true)
 (hr : ∀ e, okA (call tb f g l ⟨H0 e , 4, 0, 0⟩) ra = true) (hl : aJ (cx nu one 1 aH aQ) (fun _ => none) l args) (w : World) (hw : aH w) :
 Calls Tryd.prog g ⟨args⟩ w fun e w' => ∃ x, e = .returned x ∧ Rel (cx nu one 1 aH aQ) (fun _ => none) ra x ∧ Go.AX.Below (Go.AX.Fz.lt w.heap.size) w w' := by
 have hE := id hw
 obtain ⟨e, g0⟩ := geOf (C := cx nu one 1 aH aQ) rfl hE
 obtain ⟨S, hS⟩ := okA_inv (hr e)
 refine (aR1 h (H := H0 e ) hfi hb (by rw [aW]; exact hS) hl w hw (C8 hw) fun v k hv => ?_).mono fun e' w' he => ?_
 ·unfold H0 at hv
  rw [dY _ _ _ _ (by omega)] at hv
  split at hv
  ·rename_i e0; subst e0; injection hv with hv; subst hv
   exact ⟨by rw [aW]; omega, e, _, _, rfl, ⟨trivial, rfl⟩, g0⟩
  simp [T.dH] at hv
 ·obtain ⟨x, ρ, rfl, hx, hb⟩ := he
  exact ⟨x, rfl, yC 8 _ hnr _ hx, hb⟩
theorem rU {nu : Nat → Value} {one : ∀ i, i < 1000000 → (nu i).oneCell' = true} {tb : Tab} (h : aq (cx nu one 1 aH aQ) tb) (aW : tb.ng = 4) {f g : Nat} {fi : FI} (hfi : tb.fn.get g = some fi) (hb : fi.body.isSome = true) {l : List AV} {args : List Value} (rs0 : List aS) (rs : List R)
 (hr : okB (call tb f g l ⟨j9 4 rs0 .leaf, 4 + rs0.length, 0, 0⟩) = true) (hl : aJ (cx nu one 1 aH aQ) (ij 4 rs) l args) (w : World) (hw : aH w) (hlen : rs0.length = rs.length) (hbd : 4 + rs0.length ≤ 16777213) (hA : ∀ (j : Nat) (k : aS) (r : R), rs0[j]? = some k → rs[j]? = some r → mB (cx nu one 1 aH aQ) w .leaf k r) (hnd : rs0.all dh = true) :
 Calls Tryd.prog g ⟨args⟩ w fun e w' => e = .returned (.bool true) ∧ Go.AX.Below (Go.AX.Fz.lt w.heap.size) w w' := by
 obtain ⟨S, hS⟩ := aS1 hr
 refine (run_okGA h (H := .leaf) hfi hb rs0 rs (by rw [aW]; exact hS) (by rw [aW]; exact hl) w hw (C8 hw) hlen (by rw [aW]; exact hbd) hA hnd fun v k hv => ?_).mono fun e' w' he => ?_
 ·simp [T.dH] at hv
 ·obtain ⟨x, ρ, rfl, hx, hb⟩ := he
  simp only [Rel] at hx
  exact ⟨by rw [hx], hb⟩
noncomputable def fk : FI := ⟨Tryd.f4.body, Tryd.f4.ntmps, Tryd.f4.results.toList, 0, none, []⟩
theorem fk_at : tab.fn.get 4 = some fk := by kernel_rfl
theorem aX1 : fk.body.isSome = true := by kernel_rfl
theorem kk (e : Nat) : okB (call tab 6000 4 [] ⟨H0 e , 4, 0, 0⟩) = true := by kernel_rfl
noncomputable def cD : Tab := addSum tab 4 fk (.b true)
section
variable (nu : Nat → Value) (one : ∀ i, i < 1000000 → (nu i).oneCell' = true)
theorem sumk : Gd (cx nu one 1 aH aQ) 4 (.b true) := fun w hi hs => by
 refine (pG (tabOk nu one 1 aH aQ) rfl fk_at aX1 kk (args := []) (by simp only [aJ]) w hi).mono fun e w' he => ?_
 exact ⟨.bool true, he.1, by simp only [Rel], he.2⟩
theorem ab : aq (cx nu one 1 aH aQ) cD := (tabOk nu one 1 aH aQ).sum (by omega) fk_at aX1 (sumk nu one)
end
theorem fM : Tryd.prog.underlying 3 = some (.int .i64) := by kernel_rfl
theorem tu9 : Tryd.prog.underlying 9 = some .string := by kernel_rfl
theorem o5 : Tryd.prog.underlying 40 = some (.int .i64) := by kernel_rfl
theorem e9 : Tryd.prog.funcs[67]? = some Tryd.f67 := Tryd.func67
theorem fB : (Extern.findNext Tryd.f67).isNone = true := by kernel_rfl
theorem fA : Extern.find Tryd.f67 = some Extern.BytealgIndexByte.indexByte := by kernel_rfl
noncomputable def aT (h : LK) : Tab := { cD with hyp := h }
theorem fiE : ∃ fi, cD.fn.get 3 = some fi ∧ fi.body.isSome = true := ⟨_, rfl, by kernel_rfl⟩
abbrev bp (g : Nat) (args : Array Value) (w : World) (v : Value) : Prop := Calls Tryd.prog g args w fun e w' => e = .returned v ∧ Go.AX.Below (Go.AX.Fz.lt w.heap.size) w w'
theorem cR {nu : Nat → Value} {one : ∀ i, i < 1000000 → (nu i).oneCell' = true} {tb : Tab} {ra : AV} {v : Value} (hnr : iE 8 ra = true) (h : aq (cx nu one 1 aH aQ) tb) (aW : tb.ng = 4) {f g : Nat} {fi : FI} (hfi : tb.fn.get g = some fi) (hb : fi.body.isSome = true) {l : List AV} {args : List Value}
 (hr : ∀ e, okA (call tb f g l ⟨H0 e , 4, 0, 0⟩) ra = true) (hl : aJ (cx nu one 1 aH aQ) (fun _ => none) l args) (w : World) (hw : aH w) (hv : ∀ x, Rel (cx nu one 1 aH aQ) (fun _ => none) ra x → x = v) : bp g ⟨args⟩ w v :=
 (runA h aW hfi hb hnr hr hl w hw).mono fun e w' he => by
   obtain ⟨x, rfl, hx, hb2⟩ := he
   exact ⟨by rw [hv x hx], hb2⟩
variable {nu : Nat → Value} {one : ∀ i, i < 1000000 → (nu i).oneCell' = true} {E' : Cx} {x' : Ex} {e' : LA} {h' : LE}
def iP : Nat := 10633823810298881996667002598709002240
noncomputable def uU (e : Nat) (n : Nat) : Bool := okA (call cD 9000 64 [.i .u8 (.ofNat n)] ⟨H0 e , 4, 0, 0⟩) (.b (Nat.testBit iP n))
theorem bfAln_0 (e : Nat) : fF (uU e ) 0 64 = true := by kernel_rfl
theorem bfAln_1 (e : Nat) : fF (uU e ) 64 64 = true := by kernel_rfl
theorem bfAln_2 (e : Nat) : fF (uU e ) 128 64 = true := by kernel_rfl
theorem bfAln_3 (e : Nat) : fF (uU e ) 192 64 = true := by kernel_rfl
theorem bfAln_all (e : Nat) (n : Nat) (h : n < 256) : uU e n = true := by
 rcases (show n / 64 = 0 ∨ n / 64 = 1 ∨ n / 64 = 2 ∨ n / 64 = 3 by omega) with h | h | h | h
 ·exact ft (bfAln_0 e ) n (by omega) (by omega)
 ·exact ft (bfAln_1 e ) n (by omega) (by omega)
 ·exact ft (bfAln_2 e ) n (by omega) (by omega)
 ·exact ft (bfAln_3 e ) n (by omega) (by omega)
theorem callsAln (n : Nat) (h : n < 256) (w : World) (hl : aH w) : bp 64 #[.int .u8 (n : Int)] w (.bool (tb8 iP (n : Int))) := by
 refine cR (tb := cD) rfl (ab (bA []) (fun j _ => aV (l := []) rfl j)) rfl (fi := fI Tryd.f64 0) rfl (by kernel_rfl) (fun e => bfAln_all e n h) (args := [.int .u8 (n : Int)]) (by simp only [aJ, Rel]; exact ⟨_, _, rfl, rfl, rfl⟩) w hl fun x hx => ?_
 simp only [Rel] at hx
 rw [hx]; rfl
theorem Fh {x0 r : AV} {c : Int} (i0 : Is (cx nu one 1 aH aQ) x0 (.int .u8 c)) (b0 : 0 ≤ c) (b1 : c ≤ 255) (hr : Den (cx nu one 1 aH aQ) r (.bool (tb8 iP c))) : aM (cx nu one 1 aH aQ) (.call 64 [x0]) r := by
 intro ρ args ha w hl _
 simp only [aJ] at ha
 obtain ⟨v0, t0, rfl, a0, rfl⟩ := ha
 have e0 := i0 ρ _ a0; subst e0
 obtain ⟨n, rfl⟩ := Int.eq_ofNat_of_zero_le b0
 exact (callsAln n (by omega) w hl).mono fun e w' he => ⟨_, he.1, hr ρ, he.2⟩
def BA : List Int := List.replicate 33 (-1) ++ [0, (-1), 1, 2, 3, 4, 5, (-1), (-1), 6, 7, (-1), 8, 9] ++ List.replicate 47 (-1) ++ [10, 11, 12] ++ List.replicate 27 (-1) ++ [13, (-1), 14] ++ List.replicate 129 (-1)
def hY (c : Int) : Int := BA.getD c.toNat 0
noncomputable def uS (e : Nat) (n : Nat) : Bool := okA (call cD 9000 65 [.s 15 qw, .i .u8 (.ofNat n)] ⟨H0 e , 4, 0, 0⟩) (.i .i64 (BA.getD n 0))
theorem bfIxt_0 (e : Nat) : fF (uS e ) 0 64 = true := by kernel_rfl
theorem bfIxt_1 (e : Nat) : fF (uS e ) 64 64 = true := by kernel_rfl
theorem bfIxt_2 (e : Nat) : fF (uS e ) 128 64 = true := by kernel_rfl
theorem bfIxt_3 (e : Nat) : fF (uS e ) 192 64 = true := by kernel_rfl
theorem bfIxt_all (e : Nat) (n : Nat) (h : n < 256) : uS e n = true := by
 rcases (show n / 64 = 0 ∨ n / 64 = 1 ∨ n / 64 = 2 ∨ n / 64 = 3 by omega) with h | h | h | h
 ·exact ft (bfIxt_0 e ) n (by omega) (by omega)
 ·exact ft (bfIxt_1 e ) n (by omega) (by omega)
 ·exact ft (bfIxt_2 e ) n (by omega) (by omega)
 ·exact ft (bfIxt_3 e ) n (by omega) (by omega)
theorem callsIxt (n : Nat) (h : n < 256) (w : World) (hl : aH w) : bp 65 #[St' zq9, .int .u8 (n : Int)] w (.int .i64 (hY (n : Int))) := by
 refine cR (tb := cD) rfl (ab (bA []) (fun j _ => aV (l := []) rfl j)) rfl (fi := fI Tryd.f65 0) rfl (by kernel_rfl) (fun e => bfIxt_all e n h) (args := [St' zq9, .int .u8 (n : Int)]) (by simp only [aJ, Rel]; exact ⟨_, _, rfl, ⟨rfl, by decide⟩, ⟨_, _, rfl, rfl, rfl⟩⟩) w hl fun x hx => ?_
 simp only [Rel] at hx
 rw [hx]; rfl
theorem hokIxt {x0 x1 r : AV} {c : Int} (i0 : Is (cx nu one 1 aH aQ) x0 (St' zq9)) (i1 : Is (cx nu one 1 aH aQ) x1 (.int .u8 c)) (b0 : 0 ≤ c) (b1 : c ≤ 255) (hr : Den (cx nu one 1 aH aQ) r (.int .i64 (hY c))) : aM (cx nu one 1 aH aQ) (.call 65 [x0, x1]) r := by
 intro ρ args ha w hl _
 simp only [aJ] at ha
 obtain ⟨v0, t0, rfl, a0, v1, t1, rfl, a1, rfl⟩ := ha
 have e0 := i0 ρ _ a0; subst e0
 have e1 := i1 ρ _ a1; subst e1
 obtain ⟨n, rfl⟩ := Int.eq_ofNat_of_zero_le b0
 exact (callsIxt n (by omega) w hl).mono fun e w' he => ⟨_, he.1, hr ρ, he.2⟩
theorem rIxt {c : Int} (b0 : 0 ≤ c) (b1 : c ≤ 255) : (-1) ≤ hY c ∧ hY c ≤ 14 := by
 obtain ⟨n, rfl⟩ := Int.eq_ofNat_of_zero_le b0
 have h : ∀ m : Fin 256, (-1) ≤ BA.getD m.val 0 ∧ BA.getD m.val 0 ≤ 14 := by decide +kernel
 exact h ⟨n, by omega⟩
def kg : Nat := 116972063611741436228934278030836105216
def fN (b : UInt8) : Bool := tb8 kg (b.toNat : Int)
def cU (s : LB) : Bool := s.all fN && decide (¬ s.length = 0)
theorem tk_at {s : LB} {i : Int} (h0 : 0 ≤ i) (h : i < s.length) : (s.drop i.toNat).all fN = (tb8 kg (bt s i.toNat) && (s.drop (Int.toNat (i + 1))).all fN) := by
 have e : s.drop i.toNat = u8 (bt s i.toNat) :: s.drop (i.toNat + 1) := by
  rw [List.drop_eq_getElem_cons (by omega), qz, List.getD_eq_getElem?_getD, List.getElem?_eq_getElem (by omega), Option.getD_some]
 rw [e, List.all_cons, fN, nU (bQ _ _) (bR _ _), show (i + 1).toNat = i.toNat + 1 by omega]
theorem tk_yes {s : LB} {i : Int} {A : Bool} (h0 : 0 ≤ i) (h : i < s.length) (hb : tb8 kg (bt s i.toNat) = true) (hA : (s.drop i.toNat).all fN = A) : (s.drop (Int.toNat (i + 1))).all fN = A := by
 rw [tk_at h0 h, hb, Bool.true_and] at hA; exact hA
theorem tk_no {s : LB} {i : Int} {A : Bool} (h0 : 0 ≤ i) (h : i < s.length) (hb : tb8 kg (bt s i.toNat) = false) (hA : (s.drop i.toNat).all fN = A) : A = false := by
 rw [tk_at h0 h, hb, Bool.false_and] at hA; exact hA.symm
theorem tk_end {s : LB} {i : Int} {A : Bool} (h : (s.length : Int) ≤ i) (hA : (s.drop i.toNat).all fN = A) : A = true := by
 rw [List.drop_eq_nil_of_le (by omega)] at hA; exact hA.symm
theorem tkA1 {c : Int} (h0 : 0 ≤ c) (h1 : c ≤ 255) (a0 : tb8 iP c = true) : tb8 kg c = true := by
 obtain ⟨n, rfl⟩ := Int.eq_ofNat_of_zero_le h0
 have h : ∀ m : Fin 256, (tb8 iP (m.val : Int) = true) → tb8 kg (m.val : Int) = true := by decide +kernel
 exact h ⟨n, by omega⟩ a0
theorem tkA2 {c : Int} (h0 : 0 ≤ c) (h1 : c ≤ 255) (a0 : ¬ tb8 iP c = true) (a1 : ¬ hY c < 0) : tb8 kg c = true := by
 obtain ⟨n, rfl⟩ := Int.eq_ofNat_of_zero_le h0
 have h : ∀ m : Fin 256, (¬ tb8 iP (m.val : Int) = true) → (¬ hY (m.val : Int) < 0) → tb8 kg (m.val : Int) = true := by decide +kernel
 exact h ⟨n, by omega⟩ a0 a1
theorem tkA3 {c : Int} (h0 : 0 ≤ c) (h1 : c ≤ 255) (a0 : ¬ tb8 iP c = true) (a1 : hY c < 0) : tb8 kg c = false := by
 obtain ⟨n, rfl⟩ := Int.eq_ofNat_of_zero_le h0
 have h : ∀ m : Fin 256, (¬ tb8 iP (m.val : Int) = true) → (hY (m.val : Int) < 0) → tb8 kg (m.val : Int) = false := by decide +kernel
 exact h ⟨n, by omega⟩ a0 a1
noncomputable def An : Code := gi (Tryd.f51.body.getD .skip) 0
theorem C9 : gC (di (Tryd.f51.body.getD .skip)) 2 0 0 = true := by kernel_rfl
def mh : List Nat := []
def AW : LA := [(0, .x 0), (2, .b false), (6, .x 1), (5, .x 2)]
def zo : LE := []
def xZ (s : LB) (A : Bool) (i : Int) : List Value := [St' s, .int .i64 (i), .int .i64 ((s.length : Int)), .int .u8 (bt s i.toNat), .int .i64 (i + 1), .int .u8 (bt s i.toNat), .int .i64 (hY (bt s i.toNat)), .int .i64 (i + 1), .int .u8 (bt s i.toNat), .int .i64 (hY (bt s i.toNat))]
def roKa_0 (s : LB) (A : Bool) (i : Int) : List Value := []
def qX (st : Nat × Int) : LA := AW
def zp (st : Nat × Int) : LE := zo
def nuKa (s : LB) (A : Bool) (st : Nat × Int) : List Value := xZ s A (st.2)
def roKa (s : LB) (A : Bool) (st : Nat × Int) : List Value := roKa_0 s A (st.2)
theorem onKa (s : LB) (A : Bool) (st : Nat × Int) : ∀ j, (bA (nuKa s A st) j).oneCell' = true := by
 intro j
 unfold nuKa
 exact aV (l := xZ s A (st.2)) rfl j
theorem ebKa (st : Nat × Int) : (dX (qX st) && ef mh) = true := by
 unfold qX
 rfl
noncomputable def DKa (s : LB) (A : Bool) (st : Nat × Int) (X : Nat → Value) : Cx := cx (bG (nuKa s A st) (rX (roKa s A st) X)) (bJ (onKa s A st)) 1 aH aQ
abbrev CjKa (s : LB) (A : Bool) (tag : Nat) (i : Int) : Prop := (0 ≤ i) ∧ (i ≤ (s.length : Int)) ∧ ((s.drop i.toNat).all fN = A) ∧ (tag < 1)
def kn (s : LB) (A : Bool) (st : Nat × Int) : Prop := CjKa s A st.1 (st.2)
theorem sd {s : LB} {A : Bool} {tag : Nat} {i : Int} (h : CjKa s A tag i) : kn s A (tag, i) := h
theorem vG (s : LB) (A : Bool) (tag : Nat) (i : Int) (h : kn s A (tag, i)) : CjKa s A tag i := h
def sa (s : LB) (A : Bool) (st : Nat × Int) : Nat := (s.length - (st.2).toNat)
abbrev qm (s : LB) (A : Bool) (E' : Cx) (ex' : Ex) (epx' : LA) (hpx' : LE) (st : Nat × Int) (X : Nat → Value) : Prop := bj E' An mh 24 ex' 4 4 4 4 qX zp epx' hpx' (kn s A) (sa s A) (DKa s A) st X
noncomputable abbrev BU (s : LB) (A : Bool) (i : Int) (X : Nat → Value) : Cx := cx (bG (xZ s A i) (rX (roKa_0 s A i) X)) (bJ (aV (l := xZ s A i) rfl)) 1 aH aQ
noncomputable abbrev qh (h : LK) (x : Ex) (th : LA) (sg : List (Nat × Nat)) (m : Nat) (ep : LA) (hp : LE) : Bool := bP (code (aT h) 900 [] An (bD (bH AW mh) 24) ⟨ae zo .leaf, 4, 0, 0⟩) x mh 24 4 th sg 4 m ep hp
theorem stKa_0 {s : LB} {A : Bool} {i : Int} {X : Nat → Value} {h : LK} (y : Nat × Int) {th : LA} {sg : List (Nat × Nat)} (ho : ∀ a' r', (a', r') ∈ h → aM (BU s A i X) a' r') (hy : kn s A y) (lt : sa s A y < sa s A (0, i)) (ht : bE (BU s A i X) (DKa s A y X) th) (run : qh h .normal th sg 4 (qX y) (zp y) = true) : qm s A E' x' e' h' (0, i) X :=
 bj.next (tb := aT h) (L := []) (f := 900) y ((ab _ _).hyps ho) (bV.nil _) rfl hy lt ht run
theorem lvKa_0 {s : LB} {A : Bool} {i : Int} {X : Nat → Value} {h : LK} {th : LA} {sg : List (Nat × Nat)} (hne : cn x' .normal = false) (ho : ∀ a' r', (a', r') ∈ h → aM (BU s A i X) a' r') (ht : bE (BU s A i X) E' th) (run : qh h x' th sg 4 e' h' = true) : qm s A E' x' e' h' (0, i) X :=
 bj.leave (tb := aT h) (L := []) (f := 900) ((ab _ _).hyps ho) (bV.nil _) rfl hne ht run
def Ei : LK := [(.bin .lss (.x 1) (.x 2), .b false)]
theorem runKa_p0 : qh Ei (.exit 0) [(0, .x 0)] [] 4 [(0, .x 0), (2, .b false)] [] = true := by kernel_rfl
def Eh : LK := [(.bin .lss (.x 1) (.x 2), .b true), (.idx (.x 0) (.x 1), .x 3), (.call 64 [.x 3], .b true), (.bin .add (.x 1) (I6 1), .x 4)]
theorem runKa_p1 : qh Eh .normal [(0, .x 0), (1, .x 4), (2, .x 2)] [] 4 AW zo = true := by kernel_rfl
def Eg : LK := [(.bin .lss (.x 1) (.x 2), .b true), (.idx (.x 0) (.x 1), .x 5), (.call 64 [.x 5], .b false), (.call 65 [.s 15 qw, .x 5], .x 6), (.bin .lss (.x 6) (I6 0), .b false), (.bin .add (.x 1) (I6 1), .x 7)]
theorem runKa_p2 : qh Eg .normal [(0, .x 0), (1, .x 7), (2, .x 2)] [] 4 AW zo = true := by kernel_rfl
def Ef : LK := [(.bin .lss (.x 1) (.x 2), .b true), (.idx (.x 0) (.x 1), .x 8), (.call 64 [.x 8], .b false), (.call 65 [.s 15 qw, .x 8], .x 9), (.bin .lss (.x 9) (I6 0), .b true)]
theorem runKa_p3 : qh Ef .ret [] [] 4 [(2, .b false)] [] = true := by kernel_rfl
section
set_option linter.unusedSectionVars false
variable {s : LB} {A : Bool} (c0 : s.length ≤ 140737488355328) {i : Int} {X : Nat → Value}
include c0
theorem aS5 (hI : kn s A (0, i)) (h0 : i < (s.length : Int)) (h1 : tb8 iP (bt s i.toNat) = true) : qm s A E' x' e' h' (0, i) X := by
 obtain ⟨i0, i1, i2, it⟩ := vG s A 0 i hI
 have := bQ s i.toNat; have := bR s i.toNat
 refine stKa_0 (h := Eh) (0, (i + 1)) ?_ (sd ⟨by omega, by omega, tk_yes (by omega) (by omega) (by first | exact tkA1 (bQ _ _) (bR _ _) (by assumption) | exact tkA2 (bQ _ _) (bR _ _) (by assumption) (by assumption)) i2, by omega⟩) (by show s.length - (i + 1).toNat < s.length - i.toNat; omega) (aB (v := St' s) (bc (b := ((i + 1))) rfl rfl (by omega) (aB (v := .int .i64 ((s.length : Int))) (aI)))) runKa_p1
 unfold Eh
 exact hc bU <|hc dG <|hc (Fh (aA rfl) (by omega) (by omega) (dJ (by assumption))) <|hc au <|hnil
theorem aS4 (hI : kn s A (0, i)) (h0 : i < (s.length : Int)) (h1 : ¬ (tb8 iP (bt s i.toNat) = true)) (h2 : ¬ (hY (bt s i.toNat) < 0)) : qm s A E' x' e' h' (0, i) X := by
 obtain ⟨i0, i1, i2, it⟩ := vG s A 0 i hI
 have := bQ s i.toNat; have := bR s i.toNat
 have := rIxt (c := bt s i.toNat) (by omega) (by omega)
 refine stKa_0 (h := Eg) (0, (i + 1)) ?_ (sd ⟨by omega, by omega, tk_yes (by omega) (by omega) (by first | exact tkA1 (bQ _ _) (bR _ _) (by assumption) | exact tkA2 (bQ _ _) (bR _ _) (by assumption) (by assumption)) i2, by omega⟩) (by show s.length - (i + 1).toNat < s.length - i.toNat; omega) (aB (v := St' s) (bc (b := ((i + 1))) rfl rfl (by omega) (aB (v := .int .i64 ((s.length : Int))) (aI)))) runKa_p2
 unfold Eg
 exact hc bU <|hc dG <|hc (Fh (aA rfl) (by omega) (by omega) (jy (by assumption))) <|hc (hokIxt (ar (l := zq9) 15 qw rfl) (aA rfl) (by omega) (by omega) (aG rfl)) <|hc lO <|hc au <|hnil
end
def aU9 (s : LB) (A : Bool) : List Value := [St' s]
def roEKa_0 (s : LB) (A : Bool) : List Value := []
noncomputable def EKa_0 (s : LB) (A : Bool) : Cx := cx (bG (aU9 s A) (rX (roEKa_0 s A) (fun _ => .bool true))) (bJ (aV (l := aU9 s A) rfl)) 1 aH aQ
theorem roundsKa_0 (s : LB) (A : Bool) (c0 : s.length ≤ 140737488355328) (x0 : A = true) (st : Nat × Int) (X : Nat → Value) (hI : kn s A st) : qm s A (EKa_0 s A) (.exit 0) [(0, .x 0), (2, .b false)] [] st X := by
 obtain ⟨tag, i⟩ := st
 have hI0 := hI
 obtain ⟨i0, i1, i2, it⟩ := vG s A tag i hI
 obtain rfl : tag = 0 := by omega
 skip
 by_cases h0 : i < (s.length : Int)
 ·by_cases h1 : tb8 iP (bt s i.toNat) = true
  ·exact aS5 c0 hI0 h0 h1
  ·by_cases h2 : hY (bt s i.toNat) < 0
   ·exfalso; have e := tk_no (by omega) (by omega) (tkA3 (bQ _ _) (bR _ _) (by assumption) (by assumption)) i2; rw [e] at x0; exact absurd x0 (by simp)
   ·exact aS4 c0 hI0 h0 h1 h2
 ·refine lvKa_0 (h := Ei) rfl ?_ (aB (v := St' s) (aI)) runKa_p0
  unfold Ei
  exact hc dV <|hnil
theorem aL8 (s : LB) (A : Bool) (c0 : s.length ≤ 140737488355328) (x0 : A = true) : bI (cx nu one 1 aH aQ) (EKa_0 s A) An mh 24 (.exit 0) 4 4 4 4 qX zp [(0, .x 0), (2, .b false)] [] (kn s A) (DKa s A) :=
 dW (sa s A) (fun _ _ => rfl) (fun _ _ => rfl) (fun _ _ => rfl) (fun st X t ht => dT.trans (dS ((by decide : ∀ t, t ∈ mh → t < 1000000) t ht))) rfl rfl rfl ebKa rfl rfl (roundsKa_0 s A c0 x0)
def aU8 (s : LB) (A : Bool) : List Value := []
def roEKa_1 (s : LB) (A : Bool) : List Value := []
noncomputable def EKa_1 (s : LB) (A : Bool) : Cx := cx (bG (aU8 s A) (rX (roEKa_1 s A) (fun _ => .bool true))) (bJ (aV (l := aU8 s A) rfl)) 1 aH aQ
theorem roundsKa_1 (s : LB) (A : Bool) (c0 : s.length ≤ 140737488355328) (x0 : A = false) (st : Nat × Int) (X : Nat → Value) (hI : kn s A st) : qm s A (EKa_1 s A) .ret [(2, .b false)] [] st X := by
 obtain ⟨tag, i⟩ := st
 have hI0 := hI
 obtain ⟨i0, i1, i2, it⟩ := vG s A tag i hI
 obtain rfl : tag = 0 := by omega
 skip
 by_cases h0 : i < (s.length : Int)
 ·by_cases h1 : tb8 iP (bt s i.toNat) = true
  ·exact aS5 c0 hI0 h0 h1
  ·by_cases h2 : hY (bt s i.toNat) < 0
   ·have := bQ s i.toNat; have := bR s i.toNat
    have := rIxt (c := bt s i.toNat) (by omega) (by omega)
    refine lvKa_0 (h := Ef) rfl ?_ (aI) runKa_p3
    unfold Ef
    exact hc bU <|hc dG <|hc (Fh (aA rfl) (by omega) (by omega) (jy (by assumption))) <|hc (hokIxt (ar (l := zq9) 15 qw rfl) (aA rfl) (by omega) (by omega) (aG rfl)) <|hc yP <|hnil
   ·exact aS4 c0 hI0 h0 h1 h2
 ·exfalso; have e := tk_end (by omega) i2; rw [e] at x0; exact absurd x0 (by simp)
theorem lfOkKa_1 (s : LB) (A : Bool) (c0 : s.length ≤ 140737488355328) (x0 : A = false) : bI (cx nu one 1 aH aQ) (EKa_1 s A) An mh 24 .ret 4 4 4 4 qX zp [(2, .b false)] [] (kn s A) (DKa s A) :=
 dW (sa s A) (fun _ _ => rfl) (fun _ _ => rfl) (fun _ _ => rfl) (fun st X t ht => dT.trans (dS ((by decide : ∀ t, t ∈ mh → t < 1000000) t ht))) rfl rfl rfl ebKa rfl rfl (roundsKa_1 s A c0 x0)
noncomputable def qO : FI := (cD.fn.get 51).getD default
theorem F4 : cD.fn.get 51 = some qO := by kernel_rfl
theorem AG : qO.body = some (Tryd.f51.body.getD .skip) := by kernel_rfl
theorem F2 : qO.body.isSome = true := by rw [AG]; rfl
def DY : LK := [(.len (.x 0), .x 1), (.bin .neq (.x 2) (.s 0 0), .b false)]
def lh4 : LH := ⟨4, 4, 4, [], []⟩
def lf4 : LF := ⟨2, 24, [(0, .x 0), (2, .b false), (6, I6 0), (5, .x 1)], [], (.exit 0), [(0, .x 2), (2, .b false)], some lh4⟩
noncomputable def aE0 : Tab := bL ({ cD with hyp := DY }) 51 qO [lf4]
theorem runTokA_0 (e : Nat) : okA (call aE0 9000 51 [.x 0] ⟨H0 e , 4, 0, 0⟩) (.b false) = true := by kernel_rfl
def wi (s : LB) : List Value := [St' s, .int .i64 ((s.length : Int)), St' s]
theorem pathTokA_0 (s : LB) (b0 : s.length ≤ 9223372036854775807) (p0 : s.length ≤ 140737488355328) (h0 : s.all fN = true) (h1 : (s.length : Int) = 0) (w : World) (hl : aH w) : bp 51 #[St' s] w (.bool false) := by
 have ho : ∀ k r, (k, r) ∈ DY → aM (cx (bA (wi s)) (fun j _ => aV (l := wi s) rfl j) 1 aH aQ) k r := by
  unfold DY
  exact hc av <|hc (kNeS (aA rfl) (ar (l := ([] : LB)) 0 0 rfl) (bnF (mU (by omega)))) <|hnil
 refine cR (tb := aE0) (ra := .b false) rfl (aq.bz ((ab (bA (wi s)) (fun j _ => aV (l := wi s) rfl j)).hyps ho) (by omega) F4 AG (bK (bx rfl ⟨0, C9, bI.use (l := lf4) (h := lh4) (aL8 s (s.all fN) (by omega) (by assumption)) (0, (0 : Int)) (sd ⟨by omega, by omega, rfl, by omega⟩) rfl (by kernel_rfl) (ao := [(0, .x 0), (1, I6 0), (2, .x 1)]) (ai := []) (fun X => aB (v := St' s) (ad bS (aB (v := .int .i64 ((s.length : Int))) (aI)))) (by kernel_rfl) (ak := [(2, .x 0)]) (aB (v := St' s) (aI)) (by kernel_rfl)⟩) aj)) rfl (ez (by omega)) F2 (fun e => runTokA_0 e ) (args := [St' s]) (by simp only [aJ, Rel]; exact ⟨_, _, rfl, rfl, rfl⟩) w hl fun x hx => ?_
 simp only [Rel, aJ] at hx
 exact hx
def DX : LK := [(.len (.x 0), .x 1), (.bin .neq (.x 2) (.s 0 0), .b true)]
noncomputable def aD9 : Tab := bL ({ cD with hyp := DX }) 51 qO [lf4]
theorem runTokA_1 (e : Nat) : okA (call aD9 9000 51 [.x 0] ⟨H0 e , 4, 0, 0⟩) (.b true) = true := by kernel_rfl
def wh (s : LB) : List Value := [St' s, .int .i64 ((s.length : Int)), St' s]
theorem pathTokA_1 (s : LB) (b0 : s.length ≤ 9223372036854775807) (p0 : s.length ≤ 140737488355328) (h0 : s.all fN = true) (h1 : ¬ ((s.length : Int) = 0)) (w : World) (hl : aH w) : bp 51 #[St' s] w (.bool true) := by
 have ho : ∀ k r, (k, r) ∈ DX → aM (cx (bA (wh s)) (fun j _ => aV (l := wh s) rfl j) 1 aH aQ) k r := by
  unfold DX
  exact hc av <|hc (kNeS (aA rfl) (ar (l := ([] : LB)) 0 0 rfl) (bnT (fO (by omega)))) <|hnil
 refine cR (tb := aD9) (ra := .b true) rfl (aq.bz ((ab (bA (wh s)) (fun j _ => aV (l := wh s) rfl j)).hyps ho) (by omega) F4 AG (bK (bx rfl ⟨0, C9, bI.use (l := lf4) (h := lh4) (aL8 s (s.all fN) (by omega) (by assumption)) (0, (0 : Int)) (sd ⟨by omega, by omega, rfl, by omega⟩) rfl (by kernel_rfl) (ao := [(0, .x 0), (1, I6 0), (2, .x 1)]) (ai := []) (fun X => aB (v := St' s) (ad bS (aB (v := .int .i64 ((s.length : Int))) (aI)))) (by kernel_rfl) (ak := [(2, .x 0)]) (aB (v := St' s) (aI)) (by kernel_rfl)⟩) aj)) rfl (ez (by omega)) F2 (fun e => runTokA_1 e ) (args := [St' s]) (by simp only [aJ, Rel]; exact ⟨_, _, rfl, rfl, rfl⟩) w hl fun x hx => ?_
 simp only [Rel, aJ] at hx
 exact hx
def DW : LK := [(.len (.x 0), .x 1)]
def lf6 : LF := ⟨2, 24, [(0, .x 0), (2, .b false), (6, I6 0), (5, .x 1)], [], .ret, [(2, .b false)], some lh4⟩
noncomputable def aD8 : Tab := bL ({ cD with hyp := DW }) 51 qO [lf6]
theorem runTokA_2 (e : Nat) : okA (call aD8 9000 51 [.x 0] ⟨H0 e , 4, 0, 0⟩) (.b false) = true := by kernel_rfl
def wg (s : LB) : List Value := [St' s, .int .i64 ((s.length : Int))]
theorem pathTokA_2 (s : LB) (b0 : s.length ≤ 9223372036854775807) (p0 : s.length ≤ 140737488355328) (h0 : ¬ (s.all fN = true)) (w : World) (hl : aH w) : bp 51 #[St' s] w (.bool false) := by
 have ho : ∀ k r, (k, r) ∈ DW → aM (cx (bA (wg s)) (fun j _ => aV (l := wg s) rfl j) 1 aH aQ) k r := by
  unfold DW
  exact hc av <|hnil
 refine cR (tb := aD8) (ra := .b false) rfl (aq.bz ((ab (bA (wg s)) (fun j _ => aV (l := wg s) rfl j)).hyps ho) (by omega) F4 AG (bK (bx rfl ⟨0, C9, bI.use (l := lf6) (h := lh4) (lfOkKa_1 s (s.all fN) (by omega) (by simpa using (by assumption : ¬ (s.all fN = true)))) (0, (0 : Int)) (sd ⟨by omega, by omega, rfl, by omega⟩) rfl (by kernel_rfl) (ao := [(0, .x 0), (1, I6 0), (2, .x 1)]) (ai := []) (fun X => aB (v := St' s) (ad bS (aB (v := .int .i64 ((s.length : Int))) (aI)))) (by kernel_rfl) (ak := []) (aI) (by kernel_rfl)⟩) aj)) rfl (ez (by omega)) F2 (fun e => runTokA_2 e ) (args := [St' s]) (by simp only [aJ, Rel]; exact ⟨_, _, rfl, rfl, rfl⟩) w hl fun x hx => ?_
 simp only [Rel, aJ] at hx
 exact hx
theorem callsTokA (s : LB) (b0 : s.length ≤ 9223372036854775807) (p0 : s.length ≤ 140737488355328) (w : World) (hl : aH w) : bp 51 #[St' s] w (.bool (cU s)) := by
 by_cases h0 : s.all fN = true
 ·by_cases h1 : (s.length : Int) = 0
  ·rw [show (.bool (cU s) : Value) = (.bool false : Value) from by unfold cU; first | (simp [*]; done) | (congr 1; rw [h0, Bool.true_and]; first | exact decide_eq_false (by omega) | exact decide_eq_true (by omega))]
   exact pathTokA_0 s b0 p0 h0 h1 w hl
  ·rw [show (.bool (cU s) : Value) = (.bool true : Value) from by unfold cU; first | (simp [*]; done) | (congr 1; rw [h0, Bool.true_and]; first | exact decide_eq_false (by omega) | exact decide_eq_true (by omega))]
   exact pathTokA_1 s b0 p0 h0 h1 w hl
 ·rw [show (.bool (cU s) : Value) = (.bool false : Value) from by unfold cU; first | (simp [*]; done) | (congr 1; rw [h0, Bool.true_and]; first | exact decide_eq_false (by omega) | exact decide_eq_true (by omega))]
  exact pathTokA_2 s b0 p0 h0 w hl
theorem iy {x0 r : AV} {s : LB} (i0 : Is (cx nu one 1 aH aQ) x0 (St' s)) (hr : Den (cx nu one 1 aH aQ) r (.bool (cU s))) (b0 : s.length ≤ 9223372036854775807 := by omega) (p0 : s.length ≤ 140737488355328 := by omega) : aM (cx nu one 1 aH aQ) (.call 51 [x0]) r := by
 intro ρ args ha w hl _
 simp only [aJ] at ha
 obtain ⟨v0, t0, rfl, a0, rfl⟩ := ha
 have e0 := i0 ρ _ a0; subst e0
 exact (callsTokA s b0 p0 w hl).mono fun e w' he => ⟨_, he.1, hr ρ, he.2⟩
end Go.Proofs.YtcjanblpboaleaaDoor.cgiCuts

