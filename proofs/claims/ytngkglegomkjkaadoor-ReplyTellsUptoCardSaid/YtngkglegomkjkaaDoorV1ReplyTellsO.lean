/- A part of the proof: what an interpreter answers on partly known states is what the program answers. No condition. -/
import Derived.Test.YtngkglegomkjkaaDoorSeatV1
import Derived.Test.YtngkglegomkjkaaDoorHXpart4
import Derived.Test.YtngkglegomkjkaaDoorTDx
import Derived.Test.YtngkglegomkjkaaDoorAXro
import Derived.Test.YtngkglegomkjkaaDoorHKA
import Derived.Test.YtngkglegomkjkaaDoorHKI
import Derived.Test.YtngkglegomkjkaaDoorHKO
import Derived.Test.YtngkglegomkjkaaDoorHKJ
import Derived.Test.YtngkglegomkjkaaDoorHKK
import Derived.Test.YtngkglegomkjkaaDoorCK
import Derived.Test.YtngkglegomkjkaaDoorAXcf
import Derived.Test.YtngkglegomkjkaaDoorAXcs
import Derived.Test.YtngkglegomkjkaaDoorAXmv
import Derived.WalkKit
import Derived.Lib.Walk
import Derived.Lib.SliceRun
import Derived.Lib.ItoaLen
import Derived.Lib.AppendIntMem
import Derived.Shelf.Strconv.Itoa3
set_option maxRecDepth 100000
set_option linter.unusedVariables false
set_option linter.unusedSimpArgs false
namespace Go.Proofs.YtngkglegomkjkaaDoor.replyTells
open Go Go.AX Go.Proofs Go.Proofs.YtngkglegomkjkaaDoor
abbrev bQ : Nat := 593839634394773738568
abbrev cJ : Nat := 521515500515601310183267
abbrev cu : Nat := 521515500515601310183235
abbrev cg : Nat := 479143327124051147973995
abbrev dJ : Nat := 35195846100629207519508215043329037005428
abbrev dX : Nat := 2118593076048234681896658929610595
abbrev eD : Nat := 126948300911731
abbrev dD : Nat := 1058632136922779159963470397199138084372148170266560964572412473940
abbrev dC : Nat := 224174433661240949768707164856478529666051907
abbrev dd : Nat := 9974159527321206292636135235
abbrev gV : Nat := 246482400810884761678935467864755724166210207054086172483
abbrev gU : Nat := 237927390410950444456928663707796224754864904193074819559483181009558347043374296609072
abbrev gT : Nat := 136107713667768957684761770045455085872
abbrev sw : Nat := 7310870969309884227
abbrev su : Nat := 549830964450506171248462
abbrev ss : Nat := 31071100227558498498946297678
abbrev sq : Nat := 140780338804635016341250370
abbrev sm : Nat := 1852633797634385276750
abbrev sk : Nat := 8745755868910566186333966405088171768702285
abbrev sj : Nat := 34506023437847614257170505716640053620547
abbrev sf : Nat := 179165517096865300475584183012726680791192107984450893768296950105516369234
abbrev sd : Nat := 167247436870560220167275643875038730101865462394441
abbrev sZ : Nat := 521287433856272433239714013096734542
abbrev sY : Nat := 146740296195328310404997442
abbrev sX : Nat := 2261816869102202322538128696023206191023940947
abbrev sW : Nat := 604688303229962640331670958390927687
abbrev sV : Nat := 161330646973622018803693735346244166838000686630984577428247624
abbrev sU : Nat := 31093567915781717
abbrev kN : Nat := 16153690050754331802415899141401752226804186909316580704677699
abbrev kM : Nat := 42838567675988375579762681016289750851
abbrev sT : Nat := 4103131239413942815715739739173526059992005523089284064394906899313701888464145154806017859
abbrev aL : List UInt8 := [u8 72, u8 84, u8 84, u8 80, u8 47, u8 49, u8 46, u8 49, u8 32]
abbrev bb : List UInt8 := [u8 13, u8 10, u8 13, u8 10]
abbrev bz : List UInt8 := [u8 67, u8 111, u8 110, u8 110, u8 101, u8 99, u8 116, u8 105, u8 111, u8 110, u8 58, u8 32]
abbrev bx : List UInt8 := [u8 13, u8 10, u8 67, u8 111, u8 110, u8 116, u8 101, u8 110, u8 116, u8 45, u8 84, u8 121, u8 112, u8 101, u8 58, u8 32, u8 116, u8 101, u8 120, u8 116, u8 47, u8 112, u8 108, u8 97, u8 105, u8 110, u8 13, u8 10, u8 67, u8 111, u8 110, u8 110, u8 101, u8 99, u8 116, u8 105, u8 111, u8 110, u8 58, u8 32]
abbrev cR : List UInt8 := [u8 99, u8 111, u8 110, u8 110, u8 101, u8 99, u8 116, u8 105, u8 111, u8 110]
abbrev cn : List UInt8 := [u8 67, u8 111, u8 110, u8 116, u8 101, u8 110, u8 116, u8 45, u8 76, u8 101, u8 110, u8 103, u8 116, u8 104, u8 58, u8 32]
abbrev dc : List UInt8 := [u8 13, u8 10, u8 67, u8 111, u8 110, u8 116, u8 101, u8 110, u8 116, u8 45, u8 76, u8 101, u8 110, u8 103, u8 116, u8 104, u8 58, u8 32]
abbrev eC : List UInt8 := [u8 72, u8 69, u8 65, u8 68]
abbrev eN : List UInt8 := [u8 84, u8 114, u8 97, u8 110, u8 115, u8 102, u8 101, u8 114, u8 45, u8 69, u8 110, u8 99, u8 111, u8 100, u8 105, u8 110, u8 103, u8 58, u8 32, u8 99, u8 104, u8 117, u8 110, u8 107, u8 101, u8 100, u8 13, u8 10]
abbrev eM : List UInt8 := [u8 107, u8 101, u8 101, u8 112, u8 45, u8 97, u8 108, u8 105, u8 118, u8 101]
abbrev eO : List UInt8 := [u8 67, u8 111, u8 110, u8 110, u8 101, u8 99, u8 116, u8 105, u8 111, u8 110]
abbrev fD : List UInt8 := [u8 67, u8 111, u8 110, u8 110, u8 101, u8 99, u8 116, u8 105, u8 111, u8 110, u8 58, u8 32, u8 99, u8 108, u8 111, u8 115, u8 101, u8 13, u8 10]
abbrev fR : List UInt8 := [u8 67, u8 111, u8 110, u8 116, u8 101, u8 110, u8 116, u8 45, u8 84, u8 121, u8 112, u8 101, u8 58, u8 32, u8 116, u8 101, u8 120, u8 116, u8 47, u8 112, u8 108, u8 97, u8 105, u8 110, u8 13, u8 10, u8 67, u8 111, u8 110, u8 110, u8 101, u8 99, u8 116, u8 105, u8 111, u8 110, u8 58, u8 32]
abbrev iE : List UInt8 := [u8 13, u8 10, u8 67, u8 111, u8 110, u8 110, u8 101, u8 99, u8 116, u8 105, u8 111, u8 110, u8 58, u8 32]
abbrev iD : List UInt8 := [u8 116, u8 114, u8 97, u8 110, u8 115, u8 102, u8 101, u8 114, u8 45, u8 101, u8 110, u8 99, u8 111, u8 100, u8 105, u8 110, u8 103]
abbrev jO : List UInt8 := [u8 99, u8 111, u8 110, u8 116, u8 101, u8 110, u8 116, u8 45, u8 108, u8 101, u8 110, u8 103, u8 116, u8 104]
abbrev kL : List UInt8 := [u8 13, u8 10, u8 84, u8 114, u8 97, u8 110, u8 115, u8 102, u8 101, u8 114, u8 45, u8 69, u8 110, u8 99, u8 111, u8 100, u8 105, u8 110, u8 103, u8 58, u8 32, u8 99, u8 104, u8 117, u8 110, u8 107, u8 101, u8 100, u8 13, u8 10, u8 67, u8 111, u8 110, u8 110, u8 101, u8 99, u8 116, u8 105, u8 111, u8 110, u8 58, u8 32, u8 107, u8 101, u8 101, u8 112, u8 45, u8 97, u8 108, u8 105, u8 118, u8 101, u8 13, u8 10, u8 13, u8 10]
abbrev kK : List UInt8 := [u8 13, u8 10, u8 84, u8 114, u8 97, u8 110, u8 115, u8 102, u8 101, u8 114, u8 45, u8 69, u8 110, u8 99, u8 111, u8 100, u8 105, u8 110, u8 103, u8 58, u8 32, u8 99, u8 104, u8 117, u8 110, u8 107, u8 101, u8 100, u8 13, u8 10, u8 67, u8 111, u8 110, u8 110, u8 101, u8 99, u8 116, u8 105, u8 111, u8 110, u8 58, u8 32, u8 99, u8 108, u8 111, u8 115, u8 101, u8 13, u8 10, u8 13, u8 10]
abbrev kJ : List UInt8 := [u8 13, u8 10, u8 67, u8 111, u8 110, u8 110, u8 101, u8 99, u8 116, u8 105, u8 111, u8 110, u8 58, u8 32, u8 99, u8 108, u8 111, u8 115, u8 101, u8 13, u8 10, u8 13, u8 10]
abbrev kI : List UInt8 := [u8 48, u8 49, u8 50, u8 51, u8 52, u8 53, u8 54, u8 55, u8 56, u8 57, u8 97, u8 98, u8 99, u8 100, u8 101, u8 102]
abbrev kH : List UInt8 := [u8 67, u8 111, u8 110, u8 116, u8 101, u8 110, u8 116, u8 45, u8 84, u8 121, u8 112, u8 101, u8 58, u8 32, u8 116, u8 101, u8 120, u8 116, u8 47, u8 112, u8 108, u8 97, u8 105, u8 110, u8 13, u8 10]
abbrev lp : List UInt8 := [u8 115, u8 116, u8 97, u8 116, u8 117, u8 115]
abbrev nZ : List UInt8 := [u8 13, u8 10, u8 84, u8 114, u8 97, u8 110, u8 115, u8 102, u8 101, u8 114, u8 45, u8 69, u8 110, u8 99, u8 111, u8 100, u8 105, u8 110, u8 103, u8 58, u8 32, u8 99, u8 104, u8 117, u8 110, u8 107, u8 101, u8 100, u8 13, u8 10]
abbrev nY : List UInt8 := [u8 67, u8 111, u8 110, u8 110, u8 101, u8 99, u8 116, u8 105, u8 111, u8 110, u8 58, u8 32, u8 107, u8 101, u8 101, u8 112, u8 45, u8 97, u8 108, u8 105, u8 118, u8 101, u8 13, u8 10]
abbrev nX : List UInt8 := [u8 84, u8 114, u8 97, u8 110, u8 115, u8 102, u8 101, u8 114, u8 45, u8 69, u8 110, u8 99, u8 111, u8 100, u8 105, u8 110, u8 103, u8 58, u8 32, u8 99, u8 104, u8 117, u8 110, u8 107, u8 101, u8 100, u8 13, u8 10, u8 67, u8 111, u8 110, u8 110, u8 101, u8 99, u8 116, u8 105, u8 111, u8 110, u8 58, u8 32, u8 107, u8 101, u8 101, u8 112, u8 45, u8 97, u8 108, u8 105, u8 118, u8 101, u8 13, u8 10, u8 13, u8 10]
abbrev nW : List UInt8 := [u8 84, u8 114, u8 97, u8 110, u8 115, u8 102, u8 101, u8 114, u8 45, u8 69, u8 110, u8 99, u8 111, u8 100, u8 105, u8 110, u8 103, u8 58, u8 32, u8 99, u8 104, u8 117, u8 110, u8 107, u8 101, u8 100, u8 13, u8 10, u8 67, u8 111, u8 110, u8 110, u8 101, u8 99, u8 116, u8 105, u8 111, u8 110, u8 58, u8 32, u8 99, u8 108, u8 111, u8 115, u8 101, u8 13, u8 10, u8 13, u8 10]
abbrev nV : List UInt8 := [u8 67, u8 111, u8 110, u8 110, u8 101, u8 99, u8 116, u8 105, u8 111, u8 110, u8 58, u8 32, u8 99, u8 108, u8 111, u8 115, u8 101, u8 13, u8 10, u8 13, u8 10]
abbrev nU : List UInt8 := [u8 67, u8 111, u8 110, u8 116, u8 105, u8 110, u8 117, u8 101]
abbrev nT : List UInt8 := [u8 78, u8 111, u8 32, u8 67, u8 111, u8 110, u8 116, u8 101, u8 110, u8 116]
abbrev nS : List UInt8 := [u8 70, u8 111, u8 117, u8 110, u8 100]
abbrev nR : List UInt8 := [u8 78, u8 111, u8 116, u8 32, u8 77, u8 111, u8 100, u8 105, u8 102, u8 105, u8 101, u8 100]
abbrev nQ : List UInt8 := [u8 66, u8 97, u8 100, u8 32, u8 82, u8 101, u8 113, u8 117, u8 101, u8 115, u8 116]
abbrev nP : List UInt8 := [u8 78, u8 111, u8 116, u8 32, u8 70, u8 111, u8 117, u8 110, u8 100]
abbrev nO : List UInt8 := [u8 77, u8 101, u8 116, u8 104, u8 111, u8 100, u8 32, u8 78, u8 111, u8 116, u8 32, u8 65, u8 108, u8 108, u8 111, u8 119, u8 101, u8 100]
abbrev nN : List UInt8 := [u8 67, u8 111, u8 110, u8 116, u8 101, u8 110, u8 116, u8 32, u8 84, u8 111, u8 111, u8 32, u8 76, u8 97, u8 114, u8 103, u8 101]
abbrev nM : List UInt8 := [u8 82, u8 101, u8 113, u8 117, u8 101, u8 115, u8 116, u8 32, u8 72, u8 101, u8 97, u8 100, u8 101, u8 114, u8 32, u8 70, u8 105, u8 101, u8 108, u8 100, u8 115, u8 32, u8 84, u8 111, u8 111, u8 32, u8 76, u8 97, u8 114, u8 103, u8 101]
abbrev nL : List UInt8 := [u8 73, u8 110, u8 116, u8 101, u8 114, u8 110, u8 97, u8 108, u8 32, u8 83, u8 101, u8 114, u8 118, u8 101, u8 114, u8 32, u8 69, u8 114, u8 114, u8 111, u8 114]
abbrev nK : List UInt8 := [u8 78, u8 111, u8 116, u8 32, u8 73, u8 109, u8 112, u8 108, u8 101, u8 109, u8 101, u8 110, u8 116, u8 101, u8 100]
abbrev nJ : List UInt8 := [u8 66, u8 97, u8 100, u8 32, u8 71, u8 97, u8 116, u8 101, u8 119, u8 97, u8 121]
abbrev nI : List UInt8 := [u8 83, u8 101, u8 114, u8 118, u8 105, u8 99, u8 101, u8 32, u8 85, u8 110, u8 97, u8 118, u8 97, u8 105, u8 108, u8 97, u8 98, u8 108, u8 101]
abbrev nH : List UInt8 := [u8 71, u8 97, u8 116, u8 101, u8 119, u8 97, u8 121, u8 32, u8 84, u8 105, u8 109, u8 101, u8 111, u8 117, u8 116]
abbrev nG : List UInt8 := [u8 72, u8 84, u8 84, u8 80, u8 32, u8 86, u8 101, u8 114, u8 115, u8 105, u8 111, u8 110, u8 32, u8 78, u8 111, u8 116, u8 32, u8 83, u8 117, u8 112, u8 112, u8 111, u8 114, u8 116, u8 101, u8 100]
abbrev nF : List UInt8 := [u8 85, u8 110, u8 107, u8 110, u8 111, u8 119, u8 110]
abbrev pV : List UInt8 := [u8 99, u8 108, u8 111, u8 115, u8 101]
abbrev pU : List UInt8 := [u8 48, u8 13, u8 10, u8 13, u8 10]
abbrev zq45 : List UInt8 := [u8 13, u8 10, u8 84, u8 114, u8 97, u8 110, u8 115, u8 102, u8 101, u8 114, u8 45, u8 69, u8 110, u8 99, u8 111, u8 100, u8 105, u8 110, u8 103, u8 58, u8 32, u8 99, u8 104, u8 117, u8 110, u8 107, u8 101, u8 100, u8 13, u8 10, u8 67, u8 111, u8 110, u8 110, u8 101, u8 99, u8 116, u8 105, u8 111, u8 110, u8 58, u8 32, u8 107, u8 101, u8 101, u8 112, u8 45, u8 97, u8 108, u8 105, u8 118, u8 101, u8 13, u8 10]
abbrev zq46 : List UInt8 := [u8 13, u8 10, u8 84, u8 114, u8 97, u8 110, u8 115, u8 102, u8 101, u8 114, u8 45, u8 69, u8 110, u8 99, u8 111, u8 100, u8 105, u8 110, u8 103, u8 58, u8 32, u8 99, u8 104, u8 117, u8 110, u8 107, u8 101, u8 100, u8 13, u8 10, u8 67, u8 111, u8 110, u8 110, u8 101, u8 99, u8 116, u8 105, u8 111, u8 110, u8 58, u8 32, u8 99, u8 108, u8 111, u8 115, u8 101, u8 13, u8 10]
abbrev zq47 : List UInt8 := [u8 13, u8 10, u8 67, u8 111, u8 110, u8 110, u8 101, u8 99, u8 116, u8 105, u8 111, u8 110, u8 58, u8 32, u8 99, u8 108, u8 111, u8 115, u8 101, u8 13, u8 10]
abbrev zq48 : List UInt8 := [u8 84, u8 114, u8 97, u8 110, u8 115, u8 102, u8 101, u8 114, u8 45, u8 69, u8 110, u8 99, u8 111, u8 100, u8 105, u8 110, u8 103, u8 58, u8 32, u8 99, u8 104, u8 117, u8 110, u8 107, u8 101, u8 100, u8 13, u8 10, u8 67, u8 111, u8 110, u8 110, u8 101, u8 99, u8 116, u8 105, u8 111, u8 110, u8 58, u8 32, u8 107, u8 101, u8 101, u8 112, u8 45, u8 97, u8 108, u8 105, u8 118, u8 101, u8 13, u8 10]
abbrev zq49 : List UInt8 := [u8 84, u8 114, u8 97, u8 110, u8 115, u8 102, u8 101, u8 114, u8 45, u8 69, u8 110, u8 99, u8 111, u8 100, u8 105, u8 110, u8 103, u8 58, u8 32, u8 99, u8 104, u8 117, u8 110, u8 107, u8 101, u8 100, u8 13, u8 10, u8 67, u8 111, u8 110, u8 110, u8 101, u8 99, u8 116, u8 105, u8 111, u8 110, u8 58, u8 32, u8 99, u8 108, u8 111, u8 115, u8 101, u8 13, u8 10]
theorem ed {C : Cx} : Is C (I6 0) (.int .i64 ((0 : Int))) := lA (v := .int .i64 0) (isI _ _) rfl
theorem hN0 : ([] : List UInt8).length = 0 := rfl
def zs0 : List Int := [1, 10, 100, 1000, 10000, 100000, 1000000, 10000000, 100000000, 1000000000, 10000000000, 100000000000, 1000000000000, 10000000000000, 100000000000000, 1000000000000000, 10000000000000000, 100000000000000000, 1000000000000000000, 10000000000000000000]
def zs1 : List Int := [0, 1, 28, 2, 29, 14, 24, 3, 30, 22, 20, 15, 25, 17, 4, 8, 31, 27, 13, 23, 21, 19, 16, 7, 26, 12, 18, 6, 11, 5, 10, 9]
def zs2 : List Int := [0, 1, 56, 2, 57, 49, 28, 3, 61, 58, 42, 50, 38, 29, 17, 4, 62, 47, 59, 36, 45, 43, 51, 22, 53, 39, 33, 30, 24, 18, 12, 5, 63, 55, 48, 27, 60, 41, 37, 16, 46, 35, 44, 21, 52, 32, 23, 11, 54, 26, 40, 15, 34, 20, 31, 10, 25, 14, 19, 9, 13, 8, 7, 6]
def aG (w : World) : Prop := iZ w 0 .u64 zs0 ∧ iZ w 1 .u8 zs1 ∧ iZ w 2 .u8 zs2
theorem aJ : ∀ w w' : World, (∀ k, k < 3 → w'.heap[k]? = w.heap[k]?) → aG w → aG w' := fun w w' h ⟨h0, h1, h2⟩ => ⟨h0.same (h 0 (by omega)), h1.same (h 1 (by omega)), h2.same (h 2 (by omega))⟩
theorem C0 {w : World} (h : aG w) : 3 ≤ w.heap.size := by
 obtain ⟨h0, h1, h2⟩ := h
 have := h2.size
 omega
noncomputable def H0 (e0 : Nat) (e1 : Nat) (e2 : Nat) : T aZ := T.set (T.set (T.set (.leaf) 0 (lG e0 (.l (zs0.map fun z => .i .u64 z)))) 1 (lG e1 (.l (zs1.map fun z => .i .u8 z)))) 2 (lG e2 (.l (zs2.map fun z => .i .u8 z)))
theorem pq {nu : Nat → Value} {one : ∀ i, i < 1000000 → (nu i).oneCell' = true} {tb : Tab} (h : bM (cx nu one 3 aG aJ) tb) (av : tb.ng = 3) {f g : Nat} {fi : FI} (hfi : tb.fn.get g = some fi) (hb : fi.body.isSome = true) {l : List AV} {args : List Value}
 (hr : ∀ e0 e1 e2, okB (call tb f g l ⟨H0 e0 e1 e2 , 3, 0, 0⟩) = true) (hl : aH (cx nu one 3 aG aJ) (fun _ => none) l args) (w : World) (hw : aG w) :
 Calls Tryd.prog g ⟨args⟩ w fun e w' => e = .returned (.bool true) ∧ Go.AX.Below (Go.AX.Fz.lt w.heap.size) w w' := by
 obtain ⟨h0, h1, h2⟩ := id hw
 obtain ⟨e0, g0⟩ := h0.ow (C := cx nu one 3 aG aJ)
 obtain ⟨e1, g1⟩ := h1.ow (C := cx nu one 3 aG aJ)
 obtain ⟨e2, g2⟩ := h2.ow (C := cx nu one 3 aG aJ)
 obtain ⟨S, hS⟩ := aV7 (hr e0 e1 e2)
 refine (aR7 h (H := H0 e0 e1 e2 ) hfi hb (by rw [av]; exact hS) hl w hw (C0 hw) fun v k hv => ?_).mono fun e' w' he => ?_
 ·unfold H0 at hv
  rw [cm _ _ _ _ (by omega)] at hv
  split at hv
  ·rename_i e0; subst e0; injection hv with hv; subst hv
   exact ⟨by rw [av]; omega, e2, _, _, rfl, ⟨trivial, rfl⟩, g2⟩
  rw [cm _ _ _ _ (by omega)] at hv
  split at hv
  ·rename_i e0; subst e0; injection hv with hv; subst hv
   exact ⟨by rw [av]; omega, e1, _, _, rfl, ⟨trivial, rfl⟩, g1⟩
  rw [cm _ _ _ _ (by omega)] at hv
  split at hv
  ·rename_i e0; subst e0; injection hv with hv; subst hv
   exact ⟨by rw [av]; omega, e0, _, _, rfl, ⟨trivial, rfl⟩, g0⟩
  simp [T.cy] at hv
 ·obtain ⟨x, ρ, rfl, hx, hb⟩ := he
  simp only [Rel] at hx
  exact ⟨by rw [hx], hb⟩
theorem runA {nu : Nat → Value} {one : ∀ i, i < 1000000 → (nu i).oneCell' = true} {tb : Tab} (h : bM (cx nu one 3 aG aJ) tb) (av : tb.ng = 3) {f g : Nat} {fi : FI} (hfi : tb.fn.get g = some fi) (hb : fi.body.isSome = true) {l : List AV} {args : List Value} {ra : AV} (hnr : gd 8 ra = true)
 (hr : ∀ e0 e1 e2, okA (call tb f g l ⟨H0 e0 e1 e2 , 3, 0, 0⟩) ra = true) (hl : aH (cx nu one 3 aG aJ) (fun _ => none) l args) (w : World) (hw : aG w) :
 Calls Tryd.prog g ⟨args⟩ w fun e w' => ∃ x, e = .returned x ∧ Rel (cx nu one 3 aG aJ) (fun _ => none) ra x ∧ Go.AX.Below (Go.AX.Fz.lt w.heap.size) w w' := by
 obtain ⟨h0, h1, h2⟩ := id hw
 obtain ⟨e0, g0⟩ := h0.ow (C := cx nu one 3 aG aJ)
 obtain ⟨e1, g1⟩ := h1.ow (C := cx nu one 3 aG aJ)
 obtain ⟨e2, g2⟩ := h2.ow (C := cx nu one 3 aG aJ)
 obtain ⟨S, hS⟩ := okA_inv (hr e0 e1 e2)
 refine (aR7 h (H := H0 e0 e1 e2 ) hfi hb (by rw [av]; exact hS) hl w hw (C0 hw) fun v k hv => ?_).mono fun e' w' he => ?_
 ·unfold H0 at hv
  rw [cm _ _ _ _ (by omega)] at hv
  split at hv
  ·rename_i e0; subst e0; injection hv with hv; subst hv
   exact ⟨by rw [av]; omega, e2, _, _, rfl, ⟨trivial, rfl⟩, g2⟩
  rw [cm _ _ _ _ (by omega)] at hv
  split at hv
  ·rename_i e0; subst e0; injection hv with hv; subst hv
   exact ⟨by rw [av]; omega, e1, _, _, rfl, ⟨trivial, rfl⟩, g1⟩
  rw [cm _ _ _ _ (by omega)] at hv
  split at hv
  ·rename_i e0; subst e0; injection hv with hv; subst hv
   exact ⟨by rw [av]; omega, e0, _, _, rfl, ⟨trivial, rfl⟩, g0⟩
  simp [T.cy] at hv
 ·obtain ⟨x, ρ, rfl, hx, hb⟩ := he
  exact ⟨x, rfl, Cd 8 _ hnr _ hx, hb⟩
theorem po {nu : Nat → Value} {one : ∀ i, i < 1000000 → (nu i).oneCell' = true} {tb : Tab} (h : bM (cx nu one 3 aG aJ) tb) (av : tb.ng = 3) {f g : Nat} {fi : FI} (hfi : tb.fn.get g = some fi) (hb : fi.body.isSome = true) {l : List AV} {args : List Value} (rs0 : List aZ) (rs : List R)
 (hr : okB (call tb f g l ⟨iW 3 rs0 .leaf, 3 + rs0.length, 0, 0⟩) = true) (hl : aH (cx nu one 3 aG aJ) (gZ 3 rs) l args) (w : World) (hw : aG w) (hlen : rs0.length = rs.length) (hbd : 3 + rs0.length ≤ 16777213) (hA : ∀ (j : Nat) (k : aZ) (r : R), rs0[j]? = some k → rs[j]? = some r → kG (cx nu one 3 aG aJ) w .leaf k r) (hnd : rs0.all dE = true) :
 Calls Tryd.prog g ⟨args⟩ w fun e w' => e = .returned (.bool true) ∧ Go.AX.Below (Go.AX.Fz.lt w.heap.size) w w' := by
 obtain ⟨S, hS⟩ := aV7 hr
 refine (run_okGA h (H := .leaf) hfi hb rs0 rs (by rw [av]; exact hS) (by rw [av]; exact hl) w hw (C0 hw) hlen (by rw [av]; exact hbd) hA hnd fun v k hv => ?_).mono fun e' w' he => ?_
 ·simp [T.cy] at hv
 ·obtain ⟨x, ρ, rfl, hx, hb⟩ := he
  simp only [Rel] at hx
  exact ⟨by rw [hx], hb⟩
noncomputable def fk : FI := ⟨Tryd.f4.body, Tryd.f4.ntmps, Tryd.f4.results.toList, 0, none, []⟩
theorem fk_at : tab.fn.get 4 = some fk := by kernel_rfl
theorem aY7 : fk.body.isSome = true := by kernel_rfl
theorem kk (e0 : Nat) (e1 : Nat) (e2 : Nat) : okB (call tab 6000 4 [] ⟨H0 e0 e1 e2 , 3, 0, 0⟩) = true := by kernel_rfl
noncomputable def bc : Tab := addSum tab 4 fk (.b true)
section
variable (nu : Nat → Value) (one : ∀ i, i < 1000000 → (nu i).oneCell' = true)
theorem sumk : FY (cx nu one 3 aG aJ) 4 (.b true) := fun w hi hs => by
 refine (pq (tabOk nu one 3 aG aJ) rfl fk_at aY7 kk (args := []) (by simp only [aH]) w hi).mono fun e w' he => ?_
 exact ⟨.bool true, he.1, by simp only [Rel], he.2⟩
theorem ab : bM (cx nu one 3 aG aJ) bc := (tabOk nu one 3 aG aJ).sum (by omega) fk_at aY7 (sumk nu one)
end
theorem tu5 : Tryd.prog.underlying 5 = some (.int .u8) := by kernel_rfl
theorem pY : Tryd.prog.underlying 59 = some (.int .u64) := by kernel_rfl
noncomputable def aR (h : LK) : Tab := { bc with hyp := h }
theorem lN : ∃ fi, bc.fn.get 3 = some fi ∧ fi.body.isSome = true := ⟨_, rfl, by kernel_rfl⟩
abbrev au (g : Nat) (args : Array Value) (w : World) (v : Value) : Prop := Calls Tryd.prog g args w fun e w' => e = .returned v ∧ Go.AX.Below (Go.AX.Fz.lt w.heap.size) w w'
theorem a7 {nu : Nat → Value} {one : ∀ i, i < 1000000 → (nu i).oneCell' = true} {tb : Tab} {ra : AV} {v : Value} (hnr : gd 8 ra = true) (h : bM (cx nu one 3 aG aJ) tb) (av : tb.ng = 3) {f g : Nat} {fi : FI} (hfi : tb.fn.get g = some fi) (hb : fi.body.isSome = true) {l : List AV} {args : List Value}
 (hr : ∀ e0 e1 e2, okA (call tb f g l ⟨H0 e0 e1 e2 , 3, 0, 0⟩) ra = true) (hl : aH (cx nu one 3 aG aJ) (fun _ => none) l args) (w : World) (hw : aG w) (hv : ∀ x, Rel (cx nu one 3 aG aJ) (fun _ => none) ra x → x = v) : au g ⟨args⟩ w v :=
 (runA h av hfi hb hnr hr hl w hw).mono fun e w' he => by
   obtain ⟨x, rfl, hx, hb2⟩ := he
   exact ⟨by rw [hv x hx], hb2⟩
def w5 (c : Int) : Int := if 65 ≤ c ∧ c ≤ 90 then c + 32 else c
def lowU (b : UInt8) : UInt8 := u8 (w5 (b.toNat : Int))
def aj (l : LB) : LB := l.map lowU
theorem aN0 {l : LB} {i : Nat} (hi : i < l.length) : l.drop i = u8 (bt l i) :: l.drop (i + 1) := by
 rw [List.drop_eq_getElem_cons hi, u8_bt, List.getD_eq_getElem?_getD, List.getElem?_eq_getElem hi, Option.getD_some]
theorem low_take {l : LB} {i : Nat} (hi : i < l.length) : l.take (i + 1) = l.take i ++ [u8 (bt l i)] := by
 rw [List.take_succ_eq_append_getElem hi, u8_bt, List.getD_eq_getElem?_getD, List.getElem?_eq_getElem hi, Option.getD_some]
theorem aX7 {c : Int} (h0 : 0 ≤ c) (h1 : c ≤ 255) : lowU (u8 c) = u8 (w5 c) := by unfold lowU; rw [tN h0 h1]
theorem wz {l : LB} {i : Nat} (hi : i < l.length) (h : ¬ (65 ≤ bt l i ∧ bt l i ≤ 90)) : l.take (i + 1) ++ aj (l.drop (i + 1)) = l.take i ++ aj (l.drop i) := by
 rw [low_take hi, aN0 hi, aj, aj, List.map_cons, aX7 (hJ _ _) (hR _ _), w5, if_neg h]; simp
theorem low_set {l : LB} {i : Nat} (hi : i < l.length) (h : 65 ≤ bt l i ∧ bt l i ≤ 90) : (l.set i (u8 (bt l i + 32))).take (i + 1) ++ aj ((l.set i (u8 (bt l i + 32))).drop (i + 1)) = l.take i ++ aj (l.drop i) := by
 have h1 : (l.set i (u8 (bt l i + 32))).take (i + 1) = l.take i ++ [u8 (bt l i + 32)] := by
  rw [List.take_succ_eq_append_getElem (by simpa using hi), List.take_set_of_le (Nat.le_refl _)]; simp
 have h2 : (l.set i (u8 (bt l i + 32))).drop (i + 1) = l.drop (i + 1) := by rw [List.drop_set_of_lt (by omega)]
 rw [h1, h2, aN0 hi, aj, aj, List.map_cons, aX7 (hJ _ _) (hR _ _), w5, if_pos h]; simp
theorem aX6 {l : LB} {i : Nat} (hi : l.length ≤ i) : l.take i ++ aj (l.drop i) = l := by
 rw [List.take_of_length_le hi, List.drop_eq_nil_of_le hi]; simp [aj]
variable {nu : Nat → Value} {one : ∀ i, i < 1000000 → (nu i).oneCell' = true} {E' : Cx} {x' : Ex} {e' : LA} {h' : LE}
noncomputable def FJ : Code := fa (Tryd.f40.body.getD .skip) 0
theorem keyLw : fH (ct (Tryd.f40.body.getD .skip)) 3 0 0 = true := by kernel_rfl
def oO : List Nat := [0, 2, 6]
def rH : LA := [(3, .sy 3), (7, .sy 3), (8, .sy 3), (9, .x 1), (10, .x 2)]
def qm : LE := [(3, .t 0 5)]
def vQ (T l : LB) (i : Int) : List Value := [St' l, .int .i64 ((l.length : Int)), .int .i64 (i), .int .u8 (bt l i.toNat), .int .i64 (i + 1), .int .u8 (bt l i.toNat), .int .u8 ((bt l i.toNat) + 97), .int .u8 ((bt l i.toNat) + 32), St' (List.set l i.toNat (u8 ((bt l i.toNat) + 32))), .int .i64 (i + 1), .int .u8 (bt l i.toNat), .int .i64 (i + 1)]
def roLw_0 (T l : LB) (i : Int) : List Value := []
def rI (st : Nat × LB × Int) : LA := rH
def hpLw (st : Nat × LB × Int) : LE := qm
def nuLw (T : LB) (st : Nat × LB × Int) : List Value := vQ T (st.2.1) (st.2.2)
def roLw (T : LB) (st : Nat × LB × Int) : List Value := roLw_0 T (st.2.1) (st.2.2)
theorem onLw (T : LB) (st : Nat × LB × Int) : ∀ j, (aY (nuLw T st) j).oneCell' = true := by
 intro j
 unfold nuLw
 exact aT (l := vQ T (st.2.1) (st.2.2)) rfl j
theorem ebLw (st : Nat × LB × Int) : (dG (rI st) && eG oO) = true := by
 unfold rI
 rfl
noncomputable def DLw (T : LB) (st : Nat × LB × Int) (X : Nat → Value) : Cx := cx (ay (nuLw T st) (rX (roLw T st) X)) (az (onLw T st)) 3 aG aJ
abbrev CjLw (T : LB) (tag : Nat) (l : LB) (i : Int) : Prop := (0 ≤ i) ∧ (i ≤ (l.length : Int)) ∧ (l.take i.toNat ++ aj (l.drop i.toNat) = T) ∧ (l.length ≤ 140737488355328) ∧ (tag < 1)
def j9 (T : LB) (st : Nat × LB × Int) : Prop := CjLw T st.1 (st.2.1) (st.2.2)
theorem wv {T : LB} {tag : Nat} {l : LB} {i : Int} (h : CjLw T tag l i) : j9 T (tag, l, i) := h
theorem tL (T : LB) (tag : Nat) (l : LB) (i : Int) (h : j9 T (tag, l, i)) : CjLw T tag l i := h
def wq (T : LB) (st : Nat × LB × Int) : Nat := ((st.2.1).length - (st.2.2).toNat)
abbrev pL (T : LB) (E' : Cx) (ex' : Ex) (epx' : LA) (hpx' : LE) (st : Nat × LB × Int) (X : Nat → Value) : Prop := bm E' FJ oO 30 ex' 3 4 4 4 rI hpLw epx' hpx' (j9 T) (wq T) (DLw T) st X
noncomputable abbrev BK (T l : LB) (i : Int) (X : Nat → Value) : Cx := cx (ay (vQ T l i) (rX (roLw_0 T l i) X)) (az (aT (l := vQ T l i) rfl)) 3 aG aJ
noncomputable abbrev pJ (h : LK) (x : Ex) (th : LA) (sg : List (Nat × Nat)) (m : Nat) (ep : LA) (hp : LE) : Bool := cr (code (aR h) 400 [] FJ (cN (cV rH oO) 30) ⟨bA qm .leaf, 4, 0, 0⟩) x oO 30 4 th sg 4 m ep hp
theorem B0 {T l : LB} {i : Int} {X : Nat → Value} {h : LK} (y : Nat × LB × Int) {th : LA} {sg : List (Nat × Nat)} (ho : ∀ a' r', (a', r') ∈ h → aS (BK T l i X) a' r') (hy : j9 T y) (lt : wq T y < wq T (0, l, i)) (ht : bN (BK T l i X) (DLw T y X) th) (run : pJ h .normal th sg 4 (rI y) (hpLw y) = true) : pL T E' x' e' h' (0, l, i) X :=
 bm.next (tb := aR h) (L := []) (f := 400) y ((ab _ _).hyps ho) (bU.nil _) rfl hy lt ht run
theorem lvLw_0 {T l : LB} {i : Int} {X : Nat → Value} {h : LK} {th : LA} {sg : List (Nat × Nat)} (hne : eK x' .normal = false) (ho : ∀ a' r', (a', r') ∈ h → aS (BK T l i X) a' r') (ht : bN (BK T l i X) E' th) (run : pJ h x' th sg 4 e' h' = true) : pL T E' x' e' h' (0, l, i) X :=
 bm.leave (tb := aR h) (L := []) (f := 400) ((ab _ _).hyps ho) (bU.nil _) rfl hne ht run
def DU : LK := [(.bin .lss (.x 2) (.x 1), .b false)]
theorem runLw_p0 : pJ DU (.exit 0) [(0, .x 0)] [] 4 [(3, .sy 3)] [(3, .t 0 5)] = true := by kernel_rfl
def DT : LK := [(.bin .lss (.x 2) (.x 1), .b true), (.cW (.x 0) (.x 2), .x 3), (.bin .geq (.x 3) (.i .u8 (.ofNat 65)), .b true), (.bin .leq (.x 3) (.i .u8 (.ofNat 90)), .b false), (.bin .add (.x 2) (I6 1), .x 4)]
theorem runLw_p1 : pJ DT .normal [(0, .x 0), (1, .x 1), (2, .x 4)] [] 4 rH qm = true := by kernel_rfl
def DS : LK := [(.bin .lss (.x 2) (.x 1), .b true), (.cW (.x 0) (.x 2), .x 5), (.bin .geq (.x 5) (.i .u8 (.ofNat 65)), .b true), (.bin .leq (.x 5) (.i .u8 (.ofNat 90)), .b true), (.bin .add (.x 5) (.i .u8 (.ofNat 97)), .x 6), (.bin .sub (.x 6) (.i .u8 (.ofNat 65)), .x 7), (.set (.x 0) (.x 2) (.x 7), .x 8), (.bin .add (.x 2) (I6 1), .x 9)]
theorem runLw_p2 : pJ DS .normal [(0, .x 8), (1, .x 1), (2, .x 9)] [] 4 rH qm = true := by kernel_rfl
def DR : LK := [(.bin .lss (.x 2) (.x 1), .b true), (.cW (.x 0) (.x 2), .x 10), (.bin .geq (.x 10) (.i .u8 (.ofNat 65)), .b false), (.bin .add (.x 2) (I6 1), .x 11)]
theorem runLw_p3 : pJ DR .normal [(0, .x 0), (1, .x 1), (2, .x 11)] [] 4 rH qm = true := by kernel_rfl
section
variable {T : LB} {l : LB} {i : Int} {X : Nat → Value}
theorem nxLw_p1 (hI : j9 T (0, l, i)) (h0 : i < (l.length : Int)) (h1 : 65 ≤ bt l i.toNat) (h2 : ¬ (bt l i.toNat ≤ 90)) : pL T E' x' e' h' (0, l, i) X := by
 obtain ⟨i0, i1, i2, i3, it⟩ := tL T 0 l i hI
 have := hJ l i.toNat; have := hR l i.toNat
 refine B0 (h := DT) (0, l, (i + 1)) ?_ (wv ⟨by omega, by omega, by rw [← i2, show (i + 1).toNat = i.toNat + 1 by omega]; exact wz (by omega) (by omega), by omega, by omega⟩) (by show l.length - (i + 1).toNat < l.length - i.toNat; omega) (aW (v := St' l) (aW (v := .int .i64 ((l.length : Int))) (c8 (b := ((i + 1))) rfl rfl (by omega) (ao)))) runLw_p1
 unfold DT
 exact hc dO <|hc (dP (i := i.toNat) (aA rfl) (aA rfl) (aF rfl) (by omega) (by first | omega | (simp <;> omega)) rfl) <|hc mS <|hc lecF <|hc cQ <|hnil
theorem nxLw_p2 (hI : j9 T (0, l, i)) (h0 : i < (l.length : Int)) (h1 : 65 ≤ bt l i.toNat) (h2 : bt l i.toNat ≤ 90) : pL T E' x' e' h' (0, l, i) X := by
 obtain ⟨i0, i1, i2, i3, it⟩ := tL T 0 l i hI
 have := hJ l i.toNat; have := hR l i.toNat
 have : (List.set l i.toNat (u8 ((bt l i.toNat) + 32))).length = l.length := List.length_set ..
 refine B0 (h := DS) (0, (List.set l i.toNat (u8 ((bt l i.toNat) + 32))), (i + 1)) ?_ (wv ⟨by omega, by rw [List.length_set]; omega, by rw [← i2, show (i + 1).toNat = i.toNat + 1 by omega]; exact low_set (by omega) (by omega), by rw [List.length_set]; omega, by omega⟩) (by show (List.set l i.toNat _).length - (i + 1).toNat < l.length - i.toNat; rw [List.length_set]; omega) (aW (v := St' (List.set l i.toNat (u8 ((bt l i.toNat) + 32)))) (bn (v := .int .i64 ((l.length : Int))) (u := .int .i64 (((List.set l i.toNat (u8 ((bt l i.toNat) + 32))).length : Int))) rfl rfl (congrArg (Value.int .i64) (by rw [List.length_set])) (c8 (b := ((i + 1))) rfl rfl (by omega) (ao)))) runLw_p2
 unfold DS
 exact hc dO <|hc (dP (i := i.toNat) (aA rfl) (aA rfl) (aF rfl) (by omega) (by first | omega | (simp <;> omega)) rfl) <|hc mS <|hc lecT <|hc (oX (aA rfl) (bw (m := 97) rfl) (aF rfl) (by omega) (fU8 (by omega) (by omega))) <|hc (kSub (aA rfl) (bw (m := 65) rfl) (aF rfl) (by omega) (fU8 (by omega) (by omega))) <|hc (kSet (i := i.toNat) (aA rfl) (aA rfl) (aA rfl) (aF rfl) (by omega) (by first | omega | (simp <;> omega)) (by omega) (by omega) rfl) <|hc cQ <|hnil
theorem nxLw_p3 (hI : j9 T (0, l, i)) (h0 : i < (l.length : Int)) (h1 : ¬ (65 ≤ bt l i.toNat)) : pL T E' x' e' h' (0, l, i) X := by
 obtain ⟨i0, i1, i2, i3, it⟩ := tL T 0 l i hI
 have := hJ l i.toNat; have := hR l i.toNat
 refine B0 (h := DR) (0, l, (i + 1)) ?_ (wv ⟨by omega, by omega, by rw [← i2, show (i + 1).toNat = i.toNat + 1 by omega]; exact wz (by omega) (by omega), by omega, by omega⟩) (by show l.length - (i + 1).toNat < l.length - i.toNat; omega) (aW (v := St' l) (aW (v := .int .i64 ((l.length : Int))) (c8 (b := ((i + 1))) rfl rfl (by omega) (ao)))) runLw_p3
 unfold DR
 exact hc dO <|hc (dP (i := i.toNat) (aA rfl) (aA rfl) (aF rfl) (by omega) (by first | omega | (simp <;> omega)) rfl) <|hc rA <|hc cQ <|hnil
end
def aW5 (T : LB) : List Value := [St' T]
def roELw_0 (T : LB) : List Value := []
noncomputable def ELw_0 (T : LB) : Cx := cx (ay (aW5 T) (rX (roELw_0 T) (fun _ => .bool true))) (az (aT (l := aW5 T) rfl)) 3 aG aJ
theorem roundsLw_0 (T : LB) (st : Nat × LB × Int) (X : Nat → Value) (hI : j9 T st) : pL T (ELw_0 T) (.exit 0) [(3, .sy 3)] [(3, .t 0 5)] st X := by
 obtain ⟨tag, l, i⟩ := st
 have hI0 := hI
 obtain ⟨i0, i1, i2, i3, it⟩ := tL T tag l i hI
 obtain rfl : tag = 0 := by omega
 skip
 by_cases h0 : i < (l.length : Int)
 ·by_cases h1 : 65 ≤ bt l i.toNat
  ·by_cases h2 : bt l i.toNat ≤ 90
   ·exact nxLw_p2 hI0 h0 h1 h2
   ·exact nxLw_p1 hI0 h0 h1 h2
  ·exact nxLw_p3 hI0 h0 h1
 ·refine lvLw_0 (h := DU) rfl ?_ (bn (v := St' l) (u := St' T) rfl rfl (congrArg (fun l => St' l) (by rw [← i2]; exact (aX6 (by omega)).symm)) (ao)) runLw_p0
  unfold DU
  exact hc iJ <|hnil
theorem lfOkLw_0 (T : LB) : cI (cx nu one 3 aG aJ) (ELw_0 T) FJ oO 30 (.exit 0) 3 4 4 4 rI hpLw [(3, .sy 3)] [(3, .t 0 5)] (j9 T) (DLw T) :=
 fb (wq T) (fun _ _ => rfl) (fun _ _ => rfl) (fun _ _ => rfl) (fun st X t ht => fX.trans (fV ((by decide : ∀ t, t ∈ oO → t < 1000000) t ht))) rfl rfl rfl ebLw rfl rfl (roundsLw_0 T)
noncomputable def AD : FI := (bc.fn.get 40).getD default
theorem fi40_at : bc.fn.get 40 = some AD := by kernel_rfl
theorem aH6 : AD.body = some (Tryd.f40.body.getD .skip) := by kernel_rfl
theorem fiB40 : AD.body.isSome = true := by rw [aH6]; rfl
def Da : LK := [(.fit (.x 0), .b true), (.len (.x 0), .x 1)]
def lh57 : LH := ⟨3, 4, 4, [(3, .t 0 5)], [(3, .t 2 5)]⟩
def lf57 : LF := ⟨3, 30, [(3, .sy 3), (7, .sy 3), (8, .sy 3), (9, .x 1), (10, I6 0)], [0, 2, 6], (.exit 0), [(3, .sy 3)], some lh57⟩
noncomputable def aB9 : Tab := bf ({ bc with hyp := Da }) 40 AD [lf57]
theorem runLower_0 (e0 : Nat) (e1 : Nat) (e2 : Nat) : okA (call aB9 9000 40 [.x 0] ⟨H0 e0 e1 e2 , 3, 0, 0⟩) (.x 2) = true := by kernel_rfl
def vS (s : LB) : List Value := [St' s, .int .i64 ((s.length : Int)), St' (aj s)]
theorem pathLower_0 (s : LB) (b0 : s.length ≤ 9223372036854775807) (p0 : s.length ≤ 140737488355328) (w : World) (hl : aG w) : au 40 #[St' s] w (St' (aj s)) := by
 have : (aj s).length = s.length := List.length_map ..
 have ho : ∀ k r, (k, r) ∈ Da → aS (cx (aY (vS s)) (fun j _ => aT (l := vS s) rfl j) 3 aG aJ) k r := by
  unfold Da
  exact hc (dZ (aA rfl) (by first | omega | (simp <;> omega))) <|hc bZ <|hnil
 refine a7 (tb := aB9) (ra := .x 2) rfl (bM.dn ((ab (aY (vS s)) (fun j _ => aT (l := vS s) rfl j)).hyps ho) (by omega) fi40_at aH6 (bq (dm rfl ⟨0, keyLw, cI.use (l := lf57) (h := lh57) (lfOkLw_0 (aj s)) (0, s, (0 : Int)) (wv ⟨by omega, by omega, by simp, by omega, by omega⟩) rfl (by kernel_rfl) (bD := [(0, .x 0), (1, .x 1), (2, I6 0)]) (a8 := []) (fun X => aW (v := St' s) (aW (v := .int .i64 ((s.length : Int))) (eF ed (ao)))) (by kernel_rfl) (bB := [(2, .x 0)]) (aW (v := St' (aj s)) (ao)) (by kernel_rfl)⟩) bj)) rfl (fh (by omega)) fiB40 (fun e0 e1 e2 => runLower_0 e0 e1 e2 ) (args := [St' s]) (by simp only [aH, Rel]; exact ⟨_, _, rfl, rfl, rfl⟩) w hl fun x hx => ?_
 simp only [Rel, aH] at hx
 exact hx
theorem callsLower (s : LB) (b0 : s.length ≤ 9223372036854775807) (p0 : s.length ≤ 140737488355328) (w : World) (hl : aG w) : au 40 #[St' s] w (St' (aj s)) := by
 rw [show (St' (aj s) : Value) = (St' (aj s) : Value) from by rfl]
 exact pathLower_0 s b0 p0 w hl
theorem om {x0 r : AV} {s : LB} (i0 : Is (cx nu one 3 aG aJ) x0 (St' s)) (hr : Den (cx nu one 3 aG aJ) r (St' (aj s))) (b0 : s.length ≤ 9223372036854775807 := by omega) (p0 : s.length ≤ 140737488355328 := by omega) : aS (cx nu one 3 aG aJ) (.call 40 [x0]) r := by
 intro ρ args ha w hl _
 simp only [aH] at ha
 obtain ⟨v0, t0, rfl, a0, rfl⟩ := ha
 have e0 := i0 ρ _ a0; subst e0
 exact (callsLower s b0 p0 w hl).mono fun e w' he => ⟨_, he.1, hr ρ, he.2⟩
noncomputable def FK : Code := fa (Tryd.f41.body.getD .skip) 0
theorem keyLq : fH (ct (Tryd.f41.body.getD .skip)) 3 0 0 = true := by kernel_rfl
def oP : List Nat := []
def rJ : LA := [(3, .sy 3), (4, .x 1)]
def qn : LE := [(3, .t 0 5)]
def vR (T l : LB) (i : Int) : List Value := [St' l, .int .i64 (i), .int .i64 ((l.length : Int)), .int .i64 ((l.length : Int)), .int .u8 (bt l i.toNat), .int .i64 (i + 1), .int .i64 ((l.length : Int)), .int .u8 (bt l i.toNat), .int .u8 ((bt l i.toNat) + 32), St' (List.set l i.toNat (u8 ((bt l i.toNat) + 32))), .int .i64 (i + 1), .int .i64 ((l.length : Int)), .int .u8 (bt l i.toNat), .int .i64 (i + 1)]
def roLq_0 (T l : LB) (i : Int) : List Value := []
def rK (st : Nat × LB × Int) : LA := rJ
def hpLq (st : Nat × LB × Int) : LE := qn
def nuLq (T : LB) (st : Nat × LB × Int) : List Value := vR T (st.2.1) (st.2.2)
def roLq (T : LB) (st : Nat × LB × Int) : List Value := roLq_0 T (st.2.1) (st.2.2)
theorem onLq (T : LB) (st : Nat × LB × Int) : ∀ j, (aY (nuLq T st) j).oneCell' = true := by
 intro j
 unfold nuLq
 exact aT (l := vR T (st.2.1) (st.2.2)) rfl j
theorem ebLq (st : Nat × LB × Int) : (dG (rK st) && eG oP) = true := by
 unfold rK
 rfl
noncomputable def DLq (T : LB) (st : Nat × LB × Int) (X : Nat → Value) : Cx := cx (ay (nuLq T st) (rX (roLq T st) X)) (az (onLq T st)) 3 aG aJ
abbrev CjLq (T : LB) (tag : Nat) (l : LB) (i : Int) : Prop := (0 ≤ i) ∧ (i ≤ (l.length : Int)) ∧ (l.take i.toNat ++ aj (l.drop i.toNat) = T) ∧ (l.length ≤ 140737488355328) ∧ (tag < 1)
def kA (T : LB) (st : Nat × LB × Int) : Prop := CjLq T st.1 (st.2.1) (st.2.2)
theorem wx {T : LB} {tag : Nat} {l : LB} {i : Int} (h : CjLq T tag l i) : kA T (tag, l, i) := h
theorem tM (T : LB) (tag : Nat) (l : LB) (i : Int) (h : kA T (tag, l, i)) : CjLq T tag l i := h
def wt (T : LB) (st : Nat × LB × Int) : Nat := ((st.2.1).length - (st.2.2).toNat)
abbrev pM (T : LB) (E' : Cx) (ex' : Ex) (epx' : LA) (hpx' : LE) (st : Nat × LB × Int) (X : Nat → Value) : Prop := bm E' FK oP 35 ex' 3 4 4 4 rK hpLq epx' hpx' (kA T) (wt T) (DLq T) st X
noncomputable abbrev BM (T l : LB) (i : Int) (X : Nat → Value) : Cx := cx (ay (vR T l i) (rX (roLq_0 T l i) X)) (az (aT (l := vR T l i) rfl)) 3 aG aJ
noncomputable abbrev pK (h : LK) (x : Ex) (th : LA) (sg : List (Nat × Nat)) (m : Nat) (ep : LA) (hp : LE) : Bool := cr (code (aR h) 400 [] FK (cN (cV rJ oP) 35) ⟨bA qn .leaf, 4, 0, 0⟩) x oP 35 4 th sg 4 m ep hp
theorem B3 {T l : LB} {i : Int} {X : Nat → Value} {h : LK} (y : Nat × LB × Int) {th : LA} {sg : List (Nat × Nat)} (ho : ∀ a' r', (a', r') ∈ h → aS (BM T l i X) a' r') (hy : kA T y) (lt : wt T y < wt T (0, l, i)) (ht : bN (BM T l i X) (DLq T y X) th) (run : pK h .normal th sg 4 (rK y) (hpLq y) = true) : pM T E' x' e' h' (0, l, i) X :=
 bm.next (tb := aR h) (L := []) (f := 400) y ((ab _ _).hyps ho) (bU.nil _) rfl hy lt ht run
theorem lvLq_0 {T l : LB} {i : Int} {X : Nat → Value} {h : LK} {th : LA} {sg : List (Nat × Nat)} (hne : eK x' .normal = false) (ho : ∀ a' r', (a', r') ∈ h → aS (BM T l i X) a' r') (ht : bN (BM T l i X) E' th) (run : pK h x' th sg 4 e' h' = true) : pM T E' x' e' h' (0, l, i) X :=
 bm.leave (tb := aR h) (L := []) (f := 400) ((ab _ _).hyps ho) (bU.nil _) rfl hne ht run
def DZ : LK := [(.len (.x 0), .x 2), (.bin .lss (.x 1) (.x 2), .b false)]
theorem runLq_p0 : pK DZ (.exit 0) [(0, .x 0)] [] 4 [(3, .sy 3)] [(3, .t 0 5)] = true := by kernel_rfl
def DY : LK := [(.len (.x 0), .x 3), (.bin .lss (.x 1) (.x 3), .b true), (.cW (.x 0) (.x 1), .x 4), (.bin .geq (.x 4) (.i .u8 (.ofNat 65)), .b true), (.bin .leq (.x 4) (.i .u8 (.ofNat 90)), .b false), (.bin .add (.x 1) (I6 1), .x 5)]
theorem runLq_p1 : pK DY .normal [(0, .x 0), (1, .x 5)] [] 4 rJ qn = true := by kernel_rfl
def DX : LK := [(.len (.x 0), .x 6), (.bin .lss (.x 1) (.x 6), .b true), (.cW (.x 0) (.x 1), .x 7), (.bin .geq (.x 7) (.i .u8 (.ofNat 65)), .b true), (.bin .leq (.x 7) (.i .u8 (.ofNat 90)), .b true), (.bin .add (.x 7) (.i .u8 (.ofNat 32)), .x 8), (.set (.x 0) (.x 1) (.x 8), .x 9), (.bin .add (.x 1) (I6 1), .x 10)]
theorem runLq_p2 : pK DX .normal [(0, .x 9), (1, .x 10)] [] 4 rJ qn = true := by kernel_rfl
def DW : LK := [(.len (.x 0), .x 11), (.bin .lss (.x 1) (.x 11), .b true), (.cW (.x 0) (.x 1), .x 12), (.bin .geq (.x 12) (.i .u8 (.ofNat 65)), .b false), (.bin .add (.x 1) (I6 1), .x 13)]
theorem runLq_p3 : pK DW .normal [(0, .x 0), (1, .x 13)] [] 4 rJ qn = true := by kernel_rfl
section
variable {T : LB} {l : LB} {i : Int} {X : Nat → Value}
theorem nxLq_p1 (hI : kA T (0, l, i)) (h0 : i < (l.length : Int)) (h1 : 65 ≤ bt l i.toNat) (h2 : ¬ (bt l i.toNat ≤ 90)) : pM T E' x' e' h' (0, l, i) X := by
 obtain ⟨i0, i1, i2, i3, it⟩ := tM T 0 l i hI
 have := hJ l i.toNat; have := hR l i.toNat
 refine B3 (h := DY) (0, l, (i + 1)) ?_ (wx ⟨by omega, by omega, by rw [← i2, show (i + 1).toNat = i.toNat + 1 by omega]; exact wz (by omega) (by omega), by omega, by omega⟩) (by show l.length - (i + 1).toNat < l.length - i.toNat; omega) (aW (v := St' l) (c8 (b := ((i + 1))) rfl rfl (by omega) (ao))) runLq_p1
 unfold DY
 exact hc bZ <|hc dO <|hc (dP (i := i.toNat) (aA rfl) (aA rfl) (aF rfl) (by omega) (by first | omega | (simp <;> omega)) rfl) <|hc mS <|hc lecF <|hc cQ <|hnil
theorem nxLq_p2 (hI : kA T (0, l, i)) (h0 : i < (l.length : Int)) (h1 : 65 ≤ bt l i.toNat) (h2 : bt l i.toNat ≤ 90) : pM T E' x' e' h' (0, l, i) X := by
 obtain ⟨i0, i1, i2, i3, it⟩ := tM T 0 l i hI
 have := hJ l i.toNat; have := hR l i.toNat
 have : (List.set l i.toNat (u8 ((bt l i.toNat) + 32))).length = l.length := List.length_set ..
 refine B3 (h := DX) (0, (List.set l i.toNat (u8 ((bt l i.toNat) + 32))), (i + 1)) ?_ (wx ⟨by omega, by rw [List.length_set]; omega, by rw [← i2, show (i + 1).toNat = i.toNat + 1 by omega]; exact low_set (by omega) (by omega), by rw [List.length_set]; omega, by omega⟩) (by show (List.set l i.toNat _).length - (i + 1).toNat < l.length - i.toNat; rw [List.length_set]; omega) (aW (v := St' (List.set l i.toNat (u8 ((bt l i.toNat) + 32)))) (c8 (b := ((i + 1))) rfl rfl (by omega) (ao))) runLq_p2
 unfold DX
 exact hc bZ <|hc dO <|hc (dP (i := i.toNat) (aA rfl) (aA rfl) (aF rfl) (by omega) (by first | omega | (simp <;> omega)) rfl) <|hc mS <|hc lecT <|hc (oX (aA rfl) (bw (m := 32) rfl) (aF rfl) (by omega) (fU8 (by omega) (by omega))) <|hc (kSet (i := i.toNat) (aA rfl) (aA rfl) (aA rfl) (aF rfl) (by omega) (by first | omega | (simp <;> omega)) (by omega) (by omega) rfl) <|hc cQ <|hnil
theorem nxLq_p3 (hI : kA T (0, l, i)) (h0 : i < (l.length : Int)) (h1 : ¬ (65 ≤ bt l i.toNat)) : pM T E' x' e' h' (0, l, i) X := by
 obtain ⟨i0, i1, i2, i3, it⟩ := tM T 0 l i hI
 have := hJ l i.toNat; have := hR l i.toNat
 refine B3 (h := DW) (0, l, (i + 1)) ?_ (wx ⟨by omega, by omega, by rw [← i2, show (i + 1).toNat = i.toNat + 1 by omega]; exact wz (by omega) (by omega), by omega, by omega⟩) (by show l.length - (i + 1).toNat < l.length - i.toNat; omega) (aW (v := St' l) (c8 (b := ((i + 1))) rfl rfl (by omega) (ao))) runLq_p3
 unfold DW
 exact hc bZ <|hc dO <|hc (dP (i := i.toNat) (aA rfl) (aA rfl) (aF rfl) (by omega) (by first | omega | (simp <;> omega)) rfl) <|hc rA <|hc cQ <|hnil
end
def aW6 (T : LB) : List Value := [St' T]
def roELq_0 (T : LB) : List Value := []
noncomputable def ELq_0 (T : LB) : Cx := cx (ay (aW6 T) (rX (roELq_0 T) (fun _ => .bool true))) (az (aT (l := aW6 T) rfl)) 3 aG aJ
theorem roundsLq_0 (T : LB) (st : Nat × LB × Int) (X : Nat → Value) (hI : kA T st) : pM T (ELq_0 T) (.exit 0) [(3, .sy 3)] [(3, .t 0 5)] st X := by
 obtain ⟨tag, l, i⟩ := st
 have hI0 := hI
 obtain ⟨i0, i1, i2, i3, it⟩ := tM T tag l i hI
 obtain rfl : tag = 0 := by omega
 skip
 by_cases h0 : i < (l.length : Int)
 ·by_cases h1 : 65 ≤ bt l i.toNat
  ·by_cases h2 : bt l i.toNat ≤ 90
   ·exact nxLq_p2 hI0 h0 h1 h2
   ·exact nxLq_p1 hI0 h0 h1 h2
  ·exact nxLq_p3 hI0 h0 h1
 ·refine lvLq_0 (h := DZ) rfl ?_ (bn (v := St' l) (u := St' T) rfl rfl (congrArg (fun l => St' l) (by rw [← i2]; exact (aX6 (by omega)).symm)) (ao)) runLq_p0
  unfold DZ
  exact hc bZ <|hc iJ <|hnil
theorem lfOkLq_0 (T : LB) : cI (cx nu one 3 aG aJ) (ELq_0 T) FK oP 35 (.exit 0) 3 4 4 4 rK hpLq [(3, .sy 3)] [(3, .t 0 5)] (kA T) (DLq T) :=
 fb (wt T) (fun _ _ => rfl) (fun _ _ => rfl) (fun _ _ => rfl) (fun st X t ht => fX.trans (fV ((by decide : ∀ t, t ∈ oP → t < 1000000) t ht))) rfl rfl rfl ebLq rfl rfl (roundsLq_0 T)
noncomputable def AB : FI := (bc.fn.get 41).getD default
theorem fi41_at : bc.fn.get 41 = some AB := by kernel_rfl
theorem aH5 : AB.body = some (Tryd.f41.body.getD .skip) := by kernel_rfl
theorem fiB41 : AB.body.isSome = true := by rw [aH5]; rfl
def Db : LK := [(.fit (.x 0), .b true)]
def lh58 : LH := ⟨3, 4, 4, [(3, .t 0 5)], [(3, .t 1 5)]⟩
def lf58 : LF := ⟨3, 35, [(3, .sy 3), (4, I6 0)], [], (.exit 0), [(3, .sy 3)], some lh58⟩
noncomputable def aA8 : Tab := bf ({ bc with hyp := Db }) 41 AB [lf58]
theorem runLowerR_0 (e0 : Nat) (e1 : Nat) (e2 : Nat) : okA (call aA8 9000 41 [.x 0] ⟨H0 e0 e1 e2 , 3, 0, 0⟩) (.x 1) = true := by kernel_rfl
def vT (s : LB) : List Value := [St' s, St' (aj s)]
theorem pathLowerR_0 (s : LB) (b0 : s.length ≤ 9223372036854775807) (p0 : s.length ≤ 140737488355328) (w : World) (hl : aG w) : au 41 #[St' s] w (St' (aj s)) := by
 have : (aj s).length = s.length := List.length_map ..
 have ho : ∀ k r, (k, r) ∈ Db → aS (cx (aY (vT s)) (fun j _ => aT (l := vT s) rfl j) 3 aG aJ) k r := by
  unfold Db
  exact hc (dZ (aA rfl) (by first | omega | (simp <;> omega))) <|hnil
 refine a7 (tb := aA8) (ra := .x 1) rfl (bM.dn ((ab (aY (vT s)) (fun j _ => aT (l := vT s) rfl j)).hyps ho) (by omega) fi41_at aH5 (bq (dm rfl ⟨0, keyLq, cI.use (l := lf58) (h := lh58) (lfOkLq_0 (aj s)) (0, s, (0 : Int)) (wx ⟨by omega, by omega, by simp, by omega, by omega⟩) rfl (by kernel_rfl) (bD := [(0, .x 0), (1, I6 0)]) (a8 := []) (fun X => aW (v := St' s) (eF ed (ao))) (by kernel_rfl) (bB := [(1, .x 0)]) (aW (v := St' (aj s)) (ao)) (by kernel_rfl)⟩) bj)) rfl (fh (by omega)) fiB41 (fun e0 e1 e2 => runLowerR_0 e0 e1 e2 ) (args := [St' s]) (by simp only [aH, Rel]; exact ⟨_, _, rfl, rfl, rfl⟩) w hl fun x hx => ?_
 simp only [Rel, aH] at hx
 exact hx
theorem callsLowerR (s : LB) (b0 : s.length ≤ 9223372036854775807) (p0 : s.length ≤ 140737488355328) (w : World) (hl : aG w) : au 41 #[St' s] w (St' (aj s)) := by
 rw [show (St' (aj s) : Value) = (St' (aj s) : Value) from by rfl]
 exact pathLowerR_0 s b0 p0 w hl
theorem ew {x0 r : AV} {s : LB} (i0 : Is (cx nu one 3 aG aJ) x0 (St' s)) (hr : Den (cx nu one 3 aG aJ) r (St' (aj s))) (b0 : s.length ≤ 9223372036854775807 := by omega) (p0 : s.length ≤ 140737488355328 := by omega) : aS (cx nu one 3 aG aJ) (.call 41 [x0]) r := by
 intro ρ args ha w hl _
 simp only [aH] at ha
 obtain ⟨v0, t0, rfl, a0, rfl⟩ := ha
 have e0 := i0 ρ _ a0; subst e0
 exact (callsLowerR s b0 p0 w hl).mono fun e w' he => ⟨_, he.1, hr ρ, he.2⟩
end Go.Proofs.YtngkglegomkjkaaDoor.replyTells

