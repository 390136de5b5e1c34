/- A part of the proof: an interpreter of the model's own code on partly known states, and that what it answers is what the program answers. No condition of its own. -/
import Derived.Test.YtkhcgoeccmkmdaaGreatDoorAXpart3
section
set_option linter.unusedVariables false
set_option linter.unusedSimpArgs false
namespace Go.AX
noncomputable section
/- the same, quicker: the arms of what is looked into are closed terms, so that the kernel does not copy them -/
abbrev KV := AV → St → Bool
abbrev KX := Ex → T AV → St → Bool
structure RX where
  code : Code → Nat → T AV → KX → St → Bool
  call : Nat → List AV → KV → St → Bool
  rnd : Nat → List AV → KV → St → Bool
def sel (b : Bool) : Bool → Bool → Bool := Bool.rec (motive := fun _ => Bool → Bool → Bool) (fun x y => y) (fun x y => x) b
/- tries: the way to a place is made once for each number -/
inductive Pt where
  | e
  | l (p : Pt)
  | r (p : Pt)
def ptF (f : Nat) : Nat → Pt := Nat.rec (motive := fun _ => Nat → Pt) (fun _ => .e) (fun _ ih n => Nat.rec (motive := fun _ => Pt) .e (fun k _ => Nat.rec (motive := fun _ => Pt) (.l (ih (Nat.div k 2))) (fun _ _ => .r (ih (Nat.div k 2))) (Nat.mod k 2)) n) f
def ptP {α : Type} (p : Pt) : T α → α → T α := Pt.rec (motive := fun _ => T α → α → T α)
  (fun t x => T.rec (motive := fun _ => T α) (.node (some x) .leaf .leaf) (fun _ l r _ _ => .node (some x) l r) t)
  (fun _ ih t x => T.rec (motive := fun _ => T α) (.node none (ih .leaf x) .leaf) (fun v l r _ _ => .node v (ih l x) r) t)
  (fun _ ih t x => T.rec (motive := fun _ => T α) (.node none .leaf (ih .leaf x)) (fun v l r _ _ => .node v l (ih r x)) t) p
def ptG {α : Type} (p : Pt) : T α → Option α := Pt.rec (motive := fun _ => T α → Option α)
  (T.rec (motive := fun _ => Option α) none (fun v _ _ _ _ => v))
  (fun _ ih => T.rec (motive := fun _ => Option α) none (fun _ l _ _ _ => ih l))
  (fun _ ih => T.rec (motive := fun _ => Option α) none (fun _ _ r _ _ => ih r)) p
def T.put {α : Type} (x : α) (t : T α) (n : Nat) : T α := ptP (ptF n n) t x
def T.gt {α : Type} (t : T α) (n : Nat) : Option α := ptG (ptF n n) t
/- operands -/
def optV (o : Option AV) : AV := Option.rec (motive := fun _ => AV) .und (fun v => v) o
def oTmp (t : Nat) (tb : Tab) (tm : T AV) : AV := optV (T.gt tm t)
def oConst (v : Value) (tb : Tab) (tm : T AV) : AV := ofV v
def oGlob (g : Nat) (tb : Tab) (tm : T AV) : AV := cond (Nat.blt g tb.ng) (.p g 0) .und
def oFn (f : Nat) (tb : Tab) (tm : T AV) : AV := .fn f [] []
def opP (x : Operand) : Tab → T AV → AV := Operand.rec (motive := fun _ => Tab → T AV → AV) oTmp oConst oGlob oFn x
def opsP (l : List Operand) : Tab → T AV → List AV := List.rec (motive := fun _ => Tab → T AV → List AV) (fun _ _ => []) (fun x _ ih tb tm => opP x tb tm :: ih tb tm) l
/- operations -/
abbrev OpC := RX → Tab → T AV → KV → St → Bool
def embV (m : M AV) (k : KV) (S : St) : Bool := embC m k S
def aMove (x : Operand) : OpC := fun R tb tm k S => k (opP x tb tm) S
def pickN (p q : AV) (k : KV) (S : St) : Bool := false
def pickB2 (b : Bool) : AV → AV → KV → St → Bool := Bool.rec (motive := fun _ => AV → AV → KV → St → Bool) (fun _ q k S => k q S) (fun p _ k S => k p S) b
def pickV (v : AV) : AV → AV → KV → St → Bool := AV.rec (motive_1 := fun _ => AV → AV → KV → St → Bool) (motive_2 := fun _ => Unit) (pickN) (fun v => pickB2 v) (fun k a => pickN) (fun l n => pickN) (pickN) (fun v o => pickN) (pickN) (fun v o n c r => pickN) (pickN) (fun t v _ => pickN) (fun l _ => pickN) (fun l _ => pickN) (fun g a c _ _ => pickN) (pickN) (fun n => pickN) (fun n => pickN) (pickN) (fun t => pickN) (fun i => pickN) () (fun _ _ _ _ => ()) v
def aPick (c a d : Operand) : OpC := fun R tb tm k S => pickV (opP c tb tm) (opP a tb tm) (opP d tb tm) k S
def withTI (o : Option TI) : (TI → KV → St → Bool) → KV → St → Bool := Option.rec (motive := fun _ => (TI → KV → St → Bool) → KV → St → Bool) (fun _ _ _ => false) (fun ti f k S => f ti k S) o
def allocT (e : Nat) (ti : TI) (k : KV) (S : St) : Bool := allocK e ti.zs ti.zc ti.zero k S
def aAlloc (e : Nat) : OpC := fun R tb tm k S => withTI (tb.ty.get e) (allocT e) k S
/- loads -/
def loadAg (o sz : Nat) (b : Blk) (k : KV) (S : St) : Bool := Option.rec (motive := fun _ => Bool) false (fun c => k (.ag (Cells.toL c)) S) (b.c.sub o sz)
def loadOne (o sz : Nat) (b : Blk) (k : KV) (S : St) : Bool := Option.rec (motive := fun _ => Bool) false (fun v => k v S) (b.c.get o)
def loadBad (o sz : Nat) (b : Blk) (k : KV) (S : St) : Bool := false
def kLoad (q : K) : Nat → Nat → Blk → KV → St → Bool := match q with
  | .struct => loadAg
  | .arr _ _ => loadAg
  | .bad => loadBad
  | _ => loadOne
def entB (e : Ent) : (Blk → St → Bool) → St → Bool := Ent.rec (motive := fun _ => (Blk → St → Bool) → St → Bool) (fun b f S => f b S) (fun _ _ _ => false) (fun _ _ _ _ => false) (fun _ _ _ _ _ _ => false) e
def optE (o : Option Ent) : (Blk → St → Bool) → St → Bool := Option.rec (motive := fun _ => (Blk → St → Bool) → St → Bool) (fun _ _ => false) (fun e f S => entB e f S) o
def rdP (v : Nat) (f : Blk → St → Bool) (S : St) : Bool := optE (T.gt S.heap v) f ⟨S.heap, S.next, Nat.lor S.acc (bit v), S.wr⟩
def loadTI (v o : Nat) (ti : TI) (k : KV) (S : St) : Bool := rdP v (fun b S => kLoad ti.k o ti.size b k S) S
def loadV (x : AV) : Option TI → KV → St → Bool := match x with
  | .p v o => loadP v o
  | _ => fun _ _ _ => false
where loadP (v o : Nat) (q : Option TI) (k : KV) (S : St) : Bool := withTI q (loadTI v o) k S
def aLoad (t : Nat) (a : Operand) : OpC := fun R tb tm k S => loadV (opP a tb tm) (tb.ty.get t) k S
/- stores -/
def updP (v : Nat) (b : Blk) (k : KV) (S : St) : Bool := Bool.rec (motive := fun _ => Bool) false (k .und ⟨T.put (.b b) S.heap v, S.next, Nat.lor S.acc (bit v), Nat.lor S.wr (bit v)⟩) (Nat.ble (Nat.succ v) S.next && Nat.ble v 16777213)
def stCells (v : Nat) (b : Blk) (c : Option Cells) : KV → St → Bool := Option.rec (motive := fun _ => KV → St → Bool) (fun _ _ => false) (fun c k S => updP v { b with c := c } k S) c
def stOne (y : AV) (v o sz : Nat) (b : Blk) (k : KV) (S : St) : Bool := Bool.rec (motive := fun _ => Bool) false (stCells v b (b.c.set1 o y) k S) (scal y && Nat.beq sz 1)
def stAg (l : List AV) (v o sz : Nat) (b : Blk) (k : KV) (S : St) : Bool := Bool.rec (motive := fun _ => Bool) false (stCells v b (b.c.put o (.l l)) k S) (Nat.beq l.length sz && Nat.ble (Nat.add o sz) b.c.len && l.all scal)
def stY (y : AV) : Nat → Nat → Nat → Blk → KV → St → Bool := match y with
  | .ag l => stAg l
  | y => stOne y
def stB (y : AV) (v o sz : Nat) (k : KV) (b : Blk) (S : St) : Bool := Bool.rec (motive := fun _ => Bool) false (stY y v o sz b k S) (Nat.ble b.fr o)
def storeTI (v o : Nat) (y : AV) (ti : TI) (k : KV) (S : St) : Bool := rdP v (stB y v o ti.size k) S
def storeV (x : AV) : AV → Option TI → KV → St → Bool := match x with
  | .p v o => storeP v o
  | _ => fun _ _ _ _ => false
where storeP (v o : Nat) (y : AV) (q : Option TI) (k : KV) (S : St) : Bool := withTI q (storeTI v o y) k S
def aStore (t : Nat) (a x : Operand) : OpC := fun R tb tm k S => storeV (opP a tb tm) (opP x tb tm) (tb.ty.get t) k S
def nilP (x : AV) : KV → St → Bool := match x with
  | .p v o => fun k S => k (.p v o) S
  | .h t => fun k S => k (.h t) S
  | .ifc t v => fun k S => k (.ifc t v) S
  | .fn g a c => fun k S => k (.fn g a c) S
  | .yl n => fun k S => k (.yl n) S
  | _ => fun _ _ => false
def aNil (x : Operand) : OpC := fun R tb tm k S => nilP (opP x tb tm) k S
/- numbers -/
def iAddN (m : Nat) (n : Nat) : Int := .ofNat (Nat.add m n)
def iAdd (a c : Int) : Int := a + c
def rV (b : Bool) (v : AV) (k : KV) (S : St) : Bool := Bool.rec (motive := fun _ => Bool) false (k v S) b
def kq (k l : IntKind) : Bool := Nat.beq (kn k) (kn l)
def sAdd (k l : IntKind) (a c : Int) (q : KV) (S : St) : Bool := rV (kq k l) (mkI k (a + c)) q S
def sSub (k l : IntKind) (a c : Int) (q : KV) (S : St) : Bool := rV (kq k l) (mkI k (a - c)) q S
def sLss (k l : IntKind) (a c : Int) (q : KV) (S : St) : Bool := rV (kq k l) (.b (ilt a c)) q S
def sLeq (k l : IntKind) (a c : Int) (q : KV) (S : St) : Bool := rV (kq k l) (.b (ile a c)) q S
def sGtr (k l : IntKind) (a c : Int) (q : KV) (S : St) : Bool := rV (kq k l) (.b (ilt c a)) q S
def sGeq (k l : IntKind) (a c : Int) (q : KV) (S : St) : Bool := rV (kq k l) (.b (ile c a)) q S
def sEql (k l : IntKind) (a c : Int) (q : KV) (S : St) : Bool := rV (kq k l) (.b (ieq a c)) q S
def sNeq (k l : IntKind) (a c : Int) (q : KV) (S : St) : Bool := rV (kq k l) (.b (!(ieq a c))) q S
def sEls (o : BinOp) (k l : IntKind) (a c : Int) (q : KV) (S : St) : Bool := embC (binSh o k l a c) q S
def binShP (o : BinOp) : IntKind → IntKind → Int → Int → KV → St → Bool := BinOp.rec (motive := fun _ => IntKind → IntKind → Int → Int → KV → St → Bool) sAdd sSub (sEls .mul) (sEls .quo) (sEls .rem) (sEls .and) (sEls .or) (sEls .xor) (sEls .shl) (sEls .shr) (sEls .andNot) sEql sNeq sLss sLeq sGtr sGeq o
def binII (l : IntKind) (c : Int) (o : BinOp) (t : Nat) (cx : Bool) (k : IntKind) (a : Int) (tb : Tab) (q : KV) (S : St) : Bool := binShP o k l a c q S
def binIE (y : AV) (o : BinOp) (t : Nat) (cx : Bool) (k : IntKind) (a : Int) (tb : Tab) (q : KV) (S : St) : Bool := embC (binH tb o t cx (.i k a) y) q S
def binI2 (y : AV) : BinOp → Nat → Bool → IntKind → Int → Tab → KV → St → Bool := AV.rec (motive_1 := fun _ => BinOp → Nat → Bool → IntKind → Int → Tab → KV → St → Bool) (motive_2 := fun _ => Unit) (binIE .und) (fun v => binIE (.b v)) (fun k a => binII k a) (fun l n => binIE (.s l n)) (binIE .nilp) (fun v o => binIE (.p v o)) (binIE .nils) (fun v o n c r => binIE (.sl v o n c r)) (binIE .ni) (fun t v _ => binIE (.ifc t v)) (fun l _ => binIE (.ag l)) (fun l _ => binIE (.tu l)) (fun g a c _ _ => binIE (.fn g a c)) (binIE .nilf) (fun n => binIE (.yl n)) (fun n => binIE (.mp n)) (binIE .nilm) (fun t => binIE (.h t)) (fun i => binIE (.x i)) () (fun _ _ _ _ => ()) y
def binI0 (k : IntKind) (a : Int) (o : BinOp) (t : Nat) (cx : Bool) (y : AV) (tb : Tab) (q : KV) (S : St) : Bool := binI2 y o t cx k a tb q S
def binX0 (x : AV) (o : BinOp) (t : Nat) (cx : Bool) (y : AV) (tb : Tab) (q : KV) (S : St) : Bool := embC (binF tb o t cx x y) q S
def binV (x : AV) : BinOp → Nat → Bool → AV → Tab → KV → St → Bool := AV.rec (motive_1 := fun _ => BinOp → Nat → Bool → AV → Tab → KV → St → Bool) (motive_2 := fun _ => Unit) (binX0 .und) (fun v => binX0 (.b v)) (fun k a => binI0 k a) (fun l n => binX0 (.s l n)) (binX0 .nilp) (fun v o => binX0 (.p v o)) (binX0 .nils) (fun v o n c r => binX0 (.sl v o n c r)) (binX0 .ni) (fun t v _ => binX0 (.ifc t v)) (fun l _ => binX0 (.ag l)) (fun l _ => binX0 (.tu l)) (fun g a c _ _ => binX0 (.fn g a c)) (binX0 .nilf) (fun n => binX0 (.yl n)) (fun n => binX0 (.mp n)) (binX0 .nilm) (fun t => binX0 (.h t)) (fun i => binX0 (.x i)) () (fun _ _ _ _ => ()) x
def aBin (o : BinOp) (t : Nat) (x y : Operand) (u : Nat) : OpC := fun R tb tm k S => binV (opP x tb tm) o t (isC x || isC y) (opP y tb tm) tb k S
/- fields, indexes -/
def optF {α : Type} (o : Option α) : (α → KV → St → Bool) → KV → St → Bool := Option.rec (motive := fun _ => (α → KV → St → Bool) → KV → St → Bool) (fun _ _ _ => false) (fun a f k S => f a k S) o
def retO (o : Option AV) : KV → St → Bool := Option.rec (motive := fun _ => KV → St → Bool) (fun _ _ => false) (fun v k S => k v S) o
def flAg (l : List AV) (fl : Fl) (k : KV) (S : St) : Bool := retO (part l fl) k S
def flNo (fl : Fl) (k : KV) (S : St) : Bool := false
def fieldV (x : AV) : Fl → KV → St → Bool := match x with
  | .ag l => flAg l
  | _ => flNo
def fieldTI (i : Nat) (x : AV) (ti : TI) (k : KV) (S : St) : Bool := optF (fget ti.fs i) (fieldV x) k S
def aField (t : Nat) (x : Operand) (i : Nat) : OpC := fun R tb tm k S => withTI (tb.ty.get t) (fieldTI i (opP x tb tm)) k S
def faP (v o : Nat) (fl : Fl) (k : KV) (S : St) : Bool := Bool.rec (motive := fun _ => Bool) (k (.p v (Nat.add o fl.off)) S) false (Nat.beq fl.sz 0)
def faddrV (x : AV) : Fl → KV → St → Bool := match x with
  | .p v o => faP v o
  | _ => flNo
def faddrTI (i : Nat) (x : AV) (ti : TI) (k : KV) (S : St) : Bool := optF (fget ti.fs i) (faddrV x) k S
def aFieldAddr (t : Nat) (x : Operand) (i : Nat) : OpC := fun R tb tm k S => withTI (tb.ty.get t) (faddrTI i (opP x tb tm)) k S
def ixSl (v o n : Nat) (e i : Nat) (tb : Tab) (k : KV) (S : St) : Bool := Bool.rec (motive := fun _ => Bool) false (withTI (tb.ty.get e) (fun te k S => k (.p v (Nat.add o (Nat.mul i te.size))) S) k S) (Nat.ble (Nat.succ i) n)
def ixSlV (x : AV) : Nat → Nat → Tab → KV → St → Bool := match x with
  | .sl v o n _ _ => ixSl v o n
  | _ => fun _ _ _ _ _ => false
def ixE (q : K) (x : AV) (i : Nat) (tb : Tab) (k : KV) (S : St) : Bool := embC (idxA tb q x i) k S
def ixS (e : Nat) (x : AV) (i : Nat) (tb : Tab) (k : KV) (S : St) : Bool := ixSlV x e i tb k S
def ixK (q : K) : AV → Nat → Tab → KV → St → Bool := match q with
  | .slice e => ixS e
  | q => ixE q
def iaTI (x y : AV) (tb : Tab) (ti : TI) (k : KV) (S : St) : Bool := optF (asN y) (fun i k S => ixK ti.k x i tb k S) k S
def aIndexAddr (t : Nat) (x ix : Operand) : OpC := fun R tb tm k S => withTI (tb.ty.get t) (iaTI (opP x tb tm) (opP ix tb tm) tb) k S
def ixStr (l n : Nat) (i : Nat) (k : KV) (S : St) : Bool := Bool.rec (motive := fun _ => Bool) false (k (.i .u8 (.ofNat (byteAt n i))) S) (Nat.ble (Nat.succ i) l)
def ixStrS (l n : Nat) (tb : Tab) (y : AV) (k : KV) (S : St) : Bool := optF (asN y) (ixStr l n) k S
def ixStrE (x : AV) (tb : Tab) (y : AV) (k : KV) (S : St) : Bool := embC (idxS tb x y) k S
def ixStrV (x : AV) : Tab → AV → KV → St → Bool := match x with
  | .s l n => ixStrS l n
  | x => ixStrE x
def ixQS (x : AV) (tb : Tab) (y : AV) (k : KV) (S : St) : Bool := ixStrV x tb y k S
def ixQE (q : K) (x : AV) (tb : Tab) (y : AV) (k : KV) (S : St) : Bool := embC (idxK tb q x y) k S
def ixQ (q : K) : AV → Tab → AV → KV → St → Bool := match q with
  | .str => ixQS
  | q => ixQE q
def idTI (x y : AV) (tb : Tab) (ti : TI) (k : KV) (S : St) : Bool := ixQ ti.k x tb y k S
def aIndex (t : Nat) (x ix : Operand) : OpC := fun R tb tm k S => withTI (tb.ty.get t) (idTI (opP x tb tm) (opP ix tb tm) tb) k S
def extV (x : AV) : Nat → KV → St → Bool := match x with
  | .tu l => fun i k S => retO (lget l i) k S
  | _ => fun _ _ _ => false
def aExtract (x : Operand) (i : Nat) : OpC := fun R tb tm k S => extV (opP x tb tm) i k S
/- conversions -/
def cvK (q : K) : Int → M AV → KV → St → Bool := match q with
  | .int q => fun n m k S => k (mkI q n) S
  | _ => fun n m k S => embC m k S
def cvI (n : Int) (ts td : Option TI) (m : M AV) (k : KV) (S : St) : Bool := withTI ts (fun ts k S => withTI td (fun td k S => Bool.rec (motive := fun _ => Bool) (cvK td.k n m k S) false (isBad ts.k)) k S) k S
def cvE (x : AV) (ts td : Option TI) (m : M AV) (k : KV) (S : St) : Bool := embC m k S
def cvV (x : AV) : Option TI → Option TI → M AV → KV → St → Bool := match x with
  | .i _ n => cvI n
  | x => cvE x
def aConvert (src dst : Nat) (x : Operand) : OpC := fun R tb tm k S => cvV (opP x tb tm) (tb.ty.get src) (tb.ty.get dst) (simple tb (op tb.ng tm) (.convert src dst x)) k S
def mkIfKP (q : K) : Nat → AV → KV → St → Bool := match q with
  | .iface _ => fun _ _ _ _ => false
  | .bad => fun _ _ _ _ => false
  | _ => fun t x k S => k (.ifc t x) S
def aMkIf (t : Nat) (x : Operand) : OpC := fun R tb tm k S => withTI (tb.ty.get t) (fun ti k S => mkIfKP ti.k t (opP x tb tm) k S) k S
def aElse (o : Op) : OpC := fun R tb tm k S => embC (simple tb (op tb.ng tm) o) k S
/- calls -/
def cvFn (g : Nat) (first cap : List AV) (R : RX) (args : List AV) (k : KV) (S : St) : Bool := R.call g (first ++ (args ++ cap)) k S
def cvFn0 (g : Nat) (first : List AV) : List AV → RX → List AV → KV → St → Bool := fun cap => cvFn g first cap
def cvYl (n : Nat) (R : RX) (args : List AV) (k : KV) (S : St) : Bool := R.rnd n args k S
def cvalV (v : AV) : RX → List AV → KV → St → Bool := match v with
  | .fn g a c => cvFn g a c
  | .yl n => cvYl n
  | _ => fun _ _ _ _ => false
def cinvI (t : Nat) (v : AV) (R : RX) (tb : Tab) (m : String) (args : List AV) (k : KV) (S : St) : Bool :=
  Option.rec (motive := fun _ => Bool) false (fun g => Option.rec (motive := fun _ => Bool) false (fun v => R.call g.1 (v :: args) k S) (recv g.2 v)) (methd tb.met t m)
def cinvV (v : AV) : RX → Tab → String → List AV → KV → St → Bool := match v with
  | .ifc t v => cinvI t v
  | _ => fun _ _ _ _ _ _ => false
/- len -/
def lenStr (x : AV) : KV → St → Bool := match x with
  | .s l _ => fun k S => k (.i .i64 (.ofNat l)) S
  | _ => fun _ _ => false
def bCallee (b : Builtin) (R : RX) (tb : Tab) (tm : T AV) (c : Call) (k : KV) (S : St) : Bool := embC (builtinF tb b c.argTypes.toList (opsP c.args.toList tb tm)) k S
def vCallee (g : Operand) (R : RX) (tb : Tab) (tm : T AV) (c : Call) (k : KV) (S : St) : Bool := cvalV (opP g tb tm) R (opsP c.args.toList tb tm) k S
def iCallee (r : Operand) (m : String) (R : RX) (tb : Tab) (tm : T AV) (c : Call) (k : KV) (S : St) : Bool := cinvV (opP r tb tm) R tb m (opsP c.args.toList tb tm) k S
def calleeP (c : Callee) : RX → Tab → T AV → Call → KV → St → Bool := Callee.rec (motive := fun _ => RX → Tab → T AV → Call → KV → St → Bool) vCallee iCallee bCallee c
def aCall (c : Call) : OpC := fun R tb tm k S => calleeP c.callee R tb tm c k S
def operX (o : Op) : OpC := Op.rec (motive := fun _ => OpC)
  (fun x => aMove x)
  (fun x => aMove x)
  (fun c a d => aPick c a d)
  (fun e => aAlloc e)
  (fun t v => aElse (.box t v))
  (fun t p => aElse (.build t p))
  (fun t l p => aElse (.buildSlice t l p))
  (fun t m k v => aElse (.insert t m k v))
  (fun t a => aLoad t a)
  (fun t a x => aStore t a x)
  (fun g => aElse (.ready g))
  (fun g => aElse (.waits g))
  (fun x => aNil x)
  (fun o t x y u => aBin o t x y u)
  (fun o t x => aElse (.unOp o t x))
  (fun s d x => aConvert s d x)
  (fun d x => aElse (.sliceToArrayPointer d x))
  (fun t x => aMkIf t x)
  (fun f a c => aElse (.makeFunc f a c))
  (fun t r => aElse (.makeMap t r))
  (fun t s => aElse (.makeChan t s))
  (fun t l c => aElse (.makeSlice t l c))
  (fun t x l h m => aElse (.slice t x l h m))
  (fun t x i => aFieldAddr t x i)
  (fun t x i => aField t x i)
  (fun t x ix => aIndexAddr t x ix)
  (fun t x ix => aIndex t x ix)
  (fun t x i c => aElse (.lookup t x i c))
  (fun t m k v => aElse (.mapUpdate t m k v))
  (fun t m k => aElse (.mapEntry t m k))
  (fun t m s v => aElse (.entryStore t m s v))
  (fun t x => aElse (.range t x))
  (fun i s => aElse (.next i s))
  (fun i => aElse (.entry i))
  (fun x a b c => aElse (.typeAssert x a b c))
  (fun x i => aExtract x i)
  (fun c => aCall c)
  (fun c => aElse (.go c))
  (fun c => aElse (.defer c))
  (fun x => aElse (.panic x))
  (fun c x => aElse (.send c x))
  (fun t x c => aElse (.recv t x c))
  (fun c d => aElse (.select c d)) o
/- regions -/
abbrev KT := T AV → St → Bool
def putP (d : Option Nat) : Nat → AV → T AV → KT → St → Bool := Option.rec (motive := fun _ => Nat → AV → T AV → KT → St → Bool) (fun nt v tm k S => k tm S)
  (fun d nt v tm k S => Bool.rec (motive := fun _ => Bool) false (k (T.put v tm d) S) (Nat.ble (Nat.succ d) nt)) d
/-- is an operation wanted: its guard -/
def gV (v : AV) : Bool → (Bool → Bool) → Bool := match v with
  | .b x => fun want f => f (x == want)
  | .und => fun _ _ => false
  | .x _ => fun _ _ => false
  | _ => fun _ f => f false
def gT (o : Option AV) : Bool → (Bool → Bool) → Bool := Option.rec (motive := fun _ => Bool → (Bool → Bool) → Bool) (fun _ _ => false) (fun v want f => gV v want f) o
def gD (d : Option Nat) : T AV → Bool → (Bool → Bool) → Bool := Option.rec (motive := fun _ => T AV → Bool → (Bool → Bool) → Bool) (fun _ _ f => f false) (fun d tm want f => gT (T.gt tm d) want f) d
def gO (o : Option Oper) : T AV → Bool → (Bool → Bool) → Bool := Option.rec (motive := fun _ => T AV → Bool → (Bool → Bool) → Bool) (fun _ _ f => f false) (fun o tm want f => gD o.dst tm want f) o
def gGo (p : Nat × Bool) (all : List Oper) (tm : T AV) (run skip : Bool) : Bool := gO (all[p.1]?) tm p.2 (fun b => Bool.rec (motive := fun _ => Bool) skip run b)
def guardP (g : Option (Nat × Bool)) : List Oper → T AV → Bool → Bool → Bool := Option.rec (motive := fun _ => List Oper → T AV → Bool → Bool → Bool) (fun _ _ run _ => run) gGo g
def opsTP (l : List Oper) : List Oper → RX → Tab → Nat → T AV → KT → St → Bool := List.rec (motive := fun _ => List Oper → RX → Tab → Nat → T AV → KT → St → Bool) (fun _ _ _ _ tm k S => k tm S)
  (fun o _ ih all R tb nt tm k S => guardP o.guard all tm (operX o.op R tb tm (fun v S => putP o.dst nt v tm (ih all R tb nt · k ·) S) S) (putP o.dst nt (.tu []) tm (ih all R tb nt · k ·) S)) l
abbrev KD := T AV → List Rec → St → Bool
def recS (n : Nat) (l : List Rec) (S0 S : St) (f : List Rec → St → Bool) : Bool := f (Bool.rec (motive := fun _ => List Rec) (⟨n, S.acc, S.wr⟩ :: l) l (Nat.beq S.acc 0)) ⟨S.heap, S.next, Nat.lor S0.acc S.acc, Nat.lor S0.wr S.wr⟩
def opsDP (l : List Oper) : List Oper → RX → Tab → Nat → Nat → T AV → List Rec → KD → St → Bool := List.rec (motive := fun _ => List Oper → RX → Tab → Nat → Nat → T AV → List Rec → KD → St → Bool) (fun _ _ _ _ _ tm recs k S => k tm recs S)
  (fun o _ ih all R tb nt n tm recs k S => guardP o.guard all tm
    (operX o.op R tb tm (fun v S' => recS n recs S S' (fun recs S => putP o.dst nt v tm (fun tm S => ih all R tb nt (Nat.succ n) tm recs k S) S)) ⟨S.heap, S.next, 0, 0⟩)
    (putP o.dst nt (.tu []) tm (fun tm S => ih all R tb nt (Nat.succ n) tm recs k S) S)) l
def regDP (ops : List Oper) (R : RX) (tb : Tab) (nt : Nat) (tm : T AV) (k : KX) (S : St) : Bool :=
  opsDP ops ops R tb nt 0 tm [] (fun tm recs S => Bool.rec (motive := fun _ => Bool) false (k .normal tm S) (!(anyClash recs) || orderOk (anc ops 0 .leaf) recs)) S
def regTP (ops : List Oper) (R : RX) (tb : Tab) (nt : Nat) (tm : T AV) (k : KX) (S : St) : Bool := opsTP ops ops R tb nt tm (k .normal) S
def regP (draw : Bool) : List Oper → RX → Tab → Nat → T AV → KX → St → Bool := Bool.rec (motive := fun _ => List Oper → RX → Tab → Nat → T AV → KX → St → Bool) regTP regDP draw
/- code -/
abbrev CdX := RX → Tab → Nat → T AV → KX → St → Bool
def exN (ex : Ex) : (T AV → St → Bool) → KX → T AV → St → Bool := Ex.rec (motive := fun _ => (T AV → St → Bool) → KX → T AV → St → Bool) (fun f _ tm S => f tm S) (fun id _ k tm S => k (.exit id) tm S) (fun l _ k tm S => k (.goto l) tm S) (fun _ k tm S => k .ret tm S) ex
def cSeq (a b : CdX) : CdX := fun R tb nt tm k S => a R tb nt tm (fun ex tm S => exN ex (b R tb nt · k ·) k tm S) S
def cN : CdX → CdX → CdX := fun _ _ _ _ _ _ _ _ => false
def cB (v : AV) : CdX → CdX → CdX := AV.rec (motive_1 := fun _ => CdX → CdX → CdX) (motive_2 := fun _ => Unit) (cN) (fun v => Bool.rec (motive := fun _ => CdX → CdX → CdX) (fun x y => y) (fun x y => x) v) (fun k a => cN) (fun l n => cN) (cN) (fun v o => cN) (cN) (fun v o n c r => cN) (cN) (fun t v _ => cN) (fun l _ => cN) (fun l _ => cN) (fun g a c _ _ => cN) (cN) (fun n => cN) (fun n => cN) (cN) (fun t => cN) (fun i => cN) () (fun _ _ _ _ => ()) v
def cCond (c : Operand) (x y : CdX) : CdX := fun R tb nt tm k S => cB (opP c tb tm) x y R tb nt tm k S
def exB (ex : Ex) : Nat → KX → T AV → St → Bool := Ex.rec (motive := fun _ => Nat → KX → T AV → St → Bool) (fun _ k tm S => k .normal tm S) (fun j id k tm S => Bool.rec (motive := fun _ => Bool) (k (.exit j) tm S) (k .normal tm S) (Nat.beq j id)) (fun l _ k tm S => k (.goto l) tm S) (fun _ k tm S => k .ret tm S) ex
def cBlock (id : Nat) (a : CdX) : CdX := fun R tb nt tm k S => a R tb nt tm (fun ex tm S => exB ex id k tm S) S
def cLoop (body : Code) (a : CdX) : CdX := fun R tb nt tm k S => a R tb nt tm (fun ex tm S => exN ex (R.code (.loop body) nt · k ·) k tm S) S
def cRf (g : Operand) (ps : List Nat) (a b : Code) : CdX := fun R tb nt tm k S => (match opP g tb tm with
  | .fn gf first cap => embC (rfPre tb gf ps a b ⟨tm, nt⟩) (fun n S => R.call gf (first ++ (.yl n :: cap)) (fun _ S => embC (rfPost n ⟨tm, nt⟩) (fun p S => k p.1 p.2.tm S) S) S) S
  | _ => false)
def codeP (c : Code) : CdX := Code.rec (motive := fun _ => CdX)
  (fun R tb nt tm k S => k .normal tm S)
  (fun _ ops draw R tb nt tm k S => regP draw ops.toList R tb nt tm k S)
  (fun _ _ a b => cSeq a b)
  (fun c _ _ x y => cCond c x y)
  (fun id _ a => cBlock id a)
  (fun body a => cLoop body a)
  (fun g ps a b _ _ => cRf g ps.toList a b)
  (fun id R tb nt tm k S => k (.exit id) tm S)
  (fun _ _ _ _ _ _ _ _ => false)
  (fun l R tb nt tm k S => k .normal tm S)
  (fun l R tb nt tm k S => k (.goto l) tm S)
  (fun R tb nt tm k S => k .ret tm S)
  (fun _ _ _ _ _ _ _ => false) c
def endX (ex : Ex) : Tab → List ResultVar → Nat → KV → T AV → St → Bool := match ex with
  | .normal => fun tb res nt k tm S => embC (results tb res ⟨tm, nt⟩) k S
  | .ret => fun tb res nt k tm S => embC (results tb res ⟨tm, nt⟩) k S
  | _ => fun _ _ _ _ _ _ => false
def bodyX (c : Code) (R : RX) (tb : Tab) (fi : FI) (args : List AV) (k : KV) (S : St) : Bool :=
  Bool.rec (motive := fun _ => Bool) false (codeP c R tb fi.ntmps (args0 args 0 .leaf) (fun ex tm S => endX ex tb fi.res fi.ntmps k tm S) S) (Nat.ble args.length fi.ntmps && Nat.ble fi.ntmps 16777213)
def extX (R : RX) (tb : Tab) (fi : FI) (args : List AV) (k : KV) (S : St) : Bool := embC (ext tb fi.ext args) k S
def bodyO (c : Option Code) : RX → Tab → FI → List AV → KV → St → Bool := Option.rec (motive := fun _ => RX → Tab → FI → List AV → KV → St → Bool) extX bodyX c
def argsE (l : List AV) : KV → AV → St → Bool → Bool := List.rec (motive := fun _ => KV → AV → St → Bool → Bool) (fun k v S _ => k v S) (fun _ _ _ k v S e => e) l
def sumX (s : Option AV) : RX → Tab → FI → List AV → KV → St → Bool := Option.rec (motive := fun _ => RX → Tab → FI → List AV → KV → St → Bool) (fun R tb fi args k S => bodyO fi.body R tb fi args k S)
  (fun v R tb fi args k S => argsE args k v S (bodyO fi.body R tb fi args k S)) s
def callO (o : Option FI) : RX → Tab → List AV → KV → St → Bool := Option.rec (motive := fun _ => RX → Tab → List AV → KV → St → Bool) (fun _ _ _ _ _ => false) (fun fi R tb args k S => sumX fi.sum R tb fi args k S) o
def rndK2 (ex : Ex) : RX → Nat → Code → Nat → KV → T AV → St → Bool := match ex with
  | .normal => fun R n body nt k tm S => embC (rnd1 n) (fun _ S => R.code body nt tm (fun ex _ S => embC (rnd2 n ex) k S) S) S
  | _ => fun _ _ _ _ _ _ _ => false
def rndX (R : RX) (n : Nat) (args : List AV) (k : KV) (S : St) : Bool := embC (rdJ n) (fun r S => lftC (putAll ⟨r.tm, r.nt⟩ r.ps args) (fun E S => Bool.rec (motive := fun _ => Bool) false (R.code r.asg E.nt E.tm (fun ex tm S => rndK2 ex R n r.body E.nt k tm S) S) (Nat.ble E.nt 16777213)) S) S
def X0 : RX := ⟨fun _ _ _ _ _ => false, fun _ _ _ _ => false, fun _ _ _ _ => false⟩
def xstep (tb : Tab) (R : RX) : RX := ⟨fun c nt tm k S => codeP c R tb nt tm k S, fun g args k S => callO (tb.fn.get g) R tb args k S, fun n args k S => rndX R n args k S⟩
def xs (tb : Tab) (f : Nat) : RX := Nat.rec (motive := fun _ => RX) X0 (fun _ R => xstep tb R) f
end
end Go.AX
end
section
set_option linter.unusedVariables false
set_option linter.unusedSimpArgs false
namespace Go.AX
/- more fuel, the same -/
def Le {α : Type} (m m' : M α) : Prop := ∀ S r, m S = some r → m' S = some r
theorem Le.refl {α : Type} (m : M α) : Le m m := fun _ _ h => h
theorem Le.trans {α : Type} {a b c : M α} (h : Le a b) (k : Le b c) : Le a c := fun S r e => k S r (h S r e)
theorem Le.fail {α : Type} (m : M α) : Le AX.fail m := fun _ _ h => by cases h
theorem Le.bnd {α β : Type} {m m' : M α} {f f' : α → M β} (hm : Le m m') (hf : ∀ a, Le (f a) (f' a)) : Le (AX.bnd m f) (AX.bnd m' f') := fun S r h => by
  obtain ⟨v, S'⟩ := r
  obtain ⟨a, S1, h1, h2⟩ := bnd_inv h
  unfold AX.bnd
  rw [hm _ _ h1]
  exact hf a _ _ h2
theorem Le.cond {α : Type} {b : Bool} {m m' n n' : M α} (hm : Le m m') (hn : Le n n') : Le (_root_.cond b m n) (_root_.cond b m' n') := by cases b <;> assumption
theorem Le.own {α : Type} {m m' : M α} (hm : Le m m') : Le (ownRun m) (ownRun m') := fun S r h => by
  unfold ownRun at h ⊢
  cases hx : m ⟨S.heap, S.next, 0, 0⟩ with
  | none => rw [hx] at h; cases h
  | some p => rw [hx] at h; rw [hm _ _ hx]; exact h
structure LeF (tb : Tab) (f f' : Nat) : Prop where
  code : ∀ c E, Le (AX.code tb f c E) (AX.code tb f' c E)
  opsT : ∀ all r E, Le (AX.opsT tb f all r E) (AX.opsT tb f' all r E)
  opsD : ∀ all r n E l, Le (AX.opsD tb f all r n E l) (AX.opsD tb f' all r n E l)
  oper : ∀ o E, Le (AX.oper tb f o E) (AX.oper tb f' o E)
  call : ∀ g l, Le (AX.call tb f g l) (AX.call tb f' g l)
  rnd : ∀ g l, Le (AX.rnd tb f g l) (AX.rnd tb f' g l)
theorem leF (tb : Tab) : ∀ f, LeF tb f (f + 1)
  | 0 => ⟨fun _ _ => by unfold AX.code; exact Le.fail _, fun _ _ _ => by unfold AX.opsT; exact Le.fail _, fun _ _ _ _ _ => by unfold AX.opsD; exact Le.fail _, fun _ _ => by unfold AX.oper; exact Le.fail _, fun _ _ => by unfold AX.call; exact Le.fail _, fun _ _ => by unfold AX.rnd; exact Le.fail _⟩
  | f + 1 => by
    have ih := leF tb f
    refine ⟨fun c E => ?_, fun all r E => ?_, fun all r n E l => ?_, fun o E => ?_, fun g l => ?_, fun n l => ?_⟩
    · cases c with
      | seq a b =>
        unfold AX.code
        refine Le.bnd (ih.code _ _) fun p => ?_
        obtain ⟨ex, E1⟩ := p
        cases ex <;> first | exact ih.code _ _ | exact Le.refl _
      | cond c x y =>
        unfold AX.code
        simp only []
        split <;> first | exact ih.code _ _ | exact Le.refl _
      | block id a =>
        unfold AX.code
        exact Le.bnd (ih.code _ _) fun p => Le.refl _
      | loop a =>
        unfold AX.code
        refine Le.bnd (ih.code _ _) fun p => ?_
        obtain ⟨ex, E1⟩ := p
        cases ex <;> first | exact ih.code _ _ | exact Le.refl _
      | region id ops draw =>
        unfold AX.code
        exact Le.cond (Le.bnd (ih.opsD _ _ _ _ _) fun _ => Le.refl _) (Le.bnd (ih.opsT _ _ _) fun _ => Le.refl _)
      | rangeFunc g ps a b =>
        unfold AX.code
        simp only []
        split
        · exact Le.bnd (Le.refl _) fun _ => Le.cond (Le.bnd (Le.refl _) fun _ => Le.bnd (ih.call _ _) fun _ => Le.refl _) (Le.refl _)
        · exact Le.refl _
      | _ => unfold AX.code; exact Le.refl _
    · cases r with
      | nil => unfold AX.opsT; exact Le.refl _
      | cons o r =>
        unfold AX.opsT
        exact Le.bnd (Le.refl _) fun w => Le.cond (Le.bnd (ih.oper _ _) fun _ => Le.bnd (Le.refl _) fun _ => ih.opsT _ _ _) (Le.bnd (Le.refl _) fun _ => ih.opsT _ _ _)
    · cases r with
      | nil => unfold AX.opsD; exact Le.refl _
      | cons o r =>
        unfold AX.opsD
        exact Le.bnd (Le.refl _) fun w => Le.cond (Le.bnd (Le.own (ih.oper _ _)) fun _ => Le.bnd (Le.refl _) fun _ => ih.opsD _ _ _ _ _) (Le.bnd (Le.refl _) fun _ => ih.opsD _ _ _ _ _)
    · rw [oper_eq, oper_eq]
      unfold operF
      cases o.op with
      | call c =>
        simp only []
        split
        · exact Le.refl _
        · split
          · exact ih.call _ _
          · exact ih.rnd _ _
          · exact Le.refl _
        · split
          · exact Le.bnd (Le.refl _) fun _ => Le.bnd (Le.refl _) fun _ => ih.call _ _
          · exact Le.refl _
      | _ => exact Le.refl _
    · unfold AX.call
      refine Le.bnd (Le.refl _) fun fi => ?_
      have hb : Le (match fi.body with
          | none => AX.ext tb fi.ext l
          | some c => _root_.cond (Nat.ble l.length fi.ntmps && Nat.ble fi.ntmps 16777213) (AX.bnd (AX.code tb f c ⟨args0 l 0 .leaf, fi.ntmps⟩) fun r => match r.1 with
            | .normal | .ret => results tb fi.res r.2
            | _ => AX.fail) AX.fail) (match fi.body with
          | none => AX.ext tb fi.ext l
          | some c => _root_.cond (Nat.ble l.length fi.ntmps && Nat.ble fi.ntmps 16777213) (AX.bnd (AX.code tb (f + 1) c ⟨args0 l 0 .leaf, fi.ntmps⟩) fun r => match r.1 with
            | .normal | .ret => results tb fi.res r.2
            | _ => AX.fail) AX.fail) := by
        cases fi.body with
        | none => exact Le.refl _
        | some c => exact Le.cond (Le.bnd (ih.code _ _) fun _ => Le.refl _) (Le.refl _)
      cases fi.sum with
      | none => exact hb
      | some v =>
        cases l with
        | nil => exact Le.refl _
        | cons x l => exact hb
    · unfold AX.rnd
      refine Le.bnd (Le.refl _) fun r => Le.bnd (Le.refl _) fun E => Le.bnd (ih.code _ _) fun p => ?_
      split
      · exact Le.bnd (Le.refl _) fun r1 => Le.cond (Le.bnd (Le.refl _) fun _ => Le.bnd (ih.code _ _) fun _ => Le.refl _) (Le.refl _)
      · exact Le.refl _
theorem leN (tb : Tab) (f : Nat) : ∀ n, LeF tb f (f + n)
  | 0 => ⟨fun _ _ => Le.refl _, fun _ _ _ => Le.refl _, fun _ _ _ _ _ => Le.refl _, fun _ _ => Le.refl _, fun _ _ => Le.refl _, fun _ _ => Le.refl _⟩
  | n + 1 => by
    have a := leN tb f n
    have b := leF tb (f + n)
    exact ⟨fun c E => (a.code c E).trans (b.code c E), fun x y z => (a.opsT x y z).trans (b.opsT x y z), fun x y z u v => (a.opsD x y z u v).trans (b.opsD x y z u v), fun x y => (a.oper x y).trans (b.oper x y), fun x y => (a.call x y).trans (b.call x y), fun x y => (a.rnd x y).trans (b.rnd x y)⟩
theorem leM (tb : Tab) {f f' : Nat} (h : f ≤ f') : LeF tb f f' := by
  have := leN tb f (f' - f)
  rwa [show f + (f' - f) = f' by omega] at this
/- tries -/
theorem ptF_succ (f n : Nat) : ptF (f + 1) n = cond (Nat.beq n 0) .e (cond (Nat.beq (Nat.mod n 2) 1) (.l (ptF f (Nat.div n 2))) (.r (ptF f (Nat.sub (Nat.div n 2) 1)))) := by
  cases n with
  | zero => rfl
  | succ k =>
    show Nat.rec (motive := fun _ => Pt) (.l (ptF f (Nat.div k 2))) (fun _ _ => .r (ptF f (Nat.div k 2))) (Nat.mod k 2) = cond (Nat.beq (Nat.mod (k + 1) 2) 1) _ _
    cases h : k % 2 with
    | zero =>
      rw [(half0 h).1, (half0 h).2]
      have : Nat.mod k 2 = 0 := h
      rw [this]; rfl
    | succ q =>
      rw [(half1 h).1, (half1 h).2]
      have : Nat.mod k 2 = q + 1 := h
      rw [this]; rfl
theorem put_setF {α : Type} (x : α) : ∀ (g f : Nat) (t : T α) (n : Nat), n ≤ f → n + 1 < 2 ^ g → ptP (ptF f n) t x = T.setF g t n (some x)
  | 0, f, t, n, _, h => by simp at h
  | g + 1, f, t, n, hn, h => by
    have hp : 2 ^ (g + 1) = 2 * 2 ^ g := by rw [Nat.pow_succ]; omega
    have e2 : Nat.mod n 2 = n % 2 := rfl
    have e3 : Nat.div n 2 = n / 2 := rfl
    have e4 : Nat.sub (n / 2) 1 = n / 2 - 1 := rfl
    cases f with
    | zero =>
      obtain rfl : n = 0 := by omega
      cases t with
      | leaf => rw [T.setF_leaf]; rfl
      | node v l r => rw [T.setF_node]; rfl
    | succ f =>
      rw [ptF_succ]
      cases h0 : Nat.beq n 0 with
      | true =>
        cases t with
        | leaf => rw [T.setF_leaf, h0]; rfl
        | node v l r => rw [T.setF_node, h0]; rfl
      | false =>
        have hn0 : n ≠ 0 := by intro e; subst e; simp at h0
        simp only [cond_false, e2, e3, e4]
        cases h1 : Nat.beq (n % 2) 1 with
        | true =>
          have h1' : n % 2 = 1 := by simpa using h1
          simp only [cond_true]
          cases t with
          | leaf => rw [T.setF_leaf, h0, e2, e3, h1, ← put_setF x g f .leaf (n / 2) (by omega) (by omega)]; rfl
          | node v l r => rw [T.setF_node, h0, e2, e3, h1, ← put_setF x g f l (n / 2) (by omega) (by omega)]; rfl
        | false =>
          have h1' : n % 2 ≠ 1 := by intro e; rw [e] at h1; simp at h1
          simp only [cond_false]
          cases t with
          | leaf => rw [T.setF_leaf, h0, e2, e3, e4, h1, ← put_setF x g f .leaf (n / 2 - 1) (by omega) (by omega)]; rfl
          | node v l r => rw [T.setF_node, h0, e2, e3, e4, h1, ← put_setF x g f r (n / 2 - 1) (by omega) (by omega)]; rfl
theorem put_eq {α : Type} (x : α) (t : T α) (n : Nat) (h : n ≤ 16777213) : T.put x t n = T.set t n x := put_setF x 24 n t n (Nat.le_refl _) (by omega)
theorem gt_getF {α : Type} : ∀ (f : Nat) (t : T α) (n : Nat), n ≤ f → ptG (ptF f n) t = T.get t n
  | 0, t, n, h => by
    obtain rfl : n = 0 := by omega
    cases t <;> rfl
  | f + 1, t, n, hn => by
    have e2 : Nat.mod n 2 = n % 2 := rfl
    have e3 : Nat.div n 2 = n / 2 := rfl
    have e4 : Nat.sub (n / 2) 1 = n / 2 - 1 := rfl
    rw [ptF_succ]
    cases h0 : Nat.beq n 0 with
    | true =>
      cases t with
      | leaf => rfl
      | node v l r => rw [T.get_node, h0]; rfl
    | false =>
      have hn0 : n ≠ 0 := by intro e; subst e; simp at h0
      simp only [cond_false, e2, e3, e4]
      cases h1 : Nat.beq (n % 2) 1 with
      | true =>
        simp only [cond_true]
        cases t with
        | leaf => rfl
        | node v l r => rw [T.get_node, h0, e2, e3, h1, cond_false, cond_true, ← gt_getF f l (n / 2) (by omega)]; rfl
      | false =>
        simp only [cond_false]
        cases t with
        | leaf => rfl
        | node v l r => rw [T.get_node, h0, e2, e3, e4, h1, cond_false, cond_false, ← gt_getF f r (n / 2 - 1) (by omega)]; rfl
theorem gt_eq {α : Type} (t : T α) (n : Nat) : T.gt t n = T.get t n := gt_getF n t n (Nat.le_refl _)
/- operands -/
theorem opP_eq (x : Operand) (tb : Tab) (tm : T AV) : opP x tb tm = op tb.ng tm x := by
  cases x with
  | tmp t =>
    show optV (T.gt tm t) = (match T.get tm t with | some v => v | none => .und)
    rw [gt_eq]
    cases T.get tm t <;> rfl
  | const v => rfl
  | global g => rfl
  | func f => rfl
theorem opsP_eq (tb : Tab) (tm : T AV) : ∀ l : List Operand, opsP l tb tm = l.map (op tb.ng tm)
  | [] => rfl
  | x :: l => by
    show opP x tb tm :: opsP l tb tm = op tb.ng tm x :: l.map _
    rw [opP_eq, opsP_eq tb tm l]
/- the operations, one by one, against the elder twin -/
theorem Sim.eqC {α : Type} {mC mC' : CM α} {m : M α} (h : Sim mC' m) (e : ∀ k S, mC k S = mC' k S) : Sim mC m := fun k S hk => h k S (by rw [← e]; exact hk)
theorem withTI_eq (q : Option TI) (f : TI → KV → St → Bool) (k : KV) (S : St) : withTI q f k S = bndC (lftC q) f k S := by cases q <;> rfl
theorem optF_eq {α : Type} (q : Option α) (f : α → KV → St → Bool) (k : KV) (S : St) : optF q f k S = bndC (lftC q) f k S := by cases q <;> rfl
theorem retO_eq (q : Option AV) (k : KV) (S : St) : retO q k S = lftC q k S := by cases q <;> rfl
theorem rdP_eq (v : Nat) (f : Blk → St → Bool) (S : St) : rdP v f S = rdC v f S := by
  obtain ⟨heap, next, acc, wr⟩ := S
  show optE (T.gt heap v) f _ = Option.rec _ _ (heap.get v)
  rw [gt_eq]
  cases heap.get v with
  | none => rfl
  | some e => cases e <;> rfl
theorem load_sim (tb : Tab) (t : Nat) (x : AV) : Sim (fun k S => loadV x (tb.ty.get t) k S) (AX.load tb t x) := by
  refine Sim.eqC (Sim.load tb t x) fun k S => ?_
  cases x with
  | p v o =>
    show withTI (tb.ty.get t) (loadTI v o) k S = _
    rw [withTI_eq]
    unfold loadC bndC
    cases tb.ty.get t with
    | none => rfl
    | some ti =>
      show loadTI v o ti k S = rdC v (fun b => _) S
      unfold loadTI
      rw [rdP_eq]
      congr 1
      funext b S1
      unfold kLoad
      cases ti.k <;> first
        | (show loadOne o ti.size b k S1 = lftC _ k S1; unfold loadOne lftC; cases b.c.get o <;> rfl)
        | (show loadAg o ti.size b k S1 = bndC (lftC _) _ k S1; unfold loadAg bndC lftC; cases b.c.sub o ti.size <;> rfl)
        | rfl
  | _ => rfl
theorem updP_eq (v : Nat) (b : Blk) (k : KV) (S : St) : updP v b k S = updC v b (fun _ S => k .und S) S := by
  obtain ⟨heap, next, acc, wr⟩ := S
  unfold updP updC
  simp only []
  have e : (Nat.ble (Nat.succ v) next && Nat.ble v 16777213) = (Nat.blt v next && Nat.ble v 16777213) := rfl
  rw [← e]
  cases h : (Nat.ble (Nat.succ v) next && Nat.ble v 16777213) with
  | false => rfl
  | true =>
    rw [Bool.and_eq_true] at h
    rw [put_eq _ _ _ (Nat.le_of_ble_eq_true h.2)]
theorem store_sim (tb : Tab) (t : Nat) (x y : AV) : Sim (fun k S => storeV x y (tb.ty.get t) k S) (AX.bnd (AX.store tb t x y) fun _ => AX.ret .und) := by
  refine Sim.eqC (Sim.bnd (Sim.store tb t x y) fun _ => Sim.ret AV.und) fun k S => ?_
  cases x with
  | p v o =>
    show withTI (tb.ty.get t) (storeTI v o y) k S = _
    rw [withTI_eq]
    unfold storeC bndC
    cases tb.ty.get t with
    | none => rfl
    | some ti =>
      show storeTI v o y ti k S = rdC v (fun b => _) S
      unfold storeTI
      rw [rdP_eq]
      congr 1
      funext b S1
      unfold stB ifC
      cases Nat.ble b.fr o with
      | false => rfl
      | true =>
        have one : stOne y v o ti.size b k S1 = AX.storeOne v o ti.size b y (fun _ S => k .und S) S1 := by
          unfold stOne AX.storeOne ifC
          cases (scal y && Nat.beq ti.size 1) with
          | false => rfl
          | true =>
            show stCells v b (b.c.set1 o y) k S1 = lftC _ _ S1
            unfold stCells lftC
            cases b.c.set1 o y with
            | none => rfl
            | some c => exact updP_eq _ _ _ _
        cases y with
        | ag l =>
          show stAg l v o ti.size b k S1 = _
          unfold stAg
          show Bool.rec _ _ _ = ifC _ _ _ _ _
          unfold ifC
          cases (Nat.beq l.length ti.size && Nat.ble (Nat.add o ti.size) b.c.len && l.all scal) with
          | false => rfl
          | true =>
            show stCells v b (b.c.put o (.l l)) k S1 = lftC _ _ S1
            unfold stCells lftC
            cases b.c.put o (.l l) with
            | none => rfl
            | some c => exact updP_eq _ _ _ _
        | _ => exact one
  | _ => rfl
theorem bin_sim (tb : Tab) (o : BinOp) (t : Nat) (cx : Bool) (x y : AV) : Sim (fun k S => binV x o t cx y tb k S) (AX.bin tb o t cx x y) := by
  refine Sim.eqC (Sim.binF tb o t cx x y) fun k S => ?_
  cases x with
  | i q a =>
    cases y with
    | i l c => cases o <;> rfl
    | _ => rfl
  | _ => rfl
theorem alloc_sim (tb : Tab) (e : Nat) : Sim (fun k S => withTI (tb.ty.get e) (allocT e) k S) (xAlloc tb e) := Sim.eqC (Sim.alloc tb e) fun k S => by rw [withTI_eq]; rfl
theorem nil_sim (f : Operand → AV) (x : Operand) : Sim (fun k S => nilP (f x) k S) (xNil f x) := by
  refine Sim.eqC (Sim.nil f x) fun k S => ?_
  cases f x <;> rfl
theorem field_sim (tb : Tab) (f : Operand → AV) (t i : Nat) (x : Operand) : Sim (fun k S => withTI (tb.ty.get t) (fieldTI i (f x)) k S) (xField tb f t x i) := by
  refine Sim.eqC (Sim.field tb f t i x) fun k S => ?_
  rw [withTI_eq]
  unfold fieldC bndC
  cases tb.ty.get t with
  | none => rfl
  | some ti =>
    show fieldTI i (f x) ti k S = lftC (fget ti.fs i) _ S
    unfold fieldTI
    rw [optF_eq]
    unfold bndC
    cases fget ti.fs i with
    | none => rfl
    | some fl => cases f x <;> first | exact retO_eq _ _ _ | rfl
theorem faddr_sim (tb : Tab) (f : Operand → AV) (t i : Nat) (x : Operand) : Sim (fun k S => withTI (tb.ty.get t) (faddrTI i (f x)) k S) (xFieldAddr tb f t x i) := by
  refine Sim.eqC (Sim.fieldAddr tb f t i x) fun k S => ?_
  rw [withTI_eq]
  unfold fieldAddrC bndC
  cases tb.ty.get t with
  | none => rfl
  | some ti =>
    show faddrTI i (f x) ti k S = lftC (fget ti.fs i) _ S
    unfold faddrTI
    rw [optF_eq]
    unfold bndC
    cases fget ti.fs i with
    | none => rfl
    | some fl =>
      cases f x <;> first | rfl | (show Bool.rec _ _ _ = Bool.rec _ _ _; cases Nat.beq fl.sz 0 <;> rfl)
theorem iaddr_sim (tb : Tab) (f : Operand → AV) (t : Nat) (x ix : Operand) : Sim (fun k S => withTI (tb.ty.get t) (iaTI (f x) (f ix) tb) k S) (xIndexAddr tb f t x ix) := by
  refine Sim.eqC (Sim.indexAddr tb f t x ix) fun k S => ?_
  rw [withTI_eq]
  unfold indexAddrC bndC
  cases tb.ty.get t with
  | none => rfl
  | some ti =>
    show iaTI (f x) (f ix) tb ti k S = lftC (asN (f ix)) _ S
    unfold iaTI
    rw [optF_eq]
    unfold bndC
    cases asN (f ix) with
    | none => rfl
    | some i =>
      show ixK ti.k (f x) i tb k S = idxAC tb ti.k (f x) i k S
      unfold ixK idxAC
      cases ti.k with
      | slice e =>
        show ixSlV (f x) e i tb k S = idxSl tb e (f x) i k S
        cases f x with
        | sl v o n c r =>
          show Bool.rec _ _ _ = ifC (Nat.blt i n) _ _ k S
          unfold ifC
          have e2 : Nat.ble (Nat.succ i) n = Nat.blt i n := rfl
          rw [← e2]
          cases Nat.ble (Nat.succ i) n with
          | false => rfl
          | true => exact withTI_eq _ _ _ _
        | _ => rfl
      | _ => rfl
theorem index_sim (tb : Tab) (f : Operand → AV) (t : Nat) (x ix : Operand) : Sim (fun k S => withTI (tb.ty.get t) (idTI (f x) (f ix) tb) k S) (xIndex tb f t x ix) := by
  refine Sim.eqC (Sim.index tb f t x ix) fun k S => ?_
  rw [withTI_eq]
  unfold indexC bndC
  cases tb.ty.get t with
  | none => rfl
  | some ti =>
    show ixQ ti.k (f x) tb (f ix) k S = idxKC tb ti.k (f x) (f ix) k S
    unfold ixQ idxKC
    cases ti.k with
    | str =>
      show ixStrV (f x) tb (f ix) k S = idxStr tb (f x) (f ix) k S
      cases f x with
      | s l n => exact optF_eq _ _ _ _
      | _ => rfl
    | _ => rfl
theorem extract_sim (f : Operand → AV) (x : Operand) (i : Nat) : Sim (fun k S => extV (f x) i k S) (xExtract f x i) := by
  refine Sim.eqC (Sim.extract f x i) fun k S => ?_
  cases f x <;> first | exact retO_eq _ _ _ | rfl
theorem pick_sim (p q v : AV) : Sim (fun k S => pickV v p q k S) (pickB p q v) := by
  refine Sim.eqC (Sim.pick p q v) fun k S => ?_
  cases v with
  | b v => cases v <;> rfl
  | _ => rfl
theorem conv_sim (tb : Tab) (f : Operand → AV) (src dst : Nat) (x : Operand) : Sim (fun k S => cvV (f x) (tb.ty.get src) (tb.ty.get dst) (AX.simple tb f (.convert src dst x)) k S) (AX.simple tb f (.convert src dst x)) := by
  refine Sim.eqC (Sim.conv tb f src dst x) fun k S => ?_
  generalize AX.simple tb f (.convert src dst x) = m
  cases f x with
  | i q n =>
    show cvI n (tb.ty.get src) (tb.ty.get dst) m k S = bndC (lftC (tb.ty.get src)) _ k S
    unfold cvI
    rw [withTI_eq]
    unfold bndC
    cases tb.ty.get src with
    | none => rfl
    | some ts =>
      show withTI (tb.ty.get dst) _ k S = lftC (tb.ty.get dst) _ S
      rw [withTI_eq]
      unfold bndC
      cases tb.ty.get dst with
      | none => rfl
      | some td =>
        show Bool.rec _ _ _ = ifC (isBad ts.k) _ _ k S
        unfold ifC
        cases isBad ts.k with
        | true => rfl
        | false => show cvK td.k n m k S = convI td.k n m k S; cases td.k <;> rfl
  | _ => rfl
theorem mkIf_sim (tb : Tab) (f : Operand → AV) (t : Nat) (x : Operand) : Sim (fun k S => withTI (tb.ty.get t) (fun ti k S => mkIfKP ti.k t (f x) k S) k S) (AX.simple tb f (.makeInterface t x)) := by
  refine Sim.eqC (Sim.mkIf tb f t x) fun k S => ?_
  rw [withTI_eq]
  unfold mkIfC bndC
  cases tb.ty.get t with
  | none => rfl
  | some ti => show mkIfKP ti.k t (f x) k S = mkIfK ti.k t (f x) k S; cases ti.k <;> rfl
end Go.AX
end
section
set_option linter.unusedVariables false
set_option linter.unusedSimpArgs false
namespace Go.AX
structure SimX (tb : Tab) (R : RX) : Prop where
  code : ∀ c nt tm k S, nt ≤ 16777213 → R.code c nt tm k S = true → ∃ F ex tm' S', AX.code tb F c ⟨tm, nt⟩ S = some ((ex, ⟨tm', nt⟩), S') ∧ k ex tm' S' = true
  call : ∀ g l k S, R.call g l k S = true → ∃ F v S', AX.call tb F g l S = some (v, S') ∧ k v S' = true
  rnd : ∀ n l k S, R.rnd n l k S = true → ∃ F v S', AX.rnd tb F n l S = some (v, S') ∧ k v S' = true
section
variable {tb : Tab} {R : RX}
theorem operX_sim (hR : SimX tb R) (o : Oper) (nt : Nat) (tm : T AV) (k : KV) (S : St) (hk : operX o.op R tb tm k S = true) : ∃ F v S', AX.oper tb F o ⟨tm, nt⟩ S = some (v, S') ∧ k v S' = true := by
  have one : ∀ {m : M AV}, (∀ cal rn, operF tb cal rn o (op tb.ng tm) = m) → (∃ v S', m S = some (v, S') ∧ k v S' = true) → ∃ F v S', AX.oper tb F o ⟨tm, nt⟩ S = some (v, S') ∧ k v S' = true := fun hm ⟨v, S', h1, h2⟩ => ⟨1, v, S', by rw [oper_eq, hm]; exact h1, h2⟩
  have sm : ∀ {q : Op}, o.op = q → (∀ c, q ≠ .call c) → ∀ cal rn, operF tb cal rn o (op tb.ng tm) = AX.simple tb (op tb.ng tm) q := fun {q} e hn cal rn => by
    unfold operF
    rw [e]
    cases q <;> first | rfl | exact absurd rfl (hn _)
  cases ho : o.op <;> rw [ho] at hk
  case move x => exact one (sm ho (by simp)) ⟨_, _, rfl, by rw [← opP_eq]; exact hk⟩
  case assign x => exact one (sm ho (by simp)) ⟨_, _, rfl, by rw [← opP_eq]; exact hk⟩
  case pick c a d =>
    have hk : pickV (opP c tb tm) (opP a tb tm) (opP d tb tm) k S = true := hk
    rw [opP_eq, opP_eq, opP_eq] at hk
    refine one (m := pickB (op tb.ng tm a) (op tb.ng tm d) (op tb.ng tm c)) (fun cal rn => ?_) (pick_sim _ _ _ k S hk)
    rw [sm ho (by simp), ← simpleF_eq]; rfl
  case alloc e =>
    refine one (m := xAlloc tb e) (fun cal rn => ?_) (alloc_sim tb e k S hk)
    rw [sm ho (by simp), ← simpleF_eq]; rfl
  case load t a =>
    have hk : loadV (opP a tb tm) (tb.ty.get t) k S = true := hk
    rw [opP_eq] at hk
    exact one (sm ho (by simp)) (load_sim tb t _ k S hk)
  case store t a x =>
    have hk : storeV (opP a tb tm) (opP x tb tm) (tb.ty.get t) k S = true := hk
    rw [opP_eq, opP_eq] at hk
    exact one (sm ho (by simp)) (store_sim tb t _ _ k S hk)
  case nilCheck x =>
    have hk : nilP (opP x tb tm) k S = true := hk
    rw [opP_eq] at hk
    refine one (m := xNil (op tb.ng tm) x) (fun cal rn => ?_) (nil_sim (op tb.ng tm) x k S hk)
    rw [sm ho (by simp), ← simpleF_eq]; rfl
  case binOp bo t x y u =>
    have hk : binV (opP x tb tm) bo t (isC x || isC y) (opP y tb tm) tb k S = true := hk
    rw [opP_eq, opP_eq] at hk
    exact one (sm ho (by simp)) (bin_sim tb bo t _ _ _ k S hk)
  case convert s d x =>
    have hk : cvV (opP x tb tm) (tb.ty.get s) (tb.ty.get d) (AX.simple tb (op tb.ng tm) (.convert s d x)) k S = true := hk
    rw [opP_eq] at hk
    exact one (sm ho (by simp)) (conv_sim tb (op tb.ng tm) s d x k S hk)
  case makeInterface t x =>
    have hk : withTI (tb.ty.get t) (fun ti k S => mkIfKP ti.k t (opP x tb tm) k S) k S = true := hk
    rw [opP_eq] at hk
    exact one (sm ho (by simp)) (mkIf_sim tb (op tb.ng tm) t x k S hk)
  case fieldAddr t x i =>
    have hk : withTI (tb.ty.get t) (faddrTI i (opP x tb tm)) k S = true := hk
    rw [opP_eq] at hk
    refine one (m := xFieldAddr tb (op tb.ng tm) t x i) (fun cal rn => ?_) (faddr_sim tb (op tb.ng tm) t i x k S hk)
    rw [sm ho (by simp), ← simpleF_eq]; rfl
  case field t x i =>
    have hk : withTI (tb.ty.get t) (fieldTI i (opP x tb tm)) k S = true := hk
    rw [opP_eq] at hk
    refine one (m := xField tb (op tb.ng tm) t x i) (fun cal rn => ?_) (field_sim tb (op tb.ng tm) t i x k S hk)
    rw [sm ho (by simp), ← simpleF_eq]; rfl
  case indexAddr t x ix =>
    have hk : withTI (tb.ty.get t) (iaTI (opP x tb tm) (opP ix tb tm) tb) k S = true := hk
    rw [opP_eq, opP_eq] at hk
    refine one (m := xIndexAddr tb (op tb.ng tm) t x ix) (fun cal rn => ?_) (iaddr_sim tb (op tb.ng tm) t x ix k S hk)
    rw [sm ho (by simp), ← simpleF_eq]; rfl
  case index t x ix =>
    have hk : withTI (tb.ty.get t) (idTI (opP x tb tm) (opP ix tb tm) tb) k S = true := hk
    rw [opP_eq, opP_eq] at hk
    refine one (m := xIndex tb (op tb.ng tm) t x ix) (fun cal rn => ?_) (index_sim tb (op tb.ng tm) t x ix k S hk)
    rw [sm ho (by simp), ← simpleF_eq]; rfl
  case extract x i =>
    have hk : extV (opP x tb tm) i k S = true := hk
    rw [opP_eq] at hk
    refine one (m := xExtract (op tb.ng tm) x i) (fun cal rn => ?_) (extract_sim (op tb.ng tm) x i k S hk)
    rw [sm ho (by simp), ← simpleF_eq]; rfl
  case call c =>
    have hk : calleeP c.callee R tb tm c k S = true := hk
    cases hc : c.callee with
    | builtin b =>
      rw [hc] at hk
      have hk : embC (builtinF tb b c.argTypes.toList (opsP c.args.toList tb tm)) k S = true := hk
      rw [opsP_eq, builtinF_eq] at hk
      obtain ⟨v, S', h1, h2⟩ := Sim.emb _ k S hk
      refine ⟨1, v, S', ?_, h2⟩
      rw [oper_eq]
      unfold operF
      rw [ho]
      simp only [hc]
      exact h1
    | value g =>
      rw [hc] at hk
      have hk : cvalV (opP g tb tm) R (opsP c.args.toList tb tm) k S = true := hk
      rw [opsP_eq, opP_eq] at hk
      cases hv : op tb.ng tm g with
      | fn f first cap =>
        rw [hv] at hk
        have hk : R.call f (first ++ (c.args.toList.map (op tb.ng tm) ++ cap)) k S = true := hk
        rw [← List.append_assoc] at hk
        obtain ⟨F, v, S', h1, h2⟩ := hR.call _ _ _ _ hk
        refine ⟨F + 1, v, S', ?_, h2⟩
        rw [oper_eq]
        unfold operF
        rw [ho]
        simp only [hc, hv]
        exact h1
      | yl n =>
        rw [hv] at hk
        have hk : R.rnd n (c.args.toList.map (op tb.ng tm)) k S = true := hk
        obtain ⟨F, v, S', h1, h2⟩ := hR.rnd _ _ _ _ hk
        refine ⟨F + 1, v, S', ?_, h2⟩
        rw [oper_eq]
        unfold operF
        rw [ho]
        simp only [hc, hv]
        exact h1
      | _ => rw [hv] at hk; cases hk
    | invoke r m =>
      rw [hc] at hk
      have hk : cinvV (opP r tb tm) R tb m (opsP c.args.toList tb tm) k S = true := hk
      rw [opsP_eq, opP_eq] at hk
      cases hv : op tb.ng tm r with
      | ifc t u =>
        rw [hv] at hk
        have hk : cinvI t u R tb m (c.args.toList.map (op tb.ng tm)) k S = true := hk
        unfold cinvI at hk
        cases hm : methd tb.met t m with
        | none => rw [hm] at hk; cases hk
        | some g =>
          rw [hm] at hk
          simp only [] at hk
          cases hrc : recv g.2 u with
          | none => rw [hrc] at hk; cases hk
          | some w =>
            rw [hrc] at hk
            obtain ⟨F, v, S', h1, h2⟩ := hR.call _ _ _ _ hk
            refine ⟨F + 1, v, S', ?_, h2⟩
            rw [oper_eq]
            unfold operF
            rw [ho]
            simp only [hc, hv, AX.bnd, AX.lft, hm, hrc]
            exact h1
      | _ => rw [hv] at hk; cases hk
  all_goals exact one (sm ho (by simp)) (Sim.emb _ k S hk)
theorem putP_inv {d : Option Nat} {nt : Nat} {v : AV} {tm : T AV} {k : KT} {S : St} (hnt : nt ≤ 16777213) (h : putP d nt v tm k S = true) : ∃ tm', Env.put ⟨tm, nt⟩ d v = some ⟨tm', nt⟩ ∧ k tm' S = true := by
  cases d with
  | none => exact ⟨tm, rfl, h⟩
  | some d =>
    have h : Bool.rec (motive := fun _ => Bool) false (k (T.put v tm d) S) (Nat.ble (Nat.succ d) nt) = true := h
    cases hb : Nat.ble (Nat.succ d) nt with
    | false => rw [hb] at h; cases h
    | true =>
      rw [hb] at h
      have hd : d < nt := Nat.le_of_ble_eq_true hb
      have h : k (T.put v tm d) S = true := h
      rw [put_eq _ _ _ (by omega)] at h
      refine ⟨tm.set d v, ?_, h⟩
      rw [Env.put_some]
      have : Nat.blt d nt = true := hb
      simp only [this, cond_true]
theorem guard_inv {all : List Oper} {o : Oper} {tm : T AV} {nt : Nat} {run skip : Bool} (h : guardP o.guard all tm run skip = true) : (wanted all ⟨tm, nt⟩ o = some true ∧ run = true) ∨ (wanted all ⟨tm, nt⟩ o = some false ∧ skip = true) := by
  unfold wanted
  cases hg : o.guard with
  | none => rw [hg] at h; exact .inl ⟨rfl, h⟩
  | some p =>
    obtain ⟨j, want⟩ := p
    rw [hg] at h
    have h : gO (all[j]?) tm want (fun b => Bool.rec (motive := fun _ => Bool) skip run b) = true := h
    simp only []
    cases ha : all[j]? with
    | none => rw [ha] at h; exact .inr ⟨rfl, h⟩
    | some o' =>
      rw [ha] at h
      have h : gD o'.dst tm want (fun b => Bool.rec (motive := fun _ => Bool) skip run b) = true := h
      simp only []
      cases hd : o'.dst with
      | none => rw [hd] at h; exact .inr ⟨rfl, h⟩
      | some d =>
        rw [hd] at h
        have h : gT (T.gt tm d) want (fun b => Bool.rec (motive := fun _ => Bool) skip run b) = true := h
        rw [gt_eq] at h
        simp only []
        cases hv : T.get tm d with
        | none => rw [hv] at h; cases h
        | some v =>
          rw [hv] at h
          have h : gV v want (fun b => Bool.rec (motive := fun _ => Bool) skip run b) = true := h
          cases v with
          | und => cases h
          | x i => cases h
          | b x =>
            have h : Bool.rec (motive := fun _ => Bool) skip run (x == want) = true := h
            cases hx : (x == want) with
            | true => rw [hx] at h; exact .inl ⟨by simp only [hx], h⟩
            | false => rw [hx] at h; exact .inr ⟨by simp only [hx], h⟩
          | _ => exact .inr ⟨rfl, h⟩
theorem opsT_sim (hR : SimX tb R) {all : List Oper} {nt : Nat} (hnt : nt ≤ 16777213) : ∀ (l : List Oper) (tm : T AV) (k : KT) (S : St), opsTP l all R tb nt tm k S = true →
    ∃ F tm' S', AX.opsT tb F all l ⟨tm, nt⟩ S = some (⟨tm', nt⟩, S') ∧ k tm' S' = true
  | [], tm, k, S, h => ⟨1, tm, S, by unfold AX.opsT; rfl, h⟩
  | o :: l, tm, k, S, h => by
    have h : guardP o.guard all tm (operX o.op R tb tm (fun v S => putP o.dst nt v tm (fun tm S => opsTP l all R tb nt tm k S) S) S) (putP o.dst nt (.tu []) tm (fun tm S => opsTP l all R tb nt tm k S) S) = true := h
    rcases guard_inv (nt := nt) h with ⟨hw, h⟩ | ⟨hw, h⟩
    · obtain ⟨F1, v, S1, h1, h2⟩ := operX_sim hR o nt tm _ _ h
      obtain ⟨tm1, h3, h4⟩ := putP_inv hnt h2
      obtain ⟨F2, tm2, S2, h5, h6⟩ := opsT_sim hR hnt l tm1 k S1 h4
      refine ⟨max F1 F2 + 1, tm2, S2, ?_, h6⟩
      unfold AX.opsT
      simp only [AX.bnd, AX.lft, hw, cond_true, (leM tb (Nat.le_max_left F1 F2)).oper _ _ _ _ h1, h3]
      exact (leM tb (Nat.le_max_right F1 F2)).opsT _ _ _ _ _ h5
    · obtain ⟨tm1, h3, h4⟩ := putP_inv hnt h
      obtain ⟨F2, tm2, S2, h5, h6⟩ := opsT_sim hR hnt l tm1 k S h4
      refine ⟨F2 + 1, tm2, S2, ?_, h6⟩
      unfold AX.opsT
      simp only [AX.bnd, AX.lft, hw, cond_false, h3]
      exact h5
theorem opsD_sim (hR : SimX tb R) {all : List Oper} {nt : Nat} (hnt : nt ≤ 16777213) : ∀ (l : List Oper) (n : Nat) (tm : T AV) (recs : List Rec) (k : KD) (S : St), opsDP l all R tb nt n tm recs k S = true →
    ∃ F tm' recs' S', AX.opsD tb F all l n ⟨tm, nt⟩ recs S = some ((⟨tm', nt⟩, recs'), S') ∧ k tm' recs' S' = true
  | [], n, tm, recs, k, S, h => ⟨1, tm, recs, S, by unfold AX.opsD; rfl, h⟩
  | o :: l, n, tm, recs, k, S, h => by
    have h : guardP o.guard all tm
      (operX o.op R tb tm (fun v S' => recS n recs S S' (fun recs S => putP o.dst nt v tm (fun tm S => opsDP l all R tb nt (Nat.succ n) tm recs k S) S)) ⟨S.heap, S.next, 0, 0⟩)
      (putP o.dst nt (.tu []) tm (fun tm S => opsDP l all R tb nt (Nat.succ n) tm recs k S) S) = true := h
    rcases guard_inv (nt := nt) h with ⟨hw, h⟩ | ⟨hw, h⟩
    · obtain ⟨F1, v, S1, h1, h2⟩ := operX_sim hR o nt tm _ _ h
      have h2 : putP o.dst nt v tm (fun tm S => opsDP l all R tb nt (Nat.succ n) tm (Bool.rec (motive := fun _ => List Rec) (⟨n, S1.acc, S1.wr⟩ :: recs) recs (Nat.beq S1.acc 0)) k S) ⟨S1.heap, S1.next, Nat.lor S.acc S1.acc, Nat.lor S.wr S1.wr⟩ = true := h2
      obtain ⟨tm1, h3, h4⟩ := putP_inv hnt h2
      obtain ⟨F2, tm2, recs2, S2, h5, h6⟩ := opsD_sim hR hnt l _ tm1 _ k _ h4
      refine ⟨max F1 F2 + 1, tm2, recs2, S2, ?_, h6⟩
      unfold AX.opsD
      simp only [AX.bnd, AX.lft, AX.ownRun, hw, cond_true, (leM tb (Nat.le_max_left F1 F2)).oper _ _ _ _ h1, h3]
      have h7 := (leM tb (Nat.le_max_right F1 F2)).opsD _ _ _ _ _ _ _ h5
      rw [← h7]
      cases Nat.beq S1.acc 0 <;> rfl
    · obtain ⟨tm1, h3, h4⟩ := putP_inv hnt h
      obtain ⟨F2, tm2, recs2, S2, h5, h6⟩ := opsD_sim hR hnt l _ tm1 _ k _ h4
      refine ⟨F2 + 1, tm2, recs2, S2, ?_, h6⟩
      unfold AX.opsD
      simp only [AX.bnd, AX.lft, hw, cond_false, h3]
      exact h5
theorem code_sim (hR : SimX tb R) : ∀ (c : Code) (nt : Nat) (tm : T AV) (k : KX) (S : St), nt ≤ 16777213 → codeP c R tb nt tm k S = true →
    ∃ F ex tm' S', AX.code tb F c ⟨tm, nt⟩ S = some ((ex, ⟨tm', nt⟩), S') ∧ k ex tm' S' = true := by
  intro c
  induction c with
  | skip => intro nt tm k S _ h; exact ⟨1, _, tm, S, by unfold AX.code; rfl, h⟩
  | label l => intro nt tm k S _ h; exact ⟨1, _, tm, S, by unfold AX.code; rfl, h⟩
  | exit id => intro nt tm k S _ h; exact ⟨1, _, tm, S, by unfold AX.code; rfl, h⟩
  | goto l => intro nt tm k S _ h; exact ⟨1, _, tm, S, by unfold AX.code; rfl, h⟩
  | ret => intro nt tm k S _ h; exact ⟨1, _, tm, S, by unfold AX.code; rfl, h⟩
  | region id ops draw =>
    intro nt tm k S hnt h
    cases draw with
    | false =>
      have h : opsTP ops.toList ops.toList R tb nt tm (k .normal) S = true := h
      obtain ⟨F, tm1, S1, h1, h2⟩ := opsT_sim hR hnt _ _ _ _ h
      refine ⟨F + 1, .normal, tm1, S1, ?_, h2⟩
      unfold AX.code
      simp only [cond_false, AX.bnd, h1]; rfl
    | true =>
      have h : opsDP ops.toList ops.toList R tb nt 0 tm [] (fun tm recs S => Bool.rec (motive := fun _ => Bool) false (k .normal tm S) (!(anyClash recs) || orderOk (anc ops.toList 0 .leaf) recs)) S = true := h
      obtain ⟨F, tm1, recs, S1, h1, h2⟩ := opsD_sim hR hnt _ _ _ _ _ _ h
      cases ho : (!(anyClash recs) || orderOk (anc ops.toList 0 .leaf) recs) with
      | false => rw [ho] at h2; cases h2
      | true =>
        rw [ho] at h2
        refine ⟨F + 1, .normal, tm1, S1, ?_, h2⟩
        unfold AX.code
        simp only [cond_true, AX.bnd, h1, ho]; rfl
  | seq a b iha ihb =>
    intro nt tm k S hnt h
    obtain ⟨F1, ex, tm1, S1, h1, h2⟩ := iha nt tm (fun ex tm S => exN ex (fun tm S => codeP b R tb nt tm k S) k tm S) S hnt h
    have nb : ∀ {e : Ex}, (∀ q : M (Ex × Env), (match e with | .normal => q | _ => AX.ret (e, (⟨tm1, nt⟩ : Env))) = AX.ret (e, ⟨tm1, nt⟩)) → ex = e → k e tm1 S1 = true → ∃ F ex tm' S', AX.code tb F (.seq a b) ⟨tm, nt⟩ S = some ((ex, ⟨tm', nt⟩), S') ∧ k ex tm' S' = true := fun {e} he hx hk => by
      subst hx
      refine ⟨F1 + 1, ex, tm1, S1, ?_, hk⟩
      unfold AX.code
      simp only [AX.bnd, h1]
      have := he (AX.code tb F1 b ⟨tm1, nt⟩)
      cases ex <;> first | rfl | (exact congrFun this S1)
    cases ex with
    | normal =>
      obtain ⟨F2, ex2, tm2, S2, h3, h4⟩ := ihb nt tm1 k S1 hnt h2
      refine ⟨max F1 F2 + 1, ex2, tm2, S2, ?_, h4⟩
      unfold AX.code
      simp only [AX.bnd, (leM tb (Nat.le_max_left F1 F2)).code _ _ _ _ h1]
      exact (leM tb (Nat.le_max_right F1 F2)).code _ _ _ _ h3
    | exit id => exact nb (fun _ => rfl) rfl h2
    | goto l => exact nb (fun _ => rfl) rfl h2
    | ret => exact nb (fun _ => rfl) rfl h2
  | cond c x y ihx ihy =>
    intro nt tm k S hnt h
    have h : cB (opP c tb tm) (codeP x) (codeP y) R tb nt tm k S = true := h
    rw [opP_eq] at h
    cases hv : op tb.ng tm c with
    | b v =>
      rw [hv] at h
      cases v with
      | true =>
        obtain ⟨F, ex, tm1, S1, h1, h2⟩ := ihx nt tm k S hnt h
        exact ⟨F + 1, ex, tm1, S1, by unfold AX.code; simp only [hv]; exact h1, h2⟩
      | false =>
        obtain ⟨F, ex, tm1, S1, h1, h2⟩ := ihy nt tm k S hnt h
        exact ⟨F + 1, ex, tm1, S1, by unfold AX.code; simp only [hv]; exact h1, h2⟩
    | _ => rw [hv] at h; cases h
  | block id a iha =>
    intro nt tm k S hnt h
    obtain ⟨F, ex, tm1, S1, h1, h2⟩ := iha nt tm (fun ex tm S => exB ex id k tm S) S hnt h
    cases ex with
    | exit j =>
      have h2 : Bool.rec (motive := fun _ => Bool) (k (.exit j) tm1 S1) (k .normal tm1 S1) (Nat.beq j id) = true := h2
      cases hj : Nat.beq j id with
      | true =>
        rw [hj] at h2
        refine ⟨F + 1, .normal, tm1, S1, ?_, h2⟩
        unfold AX.code
        simp only [AX.bnd, h1, hj, cond_true]; rfl
      | false =>
        rw [hj] at h2
        refine ⟨F + 1, .exit j, tm1, S1, ?_, h2⟩
        unfold AX.code
        simp only [AX.bnd, h1, hj, cond_false]; rfl
    | normal => exact ⟨F + 1, _, tm1, S1, by unfold AX.code; simp only [AX.bnd, h1]; rfl, h2⟩
    | goto l => exact ⟨F + 1, _, tm1, S1, by unfold AX.code; simp only [AX.bnd, h1]; rfl, h2⟩
    | ret => exact ⟨F + 1, _, tm1, S1, by unfold AX.code; simp only [AX.bnd, h1]; rfl, h2⟩
  | loop a iha =>
    intro nt tm k S hnt h
    obtain ⟨F1, ex, tm1, S1, h1, h2⟩ := iha nt tm (fun ex tm S => exN ex (fun tm S => R.code (.loop a) nt tm k S) k tm S) S hnt h
    cases ex with
    | normal =>
      obtain ⟨F2, ex2, tm2, S2, h3, h4⟩ := hR.code (.loop a) nt tm1 k S1 hnt h2
      refine ⟨max F1 F2 + 1, ex2, tm2, S2, ?_, h4⟩
      unfold AX.code
      simp only [AX.bnd, (leM tb (Nat.le_max_left F1 F2)).code _ _ _ _ h1]
      exact (leM tb (Nat.le_max_right F1 F2)).code _ _ _ _ h3
    | exit id => exact ⟨F1 + 1, _, tm1, S1, by unfold AX.code; simp only [AX.bnd, h1]; rfl, h2⟩
    | goto l => exact ⟨F1 + 1, _, tm1, S1, by unfold AX.code; simp only [AX.bnd, h1]; rfl, h2⟩
    | ret => exact ⟨F1 + 1, _, tm1, S1, by unfold AX.code; simp only [AX.bnd, h1]; rfl, h2⟩
  | rangeFunc g ps a b =>
    intro nt tm k S hnt h
    have h : cRf g ps.toList a b R tb nt tm k S = true := h
    unfold cRf at h
    rw [opP_eq] at h
    cases hv : op tb.ng tm g with
    | fn gf first cap =>
      rw [hv] at h
      simp only [] at h
      obtain ⟨n, S1, h1, h2⟩ := Sim.emb _ _ _ h
      obtain ⟨F, v, S2, h3, h4⟩ := hR.call _ _ _ _ h2
      obtain ⟨p, S3, h5, h6⟩ := Sim.emb _ _ _ h4
      have hp : p.2 = ⟨tm, nt⟩ := by
        unfold rfPost at h5
        obtain ⟨r, S4, g1, g2⟩ := bnd_inv h5
        obtain ⟨_, g3⟩ := cond_inv' g2
        obtain ⟨_, S5, g4, g5⟩ := bnd_inv g3
        obtain ⟨e, _⟩ := ret_inv g5
        rw [e]
      refine ⟨F + 1, p.1, tm, S3, ?_, by rw [hp] at h6; exact h6⟩
      have e : AX.code tb (F + 1) (.rangeFunc g ps a b) ⟨tm, nt⟩ = rfK tb ⟨AX.code tb F, AX.opsT tb F, AX.opsD tb F, AX.oper tb F, AX.call tb F, AX.rnd tb F⟩ ps.toList a b ⟨tm, nt⟩ (op tb.ng tm g) := by
        have := congrArg Fs.code (fs_eq tb (F + 1))
        have h2 : (fs tb (F + 1)).code = codeB tb (fs tb F) := rfl
        rw [h2, fs_eq tb F] at this
        exact (congrFun (congrFun this (.rangeFunc g ps a b)) ⟨tm, nt⟩).symm
      rw [e, hv]
      show AX.bnd (rfPre tb gf ps.toList a b ⟨tm, nt⟩) _ S = _
      rw [bnd_of h1]
      show AX.bnd (AX.call tb F gf _) _ S1 = _
      rw [bnd_of h3]
      obtain ⟨p1, p2⟩ := p
      simp only [] at hp
      subst hp
      exact h5
    | _ => rw [hv] at h; cases h
  | _ => intro nt tm k S _ h; cases h
theorem simX (tb : Tab) : ∀ f, SimX tb (xs tb f)
  | 0 => ⟨fun _ _ _ _ _ _ h => (by cases h), fun _ _ _ _ h => (by cases h), fun _ _ _ _ h => (by cases h)⟩
  | f + 1 => by
    have ih := simX tb f
    have hX : xs tb (f + 1) = xstep tb (xs tb f) := rfl
    rw [hX]
    generalize xs tb f = R at ih
    refine ⟨fun c nt tm k S hnt h => code_sim ih c nt tm k S hnt h, fun g l k S h => ?_, fun n l k S h => ?_⟩
    · have h : callO (tb.fn.get g) R tb l k S = true := h
      cases hfi : tb.fn.get g with
      | none => rw [hfi] at h; cases h
      | some fi =>
        rw [hfi] at h
        have h : sumX fi.sum R tb fi l k S = true := h
        have hb : bodyO fi.body R tb fi l k S = true → (fi.sum = none ∨ l ≠ []) → ∃ F v S', AX.call tb F g l S = some (v, S') ∧ k v S' = true := by
          intro h hs
          have e : ∀ F, AX.call tb (F + 1) g l S = (match fi.body with
              | none => AX.ext tb fi.ext l
              | some c => _root_.cond (Nat.ble l.length fi.ntmps && Nat.ble fi.ntmps 16777213) (AX.bnd (AX.code tb F c ⟨args0 l 0 .leaf, fi.ntmps⟩) fun r => match r.1 with
                | .normal | .ret => results tb fi.res r.2
                | _ => AX.fail) AX.fail) S := by
            intro F
            unfold AX.call
            simp only [AX.bnd, AX.lft, hfi]
            rcases hs with hs | hs
            · rw [hs]; cases l <;> rfl
            · cases l with
              | nil => exact absurd rfl hs
              | cons a l => cases fi.sum <;> rfl
          cases hbd : fi.body with
          | none =>
            rw [hbd] at h
            obtain ⟨v, S', h1, h2⟩ := Sim.emb _ _ _ (show embC (AX.ext tb fi.ext l) k S = true from h)
            exact ⟨1, v, S', by rw [e 0, hbd]; exact h1, h2⟩
          | some c =>
            rw [hbd] at h
            have h : bodyX c R tb fi l k S = true := h
            unfold bodyX at h
            cases hc : (Nat.ble l.length fi.ntmps && Nat.ble fi.ntmps 16777213) with
            | false => rw [hc] at h; cases h
            | true =>
              rw [hc] at h
              have hcc := hc
              rw [Bool.and_eq_true] at hcc
              obtain ⟨F, ex, tm1, S1, h1, h2⟩ := code_sim ih c _ _ _ _ (Nat.le_of_ble_eq_true hcc.2) h
              have fin : embC (results tb fi.res ⟨tm1, fi.ntmps⟩) k S1 = true → (ex = .normal ∨ ex = .ret) → ∃ F v S', AX.call tb F g l S = some (v, S') ∧ k v S' = true := fun h hex => by
                obtain ⟨v, S2, h3, h4⟩ := Sim.emb _ _ _ h
                refine ⟨F + 1, v, S2, ?_, h4⟩
                rw [e F, hbd]
                simp only [hc, cond_true, AX.bnd, h1]
                rcases hex with rfl | rfl <;> exact h3
              cases ex with
              | normal => exact fin h2 (.inl rfl)
              | ret => exact fin h2 (.inr rfl)
              | exit id => cases h2
              | goto l => cases h2
        cases hs : fi.sum with
        | none => rw [hs] at h; exact hb h (.inl hs)
        | some v =>
          rw [hs] at h
          cases l with
          | nil =>
            refine ⟨1, v, S, ?_, h⟩
            unfold AX.call
            simp only [AX.bnd, AX.lft, hfi, hs]
            rfl
          | cons a l => exact hb h (.inr (by simp))
    · have h : rndX R n l k S = true := h
      obtain ⟨r, S1, h1, h2⟩ := Sim.emb _ _ _ h
      obtain ⟨E, S2, h3, h4⟩ := Sim.lft _ _ _ h2
      obtain ⟨e3, rfl⟩ := lft_inv h3
      have h4 : Bool.rec (motive := fun _ => Bool) false (R.code r.asg E.nt E.tm (fun ex tm S => rndK2 ex R n r.body E.nt k tm S) S2) (Nat.ble E.nt 16777213) = true := h4
      cases hnt : Nat.ble E.nt 16777213 with
      | false => rw [hnt] at h4; cases h4
      | true =>
        rw [hnt] at h4
        have hnt := Nat.le_of_ble_eq_true hnt
        obtain ⟨F1, ex, tm1, S3, h5, h6⟩ := ih.code _ _ _ _ _ hnt h4
        have h5 : AX.code tb F1 r.asg E S2 = some ((ex, ⟨tm1, E.nt⟩), S3) := h5
        cases ex with
        | normal =>
          have h6 : embC (rnd1 n) (fun _ S => R.code r.body E.nt tm1 (fun ex _ S => embC (rnd2 n ex) k S) S) S3 = true := h6
          obtain ⟨u, S4, h7, h8⟩ := Sim.emb _ _ _ h6
          obtain ⟨F2, ex2, tm2, S5, h9, h10⟩ := ih.code _ _ _ _ _ hnt h8
          obtain ⟨v, S6, h11, h12⟩ := Sim.emb _ _ _ h10
          refine ⟨max F1 F2 + 1, v, S6, ?_, h12⟩
          have e : AX.rnd tb (max F1 F2 + 1) n l = rndB ⟨AX.code tb (max F1 F2), AX.opsT tb (max F1 F2), AX.opsD tb (max F1 F2), AX.oper tb (max F1 F2), AX.call tb (max F1 F2), AX.rnd tb (max F1 F2)⟩ n l := by
            have := congrArg Fs.rnd (fs_eq tb (max F1 F2 + 1))
            have h2 : (fs tb (max F1 F2 + 1)).rnd = rndB (fs tb (max F1 F2)) := rfl
            rw [h2, fs_eq tb (max F1 F2)] at this
            exact (congrFun (congrFun this n) l).symm
          rw [e]
          unfold rndB
          rw [bnd_of h1, bnd_of (show AX.lft (putAll ⟨r.tm, r.nt⟩ r.ps l) S2 = some (E, S2) by rw [e3]; rfl)]
          show AX.bnd (AX.code tb (max F1 F2) r.asg E) _ S2 = _
          rw [bnd_of ((leM tb (Nat.le_max_left F1 F2)).code _ _ _ _ h5)]
          show AX.bnd (rnd1 n) _ S3 = _
          rw [bnd_of h7]
          show AX.bnd (AX.code tb (max F1 F2) r.body ⟨tm1, E.nt⟩) _ S4 = _
          rw [bnd_of ((leM tb (Nat.le_max_right F1 F2)).code _ _ _ _ h9)]
          exact h11
        | _ => cases h6
end
/-- what the quicker twin says true, the interpreter answers true -/
theorem run_xs {tb : Tab} {f g : Nat} {l : List AV} {S : St} (h : (xs tb f).call g l isB S = true) : ∃ F S', call tb F g l S = some (.b true, S') := by
  obtain ⟨F, a, S', h1, h2⟩ := (simX tb f).call g l _ _ h
  cases a <;> first | (cases h2; done) | skip
  rename_i x
  have h2 : x = true := h2
  subst h2
  exact ⟨F, S', h1⟩
end Go.AX
end
section
set_option linter.unusedSimpArgs false
set_option linter.unusedVariables false
namespace Go.AX
/-- all of n numbers from lo on -/
noncomputable def allN (p : Nat → Bool) (lo n : Nat) : Bool := Nat.rec (motive := fun _ => Bool) true (fun j ih => Bool.rec (motive := fun _ => Bool) false ih (p (Nat.add lo j))) n
theorem allN_at {p : Nat → Bool} {lo : Nat} : ∀ {n : Nat}, allN p lo n = true → ∀ i, lo ≤ i → i < lo + n → p i = true
  | 0, _, i, h1, h2 => by omega
  | n + 1, h, i, h1, h2 => by
    have h : Bool.rec (motive := fun _ => Bool) false (allN p lo n) (p (Nat.add lo n)) = true := h
    cases hp : p (Nat.add lo n) with
    | false => rw [hp] at h; cases h
    | true =>
      rw [hp] at h
      have h : allN p lo n = true := h
      by_cases e : i = lo + n
      · subst e; exact hp
      · exact allN_at h i h1 (by omega)
/-- a value of a choice, out of a number -/
def bOf (n : Nat) : Bool := Nat.beq n 1
def nOf (b : Bool) : Nat := cond b 1 0
theorem bOf_nOf (b : Bool) : bOf (nOf b) = b := by cases b <;> rfl
theorem nOf_lt (b : Bool) : nOf b < 2 := by cases b <;> decide
section
variable {C : Cx}
theorem hBin {i : Nat} {k : IntKind} {a b : Int} {o : BinOp} {u r : AV} {z : Value} (hi : C.nu i = .int k a) (ho : o ≠ .shl ∧ o ≠ .shr) (hrun : binI o k a b ⟨.leaf, 0, 0, 0⟩ = some (u, ⟨.leaf, 0, 0, 0⟩)) (hz : ∀ ρ v, Rel C ρ u v → v = z) (hr : ∀ ρ, Rel C ρ r z) :
    HOk C (.bin o (.x i) (.i k b)) r := by
  intro ρ vx vy hx hy
  simp only [Rel] at hx hy
  subst hx; subst hy
  rw [hi]
  refine ⟨.inl ⟨k, a, b, rfl, rfl⟩, z, hr ρ, fun t w => ?_⟩
  obtain ⟨_, v, hv, hq⟩ := binI_ok (C := C) (ρ := ρ) hrun ho
  rw [hz ρ v hv] at hq
  exact hq t w
theorem hRemX {i x m : Nat} {k : IntKind} (hi : C.nu i = .int k (.ofNat x)) (hm : m ≠ 0) {r : Nat} (hr : x % m = r) : HOk C (.bin .rem (.x i) (.i k (.ofNat m))) (.i k (.ofNat r)) := by
  have e : (Int.ofNat x).tmod (Int.ofNat m) = Int.ofNat r := by subst hr; rfl
  refine hBin (u := .i k (.ofNat r)) (z := .int k (.ofNat r)) hi ⟨by simp, by simp⟩ ?_ (fun ρ v h => by simpa only [Rel] using h) (fun ρ => by simp only [Rel])
  have : ieq (Int.ofNat m) 0 = false := by rw [ieq_iff]; simp; exact hm
  show (cond (ieq (Int.ofNat m) 0) (AX.fail : M AV) (AX.ret (AV.i k ((Int.ofNat x).tmod (Int.ofNat m))))) _ = _
  rw [this, e]; rfl
theorem wrp_nat {k : IntKind} {n : Nat} (h : fits k (.ofNat n) = true) : wrp k (.ofNat n) = .ofNat n := by unfold wrp; rw [h]; rfl
theorem hQuoX {i j x m : Nat} {k : IntKind} (hi : C.nu i = .int k (.ofNat x)) (hm : m ≠ 0) (hj : C.nu j = .int k (.ofNat (x / m))) (hf : fits k (.ofNat (x / m)) = true) : HOk C (.bin .quo (.x i) (.i k (.ofNat m))) (.x j) := by
  have e : (Int.ofNat x).tdiv (Int.ofNat m) = Int.ofNat (x / m) := rfl
  refine hBin (u := .i k (.ofNat (x / m))) (z := .int k (.ofNat (x / m))) hi ⟨by simp, by simp⟩ ?_ (fun ρ v h => by simpa only [Rel] using h) (fun ρ => by simp only [Rel]; exact hj.symm)
  have : ieq (Int.ofNat m) 0 = false := by rw [ieq_iff]; simp; exact hm
  show (cond (ieq (Int.ofNat m) 0) (AX.fail : M AV) (AX.ret (mkI k ((Int.ofNat x).tdiv (Int.ofNat m))))) _ = _
  rw [this, e]
  show some (AV.i k (wrp k (.ofNat (x / m))), _) = _
  rw [wrp_nat hf]
theorem hAndX {i x m r : Nat} {k : IntKind} (hi : C.nu i = .int k (.ofNat x)) (hx : fits k (.ofNat x) = true) (hm : fits k (.ofNat m) = true) (hf : fits k (.ofNat r) = true) (hr : Nat.land x m = r) : HOk C (.bin .and (.x i) (.i k (.ofNat m))) (.i k (.ofNat r)) := by
  refine hBin (u := .i k (.ofNat r)) (z := .int k (.ofNat r)) hi ⟨by simp, by simp⟩ ?_ (fun ρ v h => by simpa only [Rel] using h) (fun ρ => by simp only [Rel])
  show some (AV.i k (wrp k (.ofNat (Nat.land (tn k (.ofNat x)) (tn k (.ofNat m))))), _) = _
  have e1 : tn k (.ofNat x) = x := by unfold tn; simp only [hx, cond_true]
  have e2 : tn k (.ofNat m) = m := by unfold tn; simp only [hm, cond_true]
  rw [e1, e2, hr, wrp_nat hf]
theorem hShrX {i j x p : Nat} {k l : IntKind} (hi : C.nu i = .int k (.ofNat x)) (hp : p ≤ k.bits) (hj : C.nu j = .int k (.ofNat (x >>> p))) : HOk C (.bin .shr (.x i) (.i l (.ofNat p))) (.x j) := by
  intro ρ vx vy hx hy
  simp only [Rel] at hx hy
  subst hx; subst hy
  rw [hi]
  refine ⟨.inr (.inr ⟨.inr rfl, k, l, .ofNat x, .ofNat p, rfl, rfl⟩), .int k (.ofNat (x >>> p)), by simp only [Rel]; exact hj.symm, fun t w => ?_⟩
  have e := fdiv_pow x p
  simp [binOp, Op.shift, Nat.min_eq_left hp, e]
  intro hneg
  omega
theorem hConvX {i j t : Nat} {x : Nat} {k q : IntKind} (hi : C.nu i = .int k (.ofNat x)) (ht : C.P.underlying t = some (.int q)) (hf : fits q (.ofNat x) = true) (hj : C.nu j = .int q (.ofNat x)) : HOk C (.conv t (.x i)) (.x j) := by
  intro ρ vx hx
  simp only [Rel] at hx
  subst hx
  rw [hi]
  refine ⟨.inl ⟨k, _, rfl⟩, .int q (.ofNat x), by simp only [Rel]; exact hj.symm, fun src w hs => ?_⟩
  obtain ⟨d, hd⟩ := Option.isSome_iff_exists.1 hs
  have e := fits_wrap q (.ofNat x) hf
  simp only [convert, Sem.run_bind, run_underlying hd, run_underlying ht, Result.andThen_ok]
  simp [Conv.intToInt, e]
  try exact e
end
theorem fits16 {n : Nat} (h : n ≤ 65535) : fits .u16 (.ofNat n) = true := Nat.ble_eq_true_of_le h
theorem fitsShr {x : Nat} (h : x ≤ 65535) (i : Nat) : fits .u16 (.ofNat (x >>> i)) = true := fits16 (Nat.le_trans (by rw [Nat.shiftRight_eq_div_pow]; exact Nat.div_le_self _ _) h)
theorem fitsBit (n : Nat) : fits .u16 (.ofNat (Nat.mod n 2)) = true := fits16 (by have : Nat.mod n 2 = n % 2 := rfl; omega)
theorem bitOf {x c : Nat} (hc : x % 256 = c) (i : Nat) (hi : i < 8) : Nat.land (x >>> i) 1 = Nat.mod (Nat.div c (2 ^ i)) 2 := by
  subst hc
  have e : Nat.land (x >>> i) 1 = (x >>> i) % 2 := Nat.and_one_is_mod _
  rw [e, Nat.shiftRight_eq_div_pow]
  show x / 2 ^ i % 2 = x % 256 / 2 ^ i % 2
  have h8 : (256 : Nat) = 2 ^ i * 2 ^ (8 - i) := by rw [← Nat.pow_add, show i + (8 - i) = 8 by omega]
  rw [h8, Nat.mod_mul_right_div_self, Nat.mod_mod_of_dvd]
  exact ⟨2 ^ (7 - i), by rw [show 8 - i = (7 - i) + 1 by omega, Nat.pow_succ]; omega⟩
theorem fits8 {n : Nat} (h : n ≤ 255) : fits .u8 (.ofNat n) = true := Nat.ble_eq_true_of_le h
theorem fits64 {n : Nat} (h : n ≤ 9223372036854775807) : fits .i64 (.ofNat n) = true := Nat.ble_eq_true_of_le h
theorem fitsBit8 (n : Nat) : fits .u8 (.ofNat (Nat.mod n 2)) = true := fits8 (by have : Nat.mod n 2 = n % 2 := rfl; omega)
theorem fitsShr8 {x : Nat} (h : x ≤ 255) (i : Nat) : fits .u8 (.ofNat (x >>> i)) = true := fits8 (Nat.le_trans (by rw [Nat.shiftRight_eq_div_pow]; exact Nat.div_le_self _ _) h)
theorem bitOfG {x c b : Nat} (hc : x % 2 ^ b = c) (i : Nat) (hi : i < b) : Nat.land (x >>> i) 1 = Nat.mod (Nat.div c (2 ^ i)) 2 := by
  subst hc
  have e : Nat.land (x >>> i) 1 = (x >>> i) % 2 := Nat.and_one_is_mod _
  rw [e, Nat.shiftRight_eq_div_pow]
  show x / 2 ^ i % 2 = x % 2 ^ b / 2 ^ i % 2
  have h8 : (2 : Nat) ^ b = 2 ^ i * 2 ^ (b - i) := by rw [← Nat.pow_add, show i + (b - i) = b by omega]
  rw [h8, Nat.mod_mul_right_div_self, Nat.mod_mod_of_dvd]
  obtain ⟨d, hd⟩ : ∃ d, b - i = d + 1 := ⟨b - i - 1, by omega⟩
  exact ⟨2 ^ d, by rw [hd, Nat.pow_succ]; omega⟩
/-- an argument's number -/
theorem natOf {k : IntKind} {a : Int} {M : Nat} (h : (Lit.int k a).wf = true) (h0 : IntKind.min k = 0) (hM : IntKind.max k = (M : Int)) : ∃ x : Nat, a = Int.ofNat x ∧ x ≤ M := by
  have h1 : IntKind.min k ≤ a ∧ a ≤ IntKind.max k := by simpa [Lit.wf] using h
  rw [h0, hM] at h1
  exact ⟨a.toNat, by simp; omega, by omega⟩
end Go.AX
end
