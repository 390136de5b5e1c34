/- A part of the proof: an interpreter of the model's own code on partly known states, and that what it answers is what the program answers. No condition of its own. -/
import Derived.Test.YtojgdbbjblaalaaDoorAXzk
set_option linter.unusedVariables false
set_option linter.unusedSimpArgs false
namespace Go.AX
noncomputable section
def xMove (f : Operand → AV) (x : Operand) : M AV := ret (f x)
def pickB (p q : AV) : AV → M AV
  | .b b => cond b (ret p) (ret q)
  | _ => fail
def xPick (f : Operand → AV) (c a d : Operand) : M AV := pickB (f a) (f d) (f c)
def xAlloc (tb : Tab) (e : Nat) : M AV := bnd (lft (tb.ty.get e)) fun ti => match ti.zero with
    | none => fail
    | some _ => cond ti.zs (bnd (new (mkBlk e ti.zc)) fun v => ret (.p v 0)) fail
def xBox (f : Operand → AV) (e : Nat) (x : Operand) : M AV := bnd (lft (cellsOf (f x))) fun l => cond (l.all scal) (bnd (new (mkBlk e (.l l))) fun v => ret (.p v 0)) fail
def xLoad (tb : Tab) (f : Operand → AV) (t : Nat) (a : Operand) : M AV := load tb t (f a)
def xStore (tb : Tab) (f : Operand → AV) (t : Nat) (a x : Operand) : M AV := bnd (store tb t (f a) (f x)) fun _ => ret .und
def binSh (o : BinOp) (k l : IntKind) (a c : Int) : M AV := match o with
  | .shl => (match c with | .ofNat c => ret (mkI k (a * 2 ^ (Nat.min c k.bits))) | _ => fail)
  | .shr => (match a, c with | .ofNat a, .ofNat c => ret (.i k (.ofNat (Nat.shiftRight a (Nat.min c k.bits)))) | _, _ => fail)
  | o => cond (kEq k l) (binI o k a c) fail
def binE (tb : Tab) (o : BinOp) (t : Nat) (cx : Bool) (x y : AV) : M AV := match o with
  | .eql => bnd (eqTop tb t cx x y) fun r => ret (.b r)
  | .neq => bnd (eqTop tb t cx x y) fun r => ret (.b (!r))
  | _ => fail
def binH (tb : Tab) (o : BinOp) (t : Nat) (cx : Bool) (x : AV) (y : AV) : M AV := match y with
  | .x c => lft (hl tb.hyp (.bin o x (.x c)))
  | y => binE tb o t cx x y
def binS (o : BinOp) (k a l c : Nat) : M AV := match o with
  | .add => cond (Nat.ble (Nat.add k l) 9223372036854775807) (ret (.s (Nat.add k l) (Nat.add a (Nat.shiftLeft c (Nat.mul 8 k))))) fail
  | .eql => ret (.b (Nat.beq k l && Nat.beq a c))
  | .neq => ret (.b (!(Nat.beq k l && Nat.beq a c)))
  | .lss => ret (.b (sless k a l c))
  | .gtr => ret (.b (!(sless k a l c || (Nat.beq k l && Nat.beq a c))))
  | .leq => ret (.b (sless k a l c || (Nat.beq k l && Nat.beq a c)))
  | .geq => ret (.b (!(sless k a l c)))
  | _ => fail
def binI1 (tb : Tab) (o : BinOp) (t : Nat) (cx : Bool) (k : IntKind) (a : Int) (y : AV) : M AV := match y with
  | .i l c => binSh o k l a c
  | y => binH tb o t cx (.i k a) y
def binS1 (tb : Tab) (o : BinOp) (t : Nat) (cx : Bool) (k a : Nat) (y : AV) : M AV := match y with
  | .s l c => binS o k a l c
  | y => binH tb o t cx (.s k a) y
def binF (tb : Tab) (o : BinOp) (t : Nat) (cx : Bool) (x y : AV) : M AV := match x with
  | .i k a => binI1 tb o t cx k a y
  | .s k a => binS1 tb o t cx k a y
  | .x a => lft (hl tb.hyp (.bin o (.x a) y))
  | x => binH tb o t cx x y
def xBin (tb : Tab) (f : Operand → AV) (o : BinOp) (t : Nat) (x y : Operand) : M AV := binF tb o t (isC x || isC y) (f x) (f y)
def xField (tb : Tab) (f : Operand → AV) (t : Nat) (x : Operand) (i : Nat) : M AV := bnd (lft (tb.ty.get t)) fun ti => bnd (lft (fget ti.fs i)) fun fl => match f x with
    | .ag l => lft (part l fl)
    | _ => fail
def xFieldAddr (tb : Tab) (f : Operand → AV) (t : Nat) (x : Operand) (i : Nat) : M AV := bnd (lft (tb.ty.get t)) fun ti => bnd (lft (fget ti.fs i)) fun fl => match f x with
    | .p v o => cond (Nat.beq fl.sz 0) fail (ret (.p v (Nat.add o fl.off)))
    | _ => fail
def idxA (tb : Tab) (k : K) (x : AV) (i : Nat) : M AV := match k with
    | .arr n e => (match x with | .p v o => cond (Nat.blt i n) (bnd (lft (tb.ty.get e)) fun te => ret (.p v (Nat.add o (Nat.mul i te.size)))) fail | _ => fail)
    | .slice e => (match x with | .sl v o n _ _ => cond (Nat.blt i n) (bnd (lft (tb.ty.get e)) fun te => ret (.p v (Nat.add o (Nat.mul i te.size)))) fail | _ => fail)
    | _ => fail
def xIndexAddr (tb : Tab) (f : Operand → AV) (t : Nat) (x ix : Operand) : M AV := bnd (lft (tb.ty.get t)) fun ti => bnd (lft (asN (f ix))) fun i => idxA tb ti.k (f x) i
def idxS (tb : Tab) (x y : AV) : M AV := match x with
    | .s k n => (match asN y with | some i => cond (Nat.blt i k) (ret (.i .u8 (.ofNat (byteAt n i)))) fail | none => fail)
    | .x a => lft (hl tb.hyp (.idx (.x a) y))
    | _ => fail
def idxR (tb : Tab) (n e : Nat) (x y : AV) : M AV := match x with
    | .ag l => (match asN y with | some i => cond (Nat.blt i n) (bnd (lft (tb.ty.get e)) fun te => lft (part l ⟨Nat.mul i te.size, e, te.size, isAgg te.k, isBad te.k, true⟩)) fail | none => fail)
    | _ => fail
def idxK (tb : Tab) (k : K) (x y : AV) : M AV := match k with
    | .str => idxS tb x y
    | .arr n e => idxR tb n e x y
    | _ => fail
def xIndex (tb : Tab) (f : Operand → AV) (t : Nat) (x ix : Operand) : M AV := bnd (lft (tb.ty.get t)) fun ti => idxK tb ti.k (f x) (f ix)
def xExtract (f : Operand → AV) (x : Operand) (k : Nat) : M AV := match f x with
    | .tu l => lft (lget l k)
    | _ => fail
def xNil (f : Operand → AV) (x : Operand) : M AV := match f x with
    | .p v o => ret (.p v o)
    | .h t => ret (.h t)
    | .ifc t v => ret (.ifc t v)
    | .fn g a c => ret (.fn g a c)
    | _ => fail
def simpleF (tb : Tab) (f : Operand → AV) (o : Op) : M AV := match o with
  | .move x => xMove f x
  | .assign x => xMove f x
  | .pick c a d => xPick f c a d
  | .alloc e => xAlloc tb e
  | .box e x => xBox f e x
  | .load t a => xLoad tb f t a
  | .store t a x => xStore tb f t a x
  | .nilCheck x => xNil f x
  | .binOp o t x y _ => xBin tb f o t x y
  | .fieldAddr t x i => xFieldAddr tb f t x i
  | .field t x i => xField tb f t x i
  | .indexAddr t x ix => xIndexAddr tb f t x ix
  | .index t x ix => xIndex tb f t x ix
  | .extract x k => xExtract f x k
  | o => simple tb f o
def bi1 (tb : Tab) (bi : Builtin) (t : Nat) (ts : List Nat) (args : List AV) (x : AV) : M AV := match bi with
  | .len => bnd (lft (tb.ty.get t)) fun ti => lenK tb ti.k x
  | .cap => bnd (lft (tb.ty.get t)) fun ti => capK ti.k x
  | bi => builtin tb bi (t :: ts) args
def builtinF (tb : Tab) (bi : Builtin) (ts : List Nat) (args : List AV) : M AV := match ts with
  | t :: ts => (match args with
    | [x] => bi1 tb bi t ts args x
    | args => builtin tb bi (t :: ts) args)
  | ts => builtin tb bi ts args

structure Fs where
  code : Code → Env → M (Ex × Env)
  opsT : List Oper → List Oper → Env → M Env
  opsD : List Oper → List Oper → Nat → Env → List Rec → M (Env × List Rec)
  oper : Oper → Env → M AV
  call : Nat → List AV → M AV
def F0 : Fs := ⟨fun _ _ => fail, fun _ _ _ => fail, fun _ _ _ _ _ => fail, fun _ _ => fail, fun _ _ => fail⟩
def seqK (R : Fs) (b : Code) (r : Ex × Env) : M (Ex × Env) := match r.1 with
  | .normal => R.code b r.2
  | _ => ret r
def condK (R : Fs) (x y : Code) (E : Env) (v : AV) : M (Ex × Env) := match v with
  | .b b => cond b (R.code x E) (R.code y E)
  | _ => fail
def blockK (id : Nat) (r : Ex × Env) : M (Ex × Env) := match r.1 with
  | .exit j => cond (Nat.beq j id) (ret (.normal, r.2)) (ret r)
  | _ => ret r
def regD (R : Fs) (ops : List Oper) (E : Env) : M (Ex × Env) := bnd (R.opsD ops ops 0 E []) fun r => cond (!(anyClash r.2) || orderOk (anc ops 0 .leaf) r.2) (ret (.normal, r.1)) fail
def regT (R : Fs) (ops : List Oper) (E : Env) : M (Ex × Env) := bnd (R.opsT ops ops E) fun E => ret (.normal, E)
def codeB (tb : Tab) (R : Fs) (c : Code) (E : Env) : M (Ex × Env) := match c with
    | .skip => ret (.normal, E)
    | .label _ => ret (.normal, E)
    | .seq a b => bnd (R.code a E) (seqK R b)
    | .cond c x y => condK R x y E (op tb.ng E.tm c)
    | .block id body => bnd (R.code body E) (blockK id)
    | .loop body => bnd (R.code body E) (seqK R (.loop body))
    | .exit id => ret (.exit id, E)
    | .goto l => ret (.goto l, E)
    | .ret => ret (.ret, E)
    | .region _ ops draw => cond draw (regD R ops.toList E) (regT R ops.toList E)
    | _ => fail
def wantF (all : List Oper) (E : Env) (o : Oper) (g : Option (Nat × Bool)) : Option Bool := match g with
  | none => some true
  | some _ => wanted all E o
def opsTK (R : Fs) (all : List Oper) (o : Oper) (r : List Oper) (E : Env) (w : Bool) : M Env := cond w
      (bnd (R.oper o E) fun v => bnd (lft (E.put o.dst v)) fun E => R.opsT all r E)
      (bnd (lft (E.put o.dst (.tu []))) fun E => R.opsT all r E)
def opsTB (R : Fs) (all : List Oper) (l : List Oper) (E : Env) : M Env := match l with
  | [] => ret E
  | o :: r => bnd (lft (wantF all E o o.guard)) (opsTK R all o r E)
def opsDK (R : Fs) (all : List Oper) (o : Oper) (r : List Oper) (n : Nat) (E : Env) (l : List Rec) (w : Bool) : M (Env × List Rec) := cond w
      (bnd (ownRun (R.oper o E)) fun p => bnd (lft (E.put o.dst p.1)) fun E => R.opsD all r (Nat.succ n) E (cond (Nat.beq p.2.1 0) l (⟨n, p.2.1, p.2.2⟩ :: l)))
      (bnd (lft (E.put o.dst (.tu []))) fun E => R.opsD all r (Nat.succ n) E l)
def opsDB (R : Fs) (all : List Oper) (l : List Oper) (n : Nat) (E : Env) (recs : List Rec) : M (Env × List Rec) := match l with
  | [] => ret (E, recs)
  | o :: r => bnd (lft (wantF all E o o.guard)) (opsDK R all o r n E recs)
def callV (R : Fs) (args : List AV) (v : AV) : M AV := match v with
  | .fn g first cap => R.call g (first ++ args ++ cap)
  | _ => fail
def callI (tb : Tab) (R : Fs) (m : String) (args : List AV) (v : AV) : M AV := match v with
  | .ifc t v => bnd (lft (methd tb.met t m)) fun g => bnd (lft (recv g.2 v)) fun v => R.call g.1 (v :: args)
  | _ => fail
def callC (tb : Tab) (R : Fs) (φ : Operand → AV) (c : Call) : M AV := match c.callee with
  | .builtin b => builtinF tb b c.argTypes.toList (c.args.toList.map φ)
  | .value g => callV R (c.args.toList.map φ) (φ g)
  | .invoke r m => callI tb R m (c.args.toList.map φ) (φ r)
def operB (tb : Tab) (R : Fs) (o : Oper) (E : Env) : M AV := match o.op with
  | .call c => callC tb R (op tb.ng E.tm) c
  | x => simpleF tb (op tb.ng E.tm) x
def endK (tb : Tab) (res : List ResultVar) (r : Ex × Env) : M AV := match r.1 with
  | .normal => results tb res r.2
  | .ret => results tb res r.2
  | _ => fail
def bodyK (tb : Tab) (R : Fs) (fi : FI) (args : List AV) (b : Option Code) : M AV := match b with
  | none => ext tb fi.ext args
  | some c => cond (Nat.ble args.length fi.ntmps && Nat.ble fi.ntmps 16777213) (bnd (R.code c ⟨args0 args 0 .leaf, fi.ntmps⟩) (endK tb fi.res)) fail
def sumK (tb : Tab) (R : Fs) (fi : FI) (args : List AV) (s : Option AV) : M AV := match s with
  | none => bodyK tb R fi args fi.body
  | some v => (match args with | [] => ret v | _ => bodyK tb R fi args fi.body)
def callB (tb : Tab) (R : Fs) (g : Nat) (args : List AV) : M AV := bnd (lft (tb.fn.get g)) fun fi => sumK tb R fi args fi.sum
def fstep (tb : Tab) (R : Fs) : Fs := ⟨codeB tb R, opsTB R, opsDB R, operB tb R, callB tb R⟩
def fs (tb : Tab) (f : Nat) : Fs := Nat.rec (motive := fun _ => Fs) F0 (fun _ R => fstep tb R) f
theorem pickB_eq (p q v : AV) : pickB p q v = (match v with
    | .b true => ret p
    | .b false => ret q
    | _ => fail) := by
  cases v with
  | b x => cases x <;> rfl
  | _ => rfl
theorem binF_eq (tb : Tab) (o : BinOp) (t : Nat) (cx : Bool) (x y : AV) : binF tb o t cx x y = bin tb o t cx x y := by
  cases x with
  | i k a =>
    cases y with
    | i l c =>
      cases o <;> first | rfl | (cases a <;> cases c <;> first | rfl | (show (fail : M AV) = cond (kEq k l) fail fail; cases kEq k l <;> rfl))
    | _ => cases o <;> first | rfl | (cases a <;> rfl)
  | s k a =>
    cases y with
    | s l c => cases o <;> rfl
    | _ => cases o <;> rfl
  | x a => cases o <;> cases y <;> rfl
  | _ => cases y <;> cases o <;> rfl
theorem bnd_congr {α β : Type} {m : M α} {f g : α → M β} (h : ∀ a, f a = g a) : bnd m f = bnd m g := by rw [funext h]
theorem bnd_fail {α β : Type} (m : M α) (f : α → M β) (h : ∀ a, f a = fail) : ∀ S, bnd m f S = none := fun S => by
  unfold bnd
  cases m S with
  | none => rfl
  | some p => exact congrFun (h p.1) p.2
theorem idxA_eq (tb : Tab) (k : K) (x y : AV) : (bnd (lft (asN y)) fun i => idxA tb k x i) = (match k, x, asN y with
    | .arr n e, .p v o, some i => cond (Nat.blt i n) (bnd (lft (tb.ty.get e)) fun te => ret (.p v (Nat.add o (Nat.mul i te.size)))) fail
    | .slice e, .sl v o n _ _, some i => cond (Nat.blt i n) (bnd (lft (tb.ty.get e)) fun te => ret (.p v (Nat.add o (Nat.mul i te.size)))) fail
    | _, _, _ => fail) := by
  cases asN y with
  | none => cases k <;> cases x <;> rfl
  | some i => cases k <;> cases x <;> rfl
theorem idxK_eq (tb : Tab) (k : K) (x y : AV) : idxK tb k x y = (match k, x, asN y with
    | .str, .s k n, some i => cond (Nat.blt i k) (ret (.i .u8 (.ofNat (byteAt n i)))) fail
    | .str, .x a, _ => lft (hl tb.hyp (.idx (.x a) y))
    | .arr n e, .ag l, some i => cond (Nat.blt i n) (bnd (lft (tb.ty.get e)) fun te => lft (part l ⟨Nat.mul i te.size, e, te.size, isAgg te.k, isBad te.k, true⟩)) fail
    | _, _, _ => fail) := by
  unfold idxK idxS idxR
  generalize asN y = n
  cases k <;> cases x <;> cases n <;> rfl
theorem simpleF_eq (tb : Tab) (f : Operand → AV) (o : Op) : simpleF tb f o = simple tb f o := by
  cases o with
  | pick c a d => exact pickB_eq _ _ _
  | binOp o t x y u => exact binF_eq _ _ _ _ _ _
  | indexAddr t x ix => exact bnd_congr fun ti => idxA_eq tb ti.k (f x) (f ix)
  | index t x ix => exact bnd_congr fun ti => idxK_eq tb ti.k (f x) (f ix)
  | _ => rfl
theorem builtinF_eq (tb : Tab) (bi : Builtin) (ts : List Nat) (args : List AV) : builtinF tb bi ts args = builtin tb bi ts args := by
  cases ts with
  | nil => rfl
  | cons t ts =>
    cases args with
    | nil => rfl
    | cons x l =>
      cases l with
      | nil => cases bi <;> rfl
      | cons y l => rfl
theorem wantF_eq (all : List Oper) (E : Env) (o : Oper) : wantF all E o o.guard = wanted all E o := by
  cases hg : o.guard with
  | none => show some true = wanted all E o; unfold wanted; rw [hg]
  | some g => rfl
theorem fs_eq (tb : Tab) : ∀ f, fs tb f = ⟨code tb f, opsT tb f, opsD tb f, oper tb f, call tb f⟩
  | 0 => by
    show F0 = _
    unfold F0
    congr 1
  | f + 1 => by
    show fstep tb (fs tb f) = _
    rw [fs_eq tb f]
    unfold fstep
    congr 1
    · funext c E
      cases c with
      | cond c x y =>
        rw [code]
        show condK _ x y E (op tb.ng E.tm c) = _
        cases op tb.ng E.tm c with
        | b v => cases v <;> rfl
        | _ => rfl
      | _ => unfold code; rfl
    · funext a r E
      cases r with
      | nil => rw [opsT]; rfl
      | cons o r => rw [opsT]; show bnd (lft (wantF a E o o.guard)) _ = _; rw [wantF_eq]; rfl
    · funext a r n E l
      cases r with
      | nil => rw [opsD]; rfl
      | cons o r => rw [opsD]; show bnd (lft (wantF a E o o.guard)) _ = _; rw [wantF_eq]; rfl
    · funext o E
      rw [oper]
      show (match o.op with
        | .call c => callC tb _ (op tb.ng E.tm) c
        | x => simpleF tb (op tb.ng E.tm) x) = _
      cases o.op with
      | call c =>
        show callC tb _ (op tb.ng E.tm) c = _
        cases c
        rename_i callee args tys
        cases callee with
        | builtin b => exact builtinF_eq _ _ _ _
        | value g =>
          show callV _ _ (op tb.ng E.tm g) = (match op tb.ng E.tm g with
            | .fn g first cap => call tb f g (first ++ args.toList.map (op tb.ng E.tm) ++ cap)
            | _ => fail)
          cases op tb.ng E.tm g <;> rfl
        | invoke r m =>
          show callI tb _ m _ (op tb.ng E.tm r) = (match op tb.ng E.tm r with
            | .ifc t v => bnd (lft (methd tb.met t m)) fun g => bnd (lft (recv g.2 v)) fun v => call tb f g.1 (v :: args.toList.map (op tb.ng E.tm))
            | _ => fail)
          cases op tb.ng E.tm r <;> rfl
      | _ => exact simpleF_eq _ _ _
    · funext g l
      rw [call]
      refine bnd_congr fun fi => ?_
      have hbody : bodyK tb ⟨code tb f, opsT tb f, opsD tb f, oper tb f, call tb f⟩ fi l fi.body = (match fi.body with
          | none => ext tb fi.ext l
          | some c => cond (Nat.ble l.length fi.ntmps && Nat.ble fi.ntmps 16777213) (bnd (code tb f c ⟨args0 l 0 .leaf, fi.ntmps⟩) fun r => match r.1 with
            | .normal | .ret => results tb fi.res r.2
            | _ => fail) fail) := by
        cases fi.body with
        | none => rfl
        | some c =>
          show cond _ (bnd _ (endK tb fi.res)) fail = _
          rw [show endK tb fi.res = (fun r => match r.1 with
            | .normal | .ret => results tb fi.res r.2
            | _ => fail) from funext fun r => by unfold endK; cases r.1 <;> rfl]
      show sumK tb _ fi l fi.sum = _
      cases fi.sum with
      | none => exact hbody
      | some v =>
        cases l with
        | nil => rfl
        | cons x l => exact hbody
theorem run_fs {tb : Tab} {f g : Nat} {l : List AV} {S : St} : (fs tb f).call g l S = call tb f g l S := by rw [fs_eq]
end
end Go.AX
