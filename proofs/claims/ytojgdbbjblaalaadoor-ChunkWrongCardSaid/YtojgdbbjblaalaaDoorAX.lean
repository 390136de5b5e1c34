/- A part of the proof: an interpreter of the model's own code on partly known states, and that what it answers is what the program answers. No condition of its own. -/
import GoSem.Dispatch
namespace Go.AX
noncomputable section

inductive AV where
  | und
  | b (x : Bool)
  | i (k : IntKind) (n : Int)
  | s (len n : Nat)
  | nilp
  | p (v off : Nat)
  | nils
  | sl (v off len cap : Nat) (rest : Bool)
  | ni
  | ifc (t : Nat) (v : AV)
  | ag (l : List AV)
  | tu (l : List AV)
  | fn (f : Nat) (first cap : List AV)
  | nilf
  | h (t : Nat)
  | x (id : Nat)
  deriving Inhabited

inductive T (α : Type) where
  | leaf
  | node (v : Option α) (l r : T α)
  deriving Inhabited

def gB {α : Type} (gl gr : Nat → Option α) (k : Nat) : Option α := Nat.rec (motive := fun _ => Option α) (gl (Nat.div k 2)) (fun _ _ => gr (Nat.div k 2)) (Nat.mod k 2)
def T.get {α : Type} (t : T α) : Nat → Option α := T.rec (motive := fun _ => Nat → Option α) (fun _ => none)
  (fun v _ _ gl gr n => Nat.rec (motive := fun _ => Option α) v (fun k _ => gB gl gr k) n) t
def sB {α : Type} (ih : T α → Nat → T α) (v : Option α) (l r : T α) (k : Nat) : T α := Nat.rec (motive := fun _ => T α) (.node v (ih l (Nat.div k 2)) r) (fun _ _ => .node v l (ih r (Nat.div k 2))) (Nat.mod k 2)
def sN {α : Type} (x : Option α) (ih : T α → Nat → T α) (n : Nat) (v : Option α) (l r : T α) : T α := Nat.rec (motive := fun _ => T α) (.node x l r) (fun k _ => sB ih v l r k) n
def T.setG {α : Type} (x : Option α) (f : Nat) : T α → Nat → T α := Nat.rec (motive := fun _ => T α → Nat → T α) (fun t _ => t)
  (fun _ ih t n => T.rec (motive := fun _ => T α) (sN x ih n none .leaf .leaf) (fun v l r _ _ => sN x ih n v l r) t) f
def T.setF {α : Type} (f : Nat) (t : T α) (n : Nat) (x : Option α) : T α := T.setG x f t n
theorem half0 {k : Nat} (h : k % 2 = 0) : Nat.beq (Nat.mod (k + 1) 2) 1 = true ∧ Nat.div (k + 1) 2 = Nat.div k 2 := by
  have e1 : (k + 1) % 2 = 1 := by omega
  have e2 : (k + 1) / 2 = k / 2 := by omega
  exact ⟨by show Nat.beq ((k + 1) % 2) 1 = true; rw [e1]; rfl, e2⟩
theorem half1 {k q : Nat} (h : k % 2 = q + 1) : Nat.beq (Nat.mod (k + 1) 2) 1 = false ∧ Nat.sub (Nat.div (k + 1) 2) 1 = Nat.div k 2 := by
  have e1 : (k + 1) % 2 = 0 := by omega
  have e2 : (k + 1) / 2 - 1 = k / 2 := by omega
  exact ⟨by show Nat.beq ((k + 1) % 2) 1 = false; rw [e1]; rfl, e2⟩
theorem sN_eq {α : Type} (x : Option α) (ih : T α → Nat → T α) (n : Nat) (v : Option α) (l r : T α) : sN x ih n v l r = cond (Nat.beq n 0) (.node x l r) (cond (Nat.beq (Nat.mod n 2) 1) (.node v (ih l (Nat.div n 2)) r) (.node v l (ih r (Nat.sub (Nat.div n 2) 1)))) := by
  cases n with
  | zero => rfl
  | succ k =>
    show sB ih v l r k = cond (Nat.beq (Nat.mod (k + 1) 2) 1) _ _
    unfold sB
    cases h : k % 2 with
    | zero =>
      rw [(half0 h).1, (half0 h).2]
      have : Nat.mod k 2 = 0 := h
      rw [this]; rfl
    | succ q =>
      rw [(half1 h).1, (half1 h).2]
      have : Nat.mod k 2 = q + 1 := h
      rw [this]; rfl
theorem T.get_leaf {α : Type} (n : Nat) : (T.leaf : T α).get n = none := rfl
theorem T.get_node {α : Type} (v : Option α) (l r : T α) (n : Nat) : (T.node v l r).get n = cond (Nat.beq n 0) v (cond (Nat.beq (Nat.mod n 2) 1) (l.get (Nat.div n 2)) (r.get (Nat.sub (Nat.div n 2) 1))) := by
  cases n with
  | zero => rfl
  | succ k =>
    show gB l.get r.get k = cond (Nat.beq (Nat.mod (k + 1) 2) 1) _ _
    unfold gB
    cases h : k % 2 with
    | zero =>
      rw [(half0 h).1, (half0 h).2]
      have : Nat.mod k 2 = 0 := h
      rw [this]; rfl
    | succ q =>
      rw [(half1 h).1, (half1 h).2]
      have : Nat.mod k 2 = q + 1 := h
      rw [this]; rfl
theorem T.setF_leaf {α : Type} (f n : Nat) (x : Option α) : T.setF (f + 1) .leaf n x = cond (Nat.beq n 0) (.node x .leaf .leaf) (cond (Nat.beq (Nat.mod n 2) 1) (.node none (T.setF f .leaf (Nat.div n 2) x) .leaf) (.node none .leaf (T.setF f .leaf (Nat.sub (Nat.div n 2) 1) x))) := sN_eq x (T.setG x f) n none .leaf .leaf
theorem T.setF_node {α : Type} (f n : Nat) (v : Option α) (l r : T α) (x : Option α) : T.setF (f + 1) (.node v l r) n x = cond (Nat.beq n 0) (.node x l r) (cond (Nat.beq (Nat.mod n 2) 1) (.node v (T.setF f l (Nat.div n 2) x) r) (.node v l (T.setF f r (Nat.sub (Nat.div n 2) 1) x))) := sN_eq x (T.setG x f) n v l r
def T.set {α} (t : T α) (n : Nat) (x : α) : T α := T.setF 24 t n (some x)
def T.del {α} (t : T α) (n : Nat) : T α := T.setF 24 t n none

inductive Cells where
  | l (vs : List AV)
  | y (len n : Nat)
  deriving Inhabited

structure Blk where
  e : Nat
  c : Cells
  m : Nat
  es : Nat
  fr : Nat
  st : Bool
  g : Bool
  deriving Inhabited

structure St where
  heap : T Blk
  next : Nat
  acc : Nat
  wr : Nat
  deriving Inhabited

abbrev M (α : Type) := St → Option (α × St)
def ret {α} (a : α) : M α := fun S => some (a, S)
def fail {α} : M α := fun _ => none
def bnd {α β} (m : M α) (f : α → M β) : M β := fun S => match m S with
  | none => none
  | some (a, S') => f a S'
def lft {α} (o : Option α) : M α := fun S => match o with
  | none => none
  | some a => some (a, S)

def bit (v : Nat) : Nat := Nat.shiftLeft 1 v
def rd (v : Nat) : M Blk := fun S => match S.heap.get v with
  | none => none
  | some k => some (k, ⟨S.heap, S.next, Nat.lor S.acc (bit v), S.wr⟩)
def upd (v : Nat) (k : Blk) : M Unit := fun S => cond (Nat.blt v S.next && Nat.ble v 16777213) (some ((), ⟨S.heap.set v k, S.next, Nat.lor S.acc (bit v), Nat.lor S.wr (bit v)⟩)) none
def kill (v : Nat) : M Unit := fun S => cond (Nat.blt v S.next && Nat.ble v 16777213) (some ((), ⟨S.heap.del v, S.next, Nat.lor S.acc (bit v), Nat.lor S.wr (bit v)⟩)) none
def new (k : Blk) : M Nat := fun S => cond (Nat.ble S.next 16777213) (some (S.next, ⟨S.heap.set S.next k, Nat.succ S.next, Nat.lor S.acc (bit S.next), Nat.lor S.wr (bit S.next)⟩)) none

/- numbers -/
def ile : Int → Int → Bool
  | .ofNat a, .ofNat b => Nat.ble a b
  | .negSucc _, .ofNat _ => true
  | .ofNat _, .negSucc _ => false
  | .negSucc a, .negSucc b => Nat.ble b a
def ilt (a b : Int) : Bool := !(ile b a)
def ieq : Int → Int → Bool
  | .ofNat a, .ofNat b => Nat.beq a b
  | .negSucc a, .negSucc b => Nat.beq a b
  | _, _ => false
def kEq : IntKind → IntKind → Bool
  | .i64, .i64 => true
  | .u8, .u8 => true
  | .u16, .u16 => true
  | .u32, .u32 => true
  | .u64, .u64 => true
  | .i32, .i32 => true
  | .i8, .i8 => true
  | .i16, .i16 => true
  | _, _ => false
def fits : IntKind → Int → Bool
  | .i64, .ofNat a => Nat.ble a 9223372036854775807
  | .i64, .negSucc a => Nat.ble a 9223372036854775807
  | .u8, .ofNat a => Nat.ble a 255
  | .u16, .ofNat a => Nat.ble a 65535
  | .u32, .ofNat a => Nat.ble a 4294967295
  | .u64, .ofNat a => Nat.ble a 18446744073709551615
  | .i32, .ofNat a => Nat.ble a 2147483647
  | .i32, .negSucc a => Nat.ble a 2147483647
  | _, _ => false
def wrp (k : IntKind) (n : Int) : Int := cond (fits k n) n (k.wrap n)
def tn (k : IntKind) (x : Int) : Nat := match x with
  | .ofNat n => cond (fits k (.ofNat n)) n ((x % (2 ^ k.bits : Int)).toNat)
  | _ => (x % (2 ^ k.bits : Int)).toNat
def mkI (k : IntKind) (n : Int) : AV := .i k (wrp k n)

/- cells -/
def byteAt (n j : Nat) : Nat := Nat.mod (Nat.shiftRight n (Nat.mul 8 j)) 256
def unp (len n : Nat) : List AV := (List.range len).map fun j => AV.i .u8 (.ofNat (byteAt n j))
def Cells.toL : Cells → List AV
  | .l vs => vs
  | .y len n => unp len n
def Cells.len : Cells → Nat
  | .l vs => vs.length
  | .y len _ => len
def lget : List AV → Nat → Option AV
  | [], _ => none
  | a :: r, n => cond (Nat.beq n 0) (some a) (lget r (Nat.sub n 1))
def Cells.get (c : Cells) (j : Nat) : Option AV := match c with
  | .l vs => lget vs j
  | .y len n => cond (Nat.blt j len) (some (.i .u8 (.ofNat (byteAt n j)))) none
def low (n len : Nat) : Nat := Nat.mod n (Nat.shiftLeft 1 (Nat.mul 8 len))
/-- n cells from off on; all must be there -/
def Cells.sub (c : Cells) (off n : Nat) : Option Cells := match c with
  | .l vs => cond (Nat.ble (Nat.add off n) vs.length) (some (.l ((vs.drop off).take n))) none
  | .y len m => cond (Nat.ble (Nat.add off n) len) (some (.y n (low (Nat.shiftRight m (Nat.mul 8 off)) n))) none
def putL : List AV → Nat → List AV → List AV
  | vs, 0, d => d ++ vs.drop d.length
  | [], _ + 1, d => d
  | v :: vs, n + 1, d => v :: putL vs n d
/-- d laid over from off on; off must not be behind the end; what is longer is made so -/
def Cells.put (c : Cells) (off : Nat) (d : Cells) : Option Cells := match c, d with
  | .y len n, .y k m => cond (Nat.ble off len)
      (some (.y (max len (Nat.add off k)) (Nat.add (low n off) (Nat.add (Nat.shiftLeft m (Nat.mul 8 off)) (Nat.shiftLeft (Nat.shiftRight n (Nat.mul 8 (Nat.add off k))) (Nat.mul 8 (Nat.add off k))))))) none
  | c, d => cond (Nat.ble off c.len) (some (.l (putL c.toL off d.toL))) none
def Cells.app (c d : Cells) : Cells := match c, d with
  | .y len n, .y k m => .y (Nat.add len k) (Nat.add n (Nat.shiftLeft m (Nat.mul 8 len)))
  | c, d => .l (c.toL ++ d.toL)
def scal : AV → Bool
  | .und | .ag _ | .tu _ => false
  | _ => true
/-- a value's cells; none where it isn't known -/
def cellsOf : AV → Option (List AV)
  | .und => none
  | .tu _ => none
  | .ag l => some l
  | v => some [v]
def byteOne : AV → Option Nat
  | .i .u8 (.ofNat n) => cond (Nat.blt n 256) (some n) none
  | _ => none
/-- the cells of a value laid into a block whose cells are c -/
def Cells.set1 (c : Cells) (off : Nat) (v : AV) : Option Cells := match c with
  | .y len n => match byteOne v with
    | some x => cond (Nat.blt off len) (some (.y len (Nat.add (low n off) (Nat.add (Nat.shiftLeft x (Nat.mul 8 off)) (Nat.shiftLeft (Nat.shiftRight n (Nat.mul 8 (Nat.succ off))) (Nat.mul 8 (Nat.succ off))))))) none
    | none => none
  | .l vs => cond (Nat.blt off vs.length) (some (.l (putL vs off [v]))) none
def rep (c : Cells) : Nat → Cells
  | 0 => match c with | .y _ _ => .y 0 0 | .l _ => .l []
  | n + 1 => c.app (rep c n)
def reps (c : Cells) (n : Nat) : Cells := match c with
  | .y len 0 => .y (Nat.mul len n) 0
  | c => rep c n

/- types and functions, told by tables -/
inductive K where
  | bool | int (k : IntKind) | str | slice (e : Nat) | arr (n e : Nat) | struct | ptr (e : Nat) | iface (empty : Bool) | uptr | func | other | bad
  deriving Inhabited
structure Fl where
  off : Nat
  t : Nat
  sz : Nat
  agg : Bool
  bad : Bool
  nm : Bool     -- is its name not '_'
  deriving Inhabited
structure TI where
  k : K
  size : Nat
  bytes : Nat
  zero : Option AV
  zc : Cells
  fs : List Fl
  cmp : Bool
  eqs : Bool
  zs : Bool
  deriving Inhabited
structure FI where
  body : Option Code
  ntmps : Nat
  res : List ResultVar
  ext : Nat
  sum : Option AV
  deriving Inhabited
inductive HK where
  | bin (o : BinOp) (x y : AV)
  | conv (t : Nat) (x : AV)
  | un (o : UnOp) (x : AV)
  | idx (x y : AV)
  | len (x : AV)
  | sub (x lo hi : AV)
  | bytes (l : List AV)
  | eq (t : Nat) (x y : AV)
def same : AV → AV → Bool
  | .x a, .x b => Nat.beq a b
  | .i k a, .i l b => k == l && ieq a b
  | .b a, .b b => a == b
  | .s k a, .s l b => Nat.beq k l && Nat.beq a b
  | _, _ => false
def sameL : List AV → List AV → Bool
  | [], [] => true
  | a :: l, b :: m => same a b && sameL l m
  | _, _ => false
def HK.same : HK → HK → Bool
  | .bin o x y, .bin p u v => o == p && AX.same x u && AX.same y v
  | .conv t x, .conv u y => Nat.beq t u && AX.same x y
  | .un o x, .un p y => o == p && AX.same x y
  | .idx x y, .idx u v => AX.same x u && AX.same y v
  | .len x, .len y => AX.same x y
  | .sub x l h, .sub y m i => AX.same x y && AX.same l m && AX.same h i
  | .bytes l, .bytes m => sameL l m
  | .eq t x y, .eq u v w => Nat.beq t u && AX.same x v && AX.same y w
  | _, _ => false
def hl : List (HK × AV) → HK → Option AV
  | [], _ => none
  | (a, r) :: l, k => cond (a.same k) (some r) (hl l k)
structure Tab where
  ng : Nat
  hyp : List (HK × AV)
  u8 : Nat
  ty : T TI
  fn : T FI
  imp : List (Nat × Nat × Bool)       -- interface type, dynamic type: does it implement it
  met : List (Nat × String × Nat × Bool)     -- dynamic type, method: the function; the receiver is the value itself, or (true) its first field
  rty : Nat
  kd : List (Nat × Nat)                       -- of a type reflectlite's kind
  el : List (Nat × Nat)                       -- of a type what it points to
  asg : List (Nat × Nat × Bool)               -- is the second one assignable to the first
  im2 : List (Nat × Nat × Bool)               -- does the second one implement the first
  deriving Inhabited

def impl : List (Nat × Nat × Bool) → Nat → Nat → Option Bool
  | [], _, _ => none
  | (a, b, r) :: l, x, y => cond (Nat.beq a x && Nat.beq b y) (some r) (impl l x y)
def methd : List (Nat × String × Nat × Bool) → Nat → String → Option (Nat × Bool)
  | [], _, _ => none
  | (a, b, r) :: l, x, y => cond (Nat.beq a x && b == y) (some r) (methd l x y)
def recv (d : Bool) (v : AV) : Option AV := cond d (match v with | .ag [x] => some x | _ => none) (some v)

def isAgg : K → Bool
  | .struct | .arr .. => true
  | _ => false
def isIf : K → Bool
  | .iface _ => true
  | _ => false
def isBad : K → Bool
  | .bad => true
  | _ => false

def packL : List UInt8 → Nat
  | [] => 0
  | a :: l => Nat.add a.toNat (Nat.mul 256 (packL l))
def ofV : Value → AV
  | .bool b => .b b
  | .int k n => .i k n
  | .string s => .s s.data.toList.length (packL s.data.toList)
  | .pointer none => .nilp
  | .slice none 0 0 => .nils
  | .nilIface => .ni
  | .nilFunc => .nilf
  | .func (.func f) ⟨[]⟩ ⟨[]⟩ => .fn f [] []
  | .tuple ⟨[]⟩ => .tu []
  | _ => .und

def packA : List AV → Option (Nat × Nat)
  | [] => some (0, 0)
  | v :: l => match byteOne v, packA l with
    | some x, some (k, n) => some (Nat.succ k, Nat.add x (Nat.mul 256 n))
    | _, _ => none
def toCells (u8 : Bool) (l : List AV) : Cells := cond u8 (match packA l with
  | some (k, n) => .y k n
  | none => .l l) (.l l)

def kOf (p : Program) (t : Nat) : K := match p.underlying t with
  | some .bool => .bool
  | some (.int k) => .int k
  | some .string => .str
  | some (.slice e) => .slice e
  | some (.array n e) => .arr n e
  | some (.struct fs) => cond (fs.toList.all fun f => (p.info? f.type).isSome) .struct .bad
  | some (.pointer e) => .ptr e
  | some (.interface ms) => .iface ms.isEmpty
  | some .unsafePointer => .uptr
  | some (.func ..) => .func
  | some _ => .other
  | none => .bad
def avZ (v : Value) : AV := match v with
  | .agg cs => .ag (cs.toList.map ofV)
  | v => ofV v
def fldsOf (p : Program) (t : Nat) : List Field := match p.underlying t with
  | some (.struct fs) => fs.toList
  | _ => []
def mkFl (p : Program) (f : Field) : Fl := ⟨f.offset, f.type, p.cellsOf f.type, isAgg (kOf p f.type), isBad (kOf p f.type), f.name != "_"⟩
def oneC : Value → Bool
  | .agg _ | .tuple _ => false
  | _ => true
def isU8K : K → Bool
  | .int .u8 => true
  | _ => false
def u8ish (p : Program) (t : Nat) : Bool := match kOf p t with
  | .arr _ e => isU8K (kOf p e)
  | k => isU8K k
def zlist (i : TypeInfo) : List AV := match i.zero with
  | some v => v.cells.toList.map ofV
  | none => []
def zsOf (i : TypeInfo) : Bool := match i.zero with
  | some v => v.cells.toList.all oneC && Nat.beq v.cells.toList.length i.size
  | none => false
def eqsOf (p : Program) (t : Nat) : Bool := match kOf p t with
  | .struct => !p.stoodInHeld t && !p.eqGuardType p.depth t
  | _ => false
def mkTI (p : Program) (t : Nat) (i : TypeInfo) : TI :=
  { k := kOf p t, size := i.size, bytes := i.bytes, zero := i.zero.map avZ,
    zc := toCells (u8ish p t) (zlist i),
    fs := (fldsOf p t).map (mkFl p), cmp := i.comparable, eqs := eqsOf p t, zs := zsOf i }
def op (ng : Nat) (tm : T AV) : Operand → AV
  | .tmp t => match tm.get t with | some v => v | none => .und
  | .const v => ofV v
  | .global g => cond (Nat.blt g ng) (.p g 0) .und
  | .func f => .fn f [] []

def asN : AV → Option Nat
  | .i _ (.ofNat n) => some n
  | _ => none
def asNo (f : Operand → AV) (o : Option Operand) (d : Nat) : Option Nat := match o with
  | none => some d
  | some o => asN (f o)

/- equality, by the type -/
def ptrEq (a c : Nat) (o u : Nat) : M Bool := cond (Nat.beq a c) (ret (Nat.beq o u)) fail
def lsub (l : List AV) (off n : Nat) : Option (List AV) := cond (Nat.ble (Nat.add off n) l.length) (some ((l.drop off).take n)) none
def part (l : List AV) (f : Fl) : Option AV := cond f.bad none <| cond f.agg ((lsub l f.off f.sz).map .ag) (lget l f.off)
def eqF (eq : Nat → AV → AV → M Bool) (l m : List AV) : List Fl → M Bool
  | [] => ret true
  | f :: fs => cond f.nm
      (bnd (lft (part l f)) fun x => bnd (lft (part m f)) fun y => bnd (eq f.t x y) fun r => cond r (eqF eq l m fs) (ret false))
      (eqF eq l m fs)
def hypB (tb : Tab) (k : HK) : M Bool := match hl tb.hyp k with
  | some (.b r) => ret r
  | _ => fail
def eqT (tb : Tab) : Nat → Nat → AV → AV → M Bool
  | 0, _, _, _ => fail
  | d + 1, t, x, y => bnd (lft (tb.ty.get t)) fun ti =>
    match ti.k, x, y with
    | .bool, .b a, .b c => ret (a == c)
    | .int _, .i k a, .i l c => cond (kEq k l) (ret (ieq a c)) fail
    | .str, .s k a, .s l c => ret (Nat.beq k l && Nat.beq a c)
    | .int _, .x a, y => hypB tb (.eq t (.x a) y)
    | .int _, .i k a, .x c => hypB tb (.eq t (.i k a) (.x c))
    | .str, .x a, y => hypB tb (.eq t (.x a) y)
    | .str, .s k a, .x c => hypB tb (.eq t (.s k a) (.x c))
    | .ptr _, .nilp, .nilp => ret true
    | .ptr _, .nilp, .p _ _ => ret false
    | .ptr _, .p _ _, .nilp => ret false
    | .ptr e, .p a o, .p c u => bnd (lft (tb.ty.get e)) fun te => cond (Nat.beq te.size 0) fail (ptrEq a c o u)
    | .ptr e, .h a, .h c => bnd (lft (tb.ty.get e)) fun te => cond (Nat.beq te.size 0) fail (ret (Nat.beq a c))
    | .iface _, .ni, .ifc _ _ => ret false
    | .iface _, .ifc _ _, .ni => ret false
    | .iface _, .ifc a v, .ifc c w => cond (Nat.beq a c) (bnd (lft (tb.ty.get a)) fun ta => cond ta.cmp (eqT tb d a v w) fail) (ret false)
    | .struct, .ag l, .ag m => cond ti.eqs (eqF (eqT tb d) l m ti.fs) fail
    | .slice _, .nils, .nils => ret true
    | .slice _, .nils, .sl .. => ret false
    | .slice _, .sl .., .nils => ret false
    | .func, .nilf, .nilf => ret true
    | .func, .nilf, .fn .. => ret false
    | .func, .fn .., .nilf => ret false
    | _, _, _ => fail
def isC : Operand → Bool
  | .const _ => true
  | _ => false
def okE : AV → Bool
  | .und | .i _ _ | .s _ _ | .x _ | .tu _ => false
  | _ => true
def isNi : AV → Bool
  | .ni => true
  | _ => false
def isAg : AV → Bool
  | .ag _ => true
  | _ => false
def eqTop (tb : Tab) (t : Nat) (cx : Bool) (x y : AV) : M Bool :=
  cond (okE x) (cond (isNi x && isNi y) (cond cx (bnd (lft (tb.ty.get t)) fun ti => match ti.k with | .iface _ => ret true | _ => fail) fail) (eqT tb 12 t x y)) fail

def bytesLess : List Nat → List Nat → Bool
  | _, [] => false
  | [], _ :: _ => true
  | a :: x, b :: y => Nat.blt a b || (Nat.beq a b && bytesLess x y)
def strL (len n : Nat) : List Nat := (List.range len).map (byteAt n)
def sless (k a l c : Nat) : Bool := bytesLess (strL k a) (strL l c)

def binI (o : BinOp) (k : IntKind) (a c : Int) : M AV := match o with
  | .add => ret (mkI k (a + c))
  | .sub => ret (mkI k (a - c))
  | .mul => ret (mkI k (a * c))
  | .quo => cond (ieq c 0) fail (ret (mkI k (a.tdiv c)))
  | .rem => cond (ieq c 0) fail (ret (.i k (a.tmod c)))
  | .and => ret (mkI k (.ofNat (Nat.land (tn k a) (tn k c))))
  | .or => ret (mkI k (.ofNat (Nat.lor (tn k a) (tn k c))))
  | .xor => ret (mkI k (.ofNat (Nat.xor (tn k a) (tn k c))))
  | .andNot => ret (mkI k (.ofNat (Nat.land (tn k a) (Nat.sub (2 ^ k.bits - 1) (tn k c)))))
  | .lss => ret (.b (ilt a c))
  | .leq => ret (.b (ile a c))
  | .gtr => ret (.b (ilt c a))
  | .geq => ret (.b (ile c a))
  | .eql => ret (.b (ieq a c))
  | .neq => ret (.b (!(ieq a c)))
  | _ => fail
def bin (tb : Tab) (o : BinOp) (t : Nat) (cx : Bool) (x y : AV) : M AV :=
  match o, x, y with
  | .shl, .i k a, .i _ (.ofNat c) => ret (mkI k (a * 2 ^ (Nat.min c k.bits)))
  | .shr, .i k (.ofNat a), .i _ (.ofNat c) => ret (.i k (.ofNat (Nat.shiftRight a (Nat.min c k.bits))))
  | o, .i k a, .i l c => cond (kEq k l) (binI o k a c) fail
  | .add, .s k a, .s l c => cond (Nat.ble (Nat.add k l) 9223372036854775807) (ret (.s (Nat.add k l) (Nat.add a (Nat.shiftLeft c (Nat.mul 8 k))))) fail
  | .eql, .s k a, .s l c => ret (.b (Nat.beq k l && Nat.beq a c))
  | .neq, .s k a, .s l c => ret (.b (!(Nat.beq k l && Nat.beq a c)))
  | .lss, .s k a, .s l c => ret (.b (sless k a l c))
  | .gtr, .s k a, .s l c => ret (.b (!(sless k a l c || (Nat.beq k l && Nat.beq a c))))
  | .leq, .s k a, .s l c => ret (.b (sless k a l c || (Nat.beq k l && Nat.beq a c)))
  | .geq, .s k a, .s l c => ret (.b (!(sless k a l c)))
  | o, .x a, y => lft (hl tb.hyp (.bin o (.x a) y))
  | o, x, .x c => lft (hl tb.hyp (.bin o x (.x c)))
  | .eql, x, y => bnd (eqTop tb t cx x y) fun r => ret (.b r)
  | .neq, x, y => bnd (eqTop tb t cx x y) fun r => ret (.b (!r))
  | _, _, _ => fail

/- memory -/
def load (tb : Tab) (t : Nat) (x : AV) : M AV := match x with
  | .p v o => bnd (lft (tb.ty.get t)) fun ti => bnd (rd v) fun k =>
      cond (isAgg ti.k) (bnd (lft (k.c.sub o ti.size)) fun c => ret (.ag c.toL)) (cond (isBad ti.k) fail (lft (k.c.get o)))
  | _ => fail
def store (tb : Tab) (t : Nat) (x y : AV) : M Unit := match x with
  | .p v o => bnd (lft (tb.ty.get t)) fun ti => bnd (rd v) fun k => cond (Nat.ble k.fr o)
      (match y with
       | .ag l => cond (Nat.beq l.length ti.size && Nat.ble (Nat.add o ti.size) k.c.len && l.all scal) (bnd (lft (k.c.put o (.l l))) fun c => upd v { k with c }) fail
       | y => cond (scal y && Nat.beq ti.size 1) (bnd (lft (k.c.set1 o y)) fun c => upd v { k with c }) fail) fail
  | _ => fail
def mkBlk (e : Nat) (c : Cells) : Blk := ⟨e, c, 0, 0, 0, false, false⟩
def isU8 (tb : Tab) (t : Nat) : Bool := match tb.ty.get t with
  | some ti => (match ti.k with | .int .u8 => true | _ => false)
  | none => false
def fillC (pl : Nat → Option (Nat × Nat)) (f : Operand → AV) (c : List AV) : List (Nat × Operand) → Option (List AV)
  | [] => some c
  | (i, o) :: r => match pl i, cellsOf (f o) with
    | some (off, sz), some l => cond (Nat.beq l.length sz && Nat.ble (Nat.add off sz) c.length) (fillC pl f (putL c off l) r) none
    | _, _ => none
def fget : List Fl → Nat → Option Fl
  | [], _ => none
  | a :: r, n => cond (Nat.beq n 0) (some a) (fget r (Nat.sub n 1))
def slc (v off len cap : Nat) (rest : Bool) (sz : Nat) (lo hi : Nat) : Option AV :=
  -- hi ≤ cap, where it is known
  cond (Nat.ble lo hi) (cond rest
    (cond (Nat.ble hi len) (some (.sl v (Nat.add off (Nat.mul lo sz)) (Nat.sub hi lo) (Nat.add cap lo) true)) none)
    (cond (Nat.ble hi cap) (some (.sl v (cond (Nat.beq cap lo) off (Nat.add off (Nat.mul lo sz))) (Nat.sub hi lo) (Nat.sub cap lo) false)) none)) none

def slU8 (tb : Tab) : K → Bool
  | .slice e => isU8 tb e
  | _ => false
def isStr : K → Bool
  | .str => true
  | _ => false
def sl2 (f : Operand → AV) (lo hi : Option Operand) (d : Nat) : Option (Nat × Nat) := match asNo f lo 0, asNo f hi d with
  | some a, some b => some (a, b)
  | _, _ => none
def simple (tb : Tab) (f : Operand → AV) (o : Op) : M AV := match o with
  | .move x | .assign x => ret (f x)
  | .pick c a d => match f c with
    | .b true => ret (f a)
    | .b false => ret (f d)
    | _ => fail
  | .alloc e => bnd (lft (tb.ty.get e)) fun ti => match ti.zero with
    | none => fail
    | some _ => cond ti.zs (bnd (new (mkBlk e ti.zc)) fun v => ret (.p v 0)) fail
  | .box e x => bnd (lft (cellsOf (f x))) fun l => cond (l.all scal) (bnd (new (mkBlk e (.l l))) fun v => ret (.p v 0)) fail
  | .build t ps => bnd (lft (tb.ty.get t)) fun ti => match ti.k with
    | .struct => bnd (lft (fillC (fun i => (fget ti.fs i).map fun x => (x.off, x.sz)) f ti.zc.toL ps.toList)) fun l => cond ti.zero.isSome (ret (.ag l)) fail
    | .arr _ e => bnd (lft (tb.ty.get e)) fun te => bnd (lft (fillC (fun i => some (Nat.mul i te.size, te.size)) f ti.zc.toL ps.toList)) fun l => cond ti.zero.isSome (ret (.ag l)) fail
    | _ => fail
  | .buildSlice t n ps => bnd (lft (tb.ty.get t)) fun ti => match ti.k with
    | .slice e => bnd (lft (tb.ty.get e)) fun te => cond (Nat.ble (Nat.mul n te.size) 16777216)
        (bnd (lft (fillC (fun i => some (Nat.mul i te.size, te.size)) f (reps te.zc n).toL ps.toList)) fun l =>
          cond (l.all scal && te.zs) (bnd (new (mkBlk e (toCells (isU8K te.k) l))) fun v => ret (.sl v 0 n n false)) fail) fail
    | _ => fail
  | .load t a => load tb t (f a)
  | .store t a x => bnd (store tb t (f a) (f x)) fun _ => ret .und
  | .nilCheck x => match f x with
    | .p v o => ret (.p v o)
    | .h t => ret (.h t)
    | .ifc t v => ret (.ifc t v)
    | .fn g a c => ret (.fn g a c)
    | _ => fail
  | .binOp o t x y _ => bin tb o t (isC x || isC y) (f x) (f y)
  | .unOp o _ x => match o, f x with
    | .not, .b v => ret (.b (!v))
    | .neg, .i k v => ret (mkI k (-v))
    | o, .x a => lft (hl tb.hyp (.un o (.x a)))
    | _, _ => fail
  | .convert src dst x => bnd (lft (tb.ty.get src)) fun ts => bnd (lft (tb.ty.get dst)) fun td => cond (isBad ts.k) fail <| match td.k, f x with
    | .int k, .i _ n => ret (mkI k n)
    | .int _, .x a => lft (hl tb.hyp (.conv dst (.x a)))
    | .str, .x a => lft (hl tb.hyp (.conv dst (.x a)))
    | .str, .s k n => ret (.s k n)
    | .str, .nils => cond (slU8 tb ts.k) (ret (.s 0 0)) fail
    | .str, .sl v o n _ _ => cond (slU8 tb ts.k) (bnd (rd v) fun k => bnd (lft (k.c.sub o n)) fun c => match c with
        | .y l m => ret (.s l m)
        | .l vs => match packA vs with
          | some r => ret (.s r.1 r.2)
          | none => lft (hl tb.hyp (.bytes vs))) fail
    | .slice e, .s k n => cond (isU8 tb e && isStr ts.k) (bnd (new ⟨e, .y k n, k, 1, 0, true, true⟩) fun v => ret (.sl v 0 k 0 true)) fail
    | .uptr, .p v o => match ts.k with
      | .ptr e => bnd (lft (tb.ty.get e)) fun te => bnd (rd v) fun k => cond (Nat.beq te.size 0 || Nat.ble k.c.len o) fail (ret (.p v o))
      | _ => fail
    | .ptr e, .p v o => match ts.k with
      | .uptr => bnd (lft (tb.ty.get e)) fun te => bnd (rd v) fun k => cond (Nat.beq k.e e && Nat.beq o 0 && !k.g && Nat.ble 1 te.size && Nat.ble te.size k.c.len) (ret (.p v o)) fail
      | _ => fail
    | _, _ => fail
  | .makeInterface t x => bnd (lft (tb.ty.get t)) fun ti => match ti.k with
    | .iface _ => fail
    | .bad => fail
    | _ => ret (.ifc t (f x))
  | .makeFunc fn first cap => match fn with
    | .func g => ret (.fn g (first.toList.map f) (cap.toList.map f))
    | _ => fail
  | .makeSlice t n c => bnd (lft (tb.ty.get t)) fun ti => match ti.k, asN (f n), asN (f c) with
    | .slice e, some n, some c => bnd (lft (tb.ty.get e)) fun te => cond (Nat.ble n c && Nat.ble (Nat.mul te.bytes c) 281474976710656 && Nat.ble c 9223372036854775807 && te.zs)
        (bnd (new (mkBlk e (reps te.zc c))) fun v => ret (.sl v 0 n c false)) fail
    | _, _, _ => fail
  | .slice t x lo hi mx => match mx with
    | some _ => fail
    | none => bnd (lft (tb.ty.get t)) fun ti => match ti.k, f x with
      | .str, .s k n => bnd (lft (sl2 f lo hi k)) fun p => cond (Nat.ble p.1 p.2 && Nat.ble p.2 k) (ret (.s (Nat.sub p.2 p.1) (low (Nat.shiftRight n (Nat.mul 8 p.1)) (Nat.sub p.2 p.1)))) fail
      | .slice e, .sl v o n c r => bnd (lft (sl2 f lo hi n)) fun p => bnd (lft (tb.ty.get e)) fun te => lft (slc v o n c r te.size p.1 p.2)
      | .slice e, .nils => bnd (lft (sl2 f lo hi 0)) fun p => bnd (lft (tb.ty.get e)) fun _ => cond (Nat.beq p.1 0 && Nat.beq p.2 0) (ret .nils) fail
      | .arr n e, .p v o => bnd (lft (sl2 f lo hi n)) fun p => bnd (lft (tb.ty.get e)) fun te => lft (slc v o n n false te.size p.1 p.2)
      | _, _ => fail
  | .fieldAddr t x i => bnd (lft (tb.ty.get t)) fun ti => bnd (lft (fget ti.fs i)) fun fl => match f x with
    | .p v o => cond (Nat.beq fl.sz 0) fail (ret (.p v (Nat.add o fl.off)))
    | _ => fail
  | .field t x i => bnd (lft (tb.ty.get t)) fun ti => bnd (lft (fget ti.fs i)) fun fl => match f x with
    | .ag l => lft (part l fl)
    | _ => fail
  | .indexAddr t x ix => bnd (lft (tb.ty.get t)) fun ti => match ti.k, f x, asN (f ix) with
    | .arr n e, .p v o, some i => cond (Nat.blt i n) (bnd (lft (tb.ty.get e)) fun te => ret (.p v (Nat.add o (Nat.mul i te.size)))) fail
    | .slice e, .sl v o n _ _, some i => cond (Nat.blt i n) (bnd (lft (tb.ty.get e)) fun te => ret (.p v (Nat.add o (Nat.mul i te.size)))) fail
    | _, _, _ => fail
  | .index t x ix => bnd (lft (tb.ty.get t)) fun ti => match ti.k, f x, asN (f ix) with
    | .str, .s k n, some i => cond (Nat.blt i k) (ret (.i .u8 (.ofNat (byteAt n i)))) fail
    | .str, .x a, _ => lft (hl tb.hyp (.idx (.x a) (f ix)))
    | .arr n e, .ag l, some i => cond (Nat.blt i n) (bnd (lft (tb.ty.get e)) fun te => lft (part l ⟨Nat.mul i te.size, e, te.size, isAgg te.k, isBad te.k, true⟩)) fail
    | _, _, _ => fail
  | .typeAssert x _ t ok => match f x with
    | .ifc d v => bnd (lft (tb.ty.get t)) fun ti => cond (isBad ti.k) fail <| cond (isIf ti.k)
      (bnd (lft (impl tb.imp t d)) fun r => cond r (ret (cond ok (.tu [.ifc d v, .b true]) (.ifc d v))) (cond ok (bnd (lft ti.zero) fun z => ret (.tu [z, .b false])) fail))
      (cond (Nat.beq d t) (ret (cond ok (.tu [v, .b true]) v)) (cond ok (bnd (lft ti.zero) fun z => ret (.tu [z, .b false])) fail))
    | .ni => cond ok (bnd (lft (tb.ty.get t)) fun ti => cond (isBad ti.k) fail (bnd (lft ti.zero) fun z => ret (.tu [z, .b false]))) fail
    | _ => fail
  | .extract x k => match f x with
    | .tu l => lft (lget l k)
    | _ => fail
  | _ => fail

def avLen : AV → Option Nat
  | .s k _ => some k
  | .nils => some 0
  | .sl _ _ n _ _ => some n
  | _ => none
/-- the cells of what is appended, or copied -/
def src (sz : Nat) (x : AV) : M Cells := match x with
  | .s k n => cond (Nat.beq sz 1) (ret (.y k n)) fail
  | .nils => ret (.l [])
  | .sl v o n _ _ => bnd (rd v) fun k => lft (k.c.sub o (Nat.mul n sz))
  | _ => fail
def grow (e sz : Nat) (old d : Cells) (n : Nat) : M AV := bnd (new ⟨e, old.app d, Nat.mul n sz, sz, 0, false, true⟩) fun v => ret (.sl v 0 n 0 true)
def emptyLike : Cells → Cells
  | .y _ _ => .y 0 0
  | .l _ => .l []
def big (bytes n : Nat) : Bool := Nat.blt 140737488355328 (Nat.mul bytes n) || Nat.blt 140737488355328 n
def appd (e sz bytes : Nat) (s : AV) (n : Nat) (d : Cells) : M AV := cond (Nat.beq sz 0) fail (match s with
  | .nils => cond (Nat.beq n 0) (ret .nils) (cond (big bytes n) fail (grow e sz (emptyLike d) d n))
  | .sl v o len cap r => cond (Nat.beq n 0) (ret (.sl v o len cap r)) <| bnd (rd v) fun k =>
      let need := Nat.add len n
      let at_ := Nat.add o (Nat.mul len sz)
      cond (big bytes need) fail <|
      cond r
        (cond (k.g && Nat.beq k.es sz && Nat.beq o (Nat.mul cap sz) && Nat.ble k.fr at_)
          (cond (Nat.ble (Nat.mul (Nat.add cap need) sz) k.m)
            (bnd (lft (k.c.put at_ d)) fun c => bnd (upd v { k with c }) fun _ => ret (.sl v o need cap true))
            (bnd (lft (k.c.sub o (Nat.mul len sz))) fun old => bnd (kill v) fun _ => bnd (new ⟨k.e, old.app d, Nat.mul need sz, sz, Nat.sub k.fr o, k.st, true⟩) fun v' => cond (Nat.beq k.e e) (ret (.sl v' 0 need 0 true)) fail))
          fail)
        (cond (Nat.ble need cap)
          (cond (Nat.ble k.fr at_ && Nat.ble (Nat.add at_ (Nat.mul n sz)) k.c.len && !k.g) (bnd (lft (k.c.put at_ d)) fun c => bnd (upd v { k with c }) fun _ => ret (.sl v o need cap false)) fail)
          (bnd (lft (k.c.sub o (Nat.mul len sz))) fun old => grow e sz old d need))
  | _ => fail)
def lenK (tb : Tab) (k : K) (x : AV) : M AV := match k, x with
  | .str, .s k _ => ret (.i .i64 (.ofNat k))
  | .str, .x a => lft (hl tb.hyp (.len (.x a)))
  | .slice _, .nils => ret (.i .i64 (.ofNat 0))
  | .slice _, .sl _ _ n _ _ => ret (.i .i64 (.ofNat n))
  | .arr n _, _ => ret (.i .i64 (.ofNat n))
  | _, _ => fail
def capK (k : K) (x : AV) : M AV := match k, x with
  | .slice _, .nils => ret (.i .i64 (.ofNat 0))
  | .slice _, .sl _ _ _ c false => ret (.i .i64 (.ofNat c))
  | _, _ => fail
def isInt : K → Bool
  | .int _ => true
  | _ => false
def appK (tb : Tab) (st xt : Nat) (s x : AV) : M AV := bnd (lft (tb.ty.get st)) fun ti => match ti.k with
  | .slice e => bnd (lft (tb.ty.get e)) fun te => bnd (lft (tb.ty.get xt)) fun tx => cond (isBad tx.k || !te.zs) fail <|
      cond (isInt tx.k) (bnd (lft (asN x)) fun n => cond (big te.bytes n) fail (appd e te.size te.bytes s n (reps te.zc n)))
        (bnd (lft (avLen x)) fun n => bnd (src te.size x) fun d => appd e te.size te.bytes s n d)
  | _ => fail
def copyK (tb : Tab) (st : Nat) (d x : AV) : M AV := bnd (lft (tb.ty.get st)) fun ti => match ti.k with
  | .slice e => bnd (lft (tb.ty.get e)) fun te => bnd (lft (avLen x)) fun n => match d with
    | .nils => ret (.i .i64 (.ofNat 0))
    | .sl v o len _ _ =>
      let m := Nat.min n len
      bnd (src te.size x) fun c => bnd (lft (c.sub 0 (Nat.mul m te.size))) fun c => bnd (rd v) fun k =>
        cond (Nat.ble k.fr o && Nat.ble (Nat.add o (Nat.mul m te.size)) k.c.len) (bnd (lft (k.c.put o c)) fun c' => bnd (upd v { k with c := c' }) fun _ => ret (.i .i64 (.ofNat m))) fail
    | _ => fail
  | _ => fail
def dataK (x : AV) : M AV := match x with
  | .nils => ret .nilp
  | .sl v o _ c false => cond (Nat.beq c 0) fail (ret (.p v o))
  | .sl v o n c true => cond (Nat.beq n 0) (bnd (rd v) fun k => cond (k.g && Nat.blt (Nat.mul c k.es) k.m) (ret (.p v o)) fail) (ret (.p v o))
  | _ => fail
def ustrK (tb : Tab) (pt : Nat) (x n : AV) : M AV := match x, asN n with
  | .nilp, some 0 => ret (.s 0 0)
  | .p v o, some n => cond (Nat.beq n 0) (ret (.s 0 0)) (bnd (lft (tb.ty.get pt)) fun tp => match tp.k with
    | .ptr e => bnd (rd v) fun k => bnd (lft (tb.ty.get k.e)) fun te => cond (isU8 tb e && isU8K te.k && Nat.beq te.size 1 && !k.st && Nat.ble n 140737488355328) (bnd (lft (k.c.sub o n)) fun c => match c with
        | .y l m => bnd (upd v { k with fr := max k.fr (Nat.add o n) }) fun _ => ret (.s l m)
        | .l vs => bnd (lft (packA vs)) fun r => bnd (upd v { k with fr := max k.fr (Nat.add o n) }) fun _ => ret (.s r.1 r.2)) fail
    | _ => fail)
  | _, _ => fail
def max2 (x y : AV) : Option AV := match x, y with
  | .i k a, .i _ c => some (.i k (cond (ilt a c) c a))
  | _, _ => none
def min2 (x y : AV) : Option AV := match x, y with
  | .i k a, .i _ c => some (.i k (cond (ilt c a) c a))
  | _, _ => none
def foldA (f : AV → AV → Option AV) : AV → List AV → Option AV
  | x, [] => some x
  | x, y :: l => match f x y with
    | some z => foldA f z l
    | none => none
def builtin (tb : Tab) (bi : Builtin) (ts : List Nat) (args : List AV) : M AV := match bi, ts, args with
  | .len, t :: _, [x] => bnd (lft (tb.ty.get t)) fun ti => lenK tb ti.k x
  | .cap, t :: _, [x] => bnd (lft (tb.ty.get t)) fun ti => capK ti.k x
  | .max, _, x :: l => lft (foldA max2 x l)
  | .min, _, x :: l => lft (foldA min2 x l)
  | .append, st :: xt :: _, [s, x] => appK tb st xt s x
  | .copy, st :: _, [d, x] => copyK tb st d x
  | .unsafeSliceData, _, [x] => dataK x
  | .unsafeString, pt :: _, [x, n] => ustrK tb pt x n
  | _, _, _ => fail

/- functions without a body, by a number -/
def findByte : Nat → Nat → Nat → Nat → Option Nat
  | 0, _, _, _ => none
  | f + 1, n, c, j => cond (Nat.beq (Nat.mod n 256) c) (some j) (findByte f (Nat.shiftRight n 8) c (Nat.succ j))
def bytesN (x : AV) : M (Nat × Nat) := match x with
  | .s k n => ret (k, n)
  | .nils => ret (0, 0)
  | .sl v o n _ _ => bnd (rd v) fun k => bnd (lft (k.c.sub o n)) fun c => match c with
    | .y l m => ret (l, m)
    | .l vs => lft (packA vs)
  | _ => fail
def cntByte : Nat → Nat → Nat → Nat
  | 0, _, _ => 0
  | f + 1, n, c => cond (Nat.beq (Nat.mod n 256) c) (Nat.succ (cntByte f (Nat.shiftRight n 8) c)) (cntByte f (Nat.shiftRight n 8) c)
def assocN : List (Nat × Nat) → Nat → Option Nat
  | [], _ => none
  | (a, r) :: l, x => cond (Nat.beq a x) (some r) (assocN l x)
/- reflectlite's Value, rtype, Type -/
def rvL : List AV → Option (Nat × Nat × Nat × Nat)
  | [.h t, .p b o, .i .u64 (.ofNat f)] => some (t, b, o, f)
  | _ => none
def rv : AV → Option (Nat × Nat × Nat × Nat)
  | .ag l => rvL l
  | _ => none
def rhL : List AV → Option Nat
  | [.h t] => some t
  | _ => none
def rh : AV → Option Nat
  | .ag l => rhL l
  | _ => none
def rti : AV → Option Nat
  | .ifc _ v => rh v
  | _ => none
def x7 (tb : Tab) (x : AV) : M AV := match x with
  | .ifc t v => bnd (lft (assocN tb.kd t)) fun k => bnd (lft (cellsOf v)) fun l => cond (l.all scal) (bnd (new (mkBlk t (.l l))) fun b => ret (.ag [.h t, .p b 0, .i .u64 (.ofNat (Nat.add k 128))])) fail
  | _ => fail
def x8 (tb : Tab) (x : AV) : M AV := bnd (lft (rv x)) fun r => cond (Nat.beq r.2.2.2 0) fail (ret (.ifc tb.rty (.ag [.h r.1])))
def nilQ : AV → M AV
  | .nilp => ret (.b true)
  | .p _ _ => ret (.b false)
  | _ => fail
def x9 (tb : Tab) (x : AV) : M AV := bnd (lft (rv x)) fun r => bnd (lft (assocN tb.el r.1)) fun _ => cond (Nat.beq (Nat.mod r.2.2.2 32) 22) (bnd (load tb r.1 (.p r.2.1 r.2.2.1)) nilQ) fail
def x10 (tb : Tab) (x : AV) : M AV := match x with
  | .h t => bnd (lft (assocN tb.kd t)) fun k => ret (.i .u8 (.ofNat k))
  | _ => fail
def x11 (tb : Tab) (x : AV) : M AV := bnd (lft (rh x)) fun t => bnd (lft (assocN tb.el t)) fun e => ret (.ifc tb.rty (.ag [.h e]))
def x12 (tb : Tab) (x y : AV) : M AV := bnd (lft (rh x)) fun t => bnd (lft (rti y)) fun u => bnd (lft (impl tb.im2 u t)) fun r => ret (.b r)
def x13 (tb : Tab) (x y : AV) : M AV := bnd (lft (rh x)) fun t => bnd (lft (rti y)) fun u => bnd (lft (impl tb.asg u t)) fun r => ret (.b r)
def x14b (tb : Tab) (t : Nat) : AV → M AV
  | .p b o => bnd (lft (assocN tb.el t)) fun e => bnd (lft (assocN tb.kd e)) fun k => ret (.ag [.h e, .p b o, .i .u64 (.ofNat (Nat.add k 384))])
  | _ => fail
def x14 (tb : Tab) (x : AV) : M AV := bnd (lft (rv x)) fun r => bnd (lft (assocN tb.el r.1)) fun _ => cond (Nat.beq (Nat.mod r.2.2.2 32) 22) (bnd (load tb r.1 (.p r.2.1 r.2.2.1)) (x14b tb r.1)) fail
def x15 (tb : Tab) (x y : AV) : M AV := bnd (lft (rv x)) fun r => bnd (lft (rv y)) fun q => bnd (lft (assocN tb.kd r.1)) fun _ => cond (Nat.beq r.1 q.1 && (Nat.beq (Nat.mod (Nat.div r.2.2.2 256) 2) 1 && !(Nat.beq q.2.2.2 0)))
  (bnd (load tb q.1 (.p q.2.1 q.2.2.1)) fun v => bnd (store tb r.1 (.p r.2.1 r.2.2.1) v) fun _ => ret (.tu [])) fail
def byQ (f : Nat → AV) (y : AV) : M AV := match y with
  | .i .u8 (.ofNat c) => cond (Nat.blt c 256) (ret (f c)) fail
  | _ => fail
def idxAV : Option Nat → AV
  | some j => .i .i64 (.ofNat j)
  | none => .i .i64 (-1)
def x3 (x y : AV) : M AV := match x with
  | .s k n => byQ (fun c => idxAV (findByte k n c 0)) y
  | _ => fail
def x4 (x y : AV) : M AV := match x with
  | .s k n => byQ (fun c => .i .i64 (.ofNat (cntByte k n c))) y
  | _ => fail
def ext (tb : Tab) (e : Nat) (args : List AV) : M AV := match e, args with
  | 1, [x] => ret x                                            -- abi.NoEscape
  | 2, [.i .i64 (.ofNat n)] => cond (Nat.ble n 140737488355328) (bnd (new ⟨tb.u8, .y 0 0, n, 1, 0, false, true⟩) fun v => ret (.sl v 0 n 0 true)) fail
  | 3, [x, y] => x3 x y     -- bytealg.IndexByteString
  | 4, [x, y] => x4 x y     -- bytealg.CountString
  | 5, [x] => match x with     -- reflectlite.TypeOf
    | .ifc t _ => ret (.ifc tb.rty (.ag [.h t]))
    | _ => fail
  | 6, [.ag [.h t]] => bnd (lft (tb.ty.get t)) fun ti => ret (.b ti.cmp)   -- rtype.Comparable
  | 7, [x] => x7 tb x       -- reflectlite.ValueOf
  | 8, [x] => x8 tb x       -- Value.Type
  | 9, [x] => x9 tb x       -- Value.IsNil
  | 10, [x] => x10 tb x     -- abi.Type.Kind
  | 11, [x] => x11 tb x     -- rtype.Elem
  | 12, [x, y] => x12 tb x y     -- rtype.Implements
  | 13, [x, y] => x13 tb x y     -- rtype.AssignableTo
  | 14, [x] => x14 tb x     -- Value.Elem
  | 15, [x, y] => x15 tb x y     -- Value.Set
  | _, _ => fail

inductive Ex where
  | normal | exit (id : Nat) | goto (l : Nat) | ret
  deriving Inhabited

structure Rec where
  idx : Nat
  acc : Nat
  wr : Nat
def clash (x y : Rec) : Bool := !(Nat.beq (Nat.lor (Nat.land x.wr y.acc) (Nat.land y.wr x.acc)) 0)
def anyClash : List Rec → Bool
  | [] => false
  | x :: l => l.any (clash x) || anyClash l
def bindsL (e : Edge) : Bool := match e.ground with
  | .textOnly _ => false
  | .gcOnly _ => false
  | _ => true
def maskOf (t : T Nat) (i : Nat) : Nat := match t.get i with
  | some m => m
  | none => 0
def ancE (t : T Nat) : List Edge → Nat → Nat
  | [], s => s
  | e :: l, s => ancE t l (cond (bindsL e) (Nat.lor (Nat.lor s (bit e.on)) (maskOf t e.on)) s)
/-- of each operation those that stand ahead of it in whatever order, as a mask -/
def anc : List Oper → Nat → T Nat → T Nat
  | [], _, t => t
  | o :: r, i, t => anc r (Nat.succ i) (t.set i (ancE t o.after.toList 0))
/-- the list stands last operation first -/
def orderOk (t : T Nat) : List Rec → Bool
  | [] => true
  | y :: l => l.all (fun x => !(clash x y) || Nat.testBit (maskOf t y.idx) x.idx) && orderOk t l
def tmpsOf : List Operand → List Nat
  | [] => []
  | .tmp t :: l => t :: tmpsOf l
  | _ :: l => tmpsOf l
def looks (all : List Oper) (o : Oper) : List Nat := match o.guard with
  | none => tmpsOf o.op.operands.toList
  | some (g, _) => match all[g]? with
    | some o' => (match o'.dst with | some d => d :: tmpsOf o.op.operands.toList | none => tmpsOf o.op.operands.toList)
    | none => tmpsOf o.op.operands.toList
def hasN : List Nat → Nat → Bool
  | [], _ => false
  | a :: l, n => Nat.beq a n || hasN l n
def apartO (all : List Oper) (x y : Oper) : Bool :=
  (match x.dst with
   | some d => !(hasN (looks all y) d) && (match y.dst with | some e => !(Nat.beq d e) | none => true)
   | none => true) &&
  (match y.dst with
   | some d => !(hasN (looks all x) d)
   | none => true)
def pairsOk (all : List Oper) (m : Nat) (o : Oper) : List Oper → Nat → Nat → Bool
  | _, _, 0 => true
  | [], _, _ => true
  | x :: l, j, n + 1 => (Nat.testBit m j || apartO all x o) && pairsOk all m o l (Nat.succ j) n
def regRow (all : List Oper) (t : T Nat) : List Oper → Nat → Bool
  | [], _ => true
  | o :: l, i => o.after.toList.all (fun e => !(bindsL e) || Nat.blt e.on i) && pairsOk all (maskOf t i) o all 0 i && regRow all t l (Nat.succ i)
def regOk (ops : List Oper) : Bool := Nat.ble ops.length 16777213 && regRow ops (anc ops 0 .leaf) ops 0
def codeOk : Code → Bool
  | .region _ ops draw => !draw || regOk ops.toList
  | .seq a b => codeOk a && codeOk b
  | .cond _ a b => codeOk a && codeOk b
  | .block _ c => codeOk c
  | .loop c => codeOk c
  | _ => true

structure Env where
  tm : T AV
  nt : Nat
def Env.put (E : Env) (d : Option Tmp) (v : AV) : Option Env := Option.rec (motive := fun _ => Option Env) (some E) (fun d => Env.rec (motive := fun _ => Option Env) (fun tm nt => Bool.rec (motive := fun _ => Option Env) none (some ⟨tm.set d v, nt⟩) (Nat.blt d nt)) E) d
theorem Env.put_none (E : Env) (v : AV) : E.put none v = some E := rfl
theorem Env.put_some (E : Env) (d : Tmp) (v : AV) : E.put (some d) v = cond (Nat.blt d E.nt) (some ⟨E.tm.set d v, E.nt⟩) none := by
  show Bool.rec (motive := fun _ => Option Env) none (some ⟨E.tm.set d v, E.nt⟩) (Nat.blt d E.nt) = _
  cases Nat.blt d E.nt <;> rfl
def wanted (all : List Oper) (E : Env) (o : Oper) : Option Bool := match o.guard with
  | none => some true
  | some (j, want) => match all[j]? with
    | some o' => match o'.dst with
      | some d => match E.tm.get d with
        | some (.b x) => some (x == want)
        | some .und => none
        | some (.x _) => none
        | some _ => some false
        | none => none
      | none => some false
    | none => some false

def args0 : List AV → Nat → T AV → T AV
  | [], _, t => t
  | v :: l, n, t => args0 l (Nat.succ n) (t.set n v)

def resList (tb : Tab) : List ResultVar → Env → M (List AV)
  | [], _ => ret []
  | .tmp t :: l, E => bnd (resList tb l E) fun vs => ret (op tb.ng E.tm (.tmp t) :: vs)
  | .cell a t :: l, E => bnd (load tb t (op tb.ng E.tm (.tmp a))) fun v => bnd (resList tb l E) fun vs => ret (v :: vs)
def results (tb : Tab) : List ResultVar → Env → M AV
  | [.tmp t], E => ret (op tb.ng E.tm (.tmp t))
  | [.cell a t], E => load tb t (op tb.ng E.tm (.tmp a))
  | l, E => bnd (resList tb l E) fun vs => ret (.tu vs)
/-- run with its own touches alone, which are told -/
def ownRun {α} (m : M α) : M (α × Nat × Nat) := fun S => match m ⟨S.heap, S.next, 0, 0⟩ with
  | none => none
  | some (v, S') => some ((v, S'.acc, S'.wr), ⟨S'.heap, S'.next, Nat.lor S.acc S'.acc, Nat.lor S.wr S'.wr⟩)
mutual
def code (tb : Tab) : Nat → Code → Env → M (Ex × Env)
  | 0, _, _ => fail
  | f + 1, c, E => match c with
    | .skip => ret (.normal, E)
    | .label _ => ret (.normal, E)
    | .seq a b => bnd (code tb f a E) fun r => match r.1 with
      | .normal => code tb f b r.2
      | _ => ret r
    | .cond c x y => match op tb.ng E.tm c with
      | .b true => code tb f x E
      | .b false => code tb f y E
      | _ => fail
    | .block id body => bnd (code tb f body E) fun r => match r.1 with
      | .exit j => cond (Nat.beq j id) (ret (.normal, r.2)) (ret r)
      | _ => ret r
    | .loop body => bnd (code tb f body E) fun r => match r.1 with
      | .normal => code tb f (.loop body) r.2
      | _ => ret r
    | .exit id => ret (.exit id, E)
    | .goto l => ret (.goto l, E)
    | .ret => ret (.ret, E)
    | .region _ ops draw => cond draw
        (bnd (opsD tb f ops.toList ops.toList 0 E []) fun r => cond (!(anyClash r.2) || orderOk (anc ops.toList 0 .leaf) r.2) (ret (.normal, r.1)) fail)
        (bnd (opsT tb f ops.toList ops.toList E) fun E => ret (.normal, E))
    | _ => fail
def opsT (tb : Tab) : Nat → List Oper → List Oper → Env → M Env
  | 0, _, _, _ => fail
  | _ + 1, _, [], E => ret E
  | f + 1, all, o :: r, E => bnd (lft (wanted all E o)) fun w => cond w
      (bnd (oper tb f o E) fun v => bnd (lft (E.put o.dst v)) fun E => opsT tb f all r E)
      (bnd (lft (E.put o.dst (.tu []))) fun E => opsT tb f all r E)
def opsD (tb : Tab) : Nat → List Oper → List Oper → Nat → Env → List Rec → M (Env × List Rec)
  | 0, _, _, _, _, _ => fail
  | _ + 1, _, [], _, E, l => ret (E, l)
  | f + 1, all, o :: r, n, E, l => bnd (lft (wanted all E o)) fun w => cond w
      (bnd (ownRun (oper tb f o E)) fun p => bnd (lft (E.put o.dst p.1)) fun E => opsD tb f all r (Nat.succ n) E (cond (Nat.beq p.2.1 0) l (⟨n, p.2.1, p.2.2⟩ :: l)))
      (bnd (lft (E.put o.dst (.tu []))) fun E => opsD tb f all r (Nat.succ n) E l)
def oper (tb : Tab) : Nat → Oper → Env → M AV
  | 0, _, _ => fail
  | f + 1, o, E => match o.op with
    | .call c => match c.callee with
      | .builtin b => builtin tb b c.argTypes.toList (c.args.toList.map (op tb.ng E.tm))
      | .value g => match op tb.ng E.tm g with
        | .fn g first cap => call tb f g (first ++ c.args.toList.map (op tb.ng E.tm) ++ cap)
        | _ => fail
      | .invoke r m => match op tb.ng E.tm r with
        | .ifc t v => bnd (lft (methd tb.met t m)) fun g => bnd (lft (recv g.2 v)) fun v => call tb f g.1 (v :: c.args.toList.map (op tb.ng E.tm))
        | _ => fail
    | x => simple tb (op tb.ng E.tm) x
def call (tb : Tab) : Nat → Nat → List AV → M AV
  | 0, _, _ => fail
  | f + 1, g, args => bnd (lft (tb.fn.get g)) fun fi => match fi.sum, args with
   | some v, [] => ret v
   | _, _ => match fi.body with
    | none => ext tb fi.ext args
    | some c => cond (Nat.ble args.length fi.ntmps && Nat.ble fi.ntmps 16777213) (bnd (code tb f c ⟨args0 args 0 .leaf, fi.ntmps⟩) fun r => match r.1 with
      | .normal | .ret => results tb fi.res r.2
      | _ => fail) fail
end
end
end Go.AX
