/- A part of the proof: an interpreter of the model's own code on partly known states, and that what it answers is what the program answers. No condition of its own. -/
import GoSem.Dispatch
import Derived.Laws.Sem
import Derived.Below
import Derived.Laws.Tables
import Derived.Laws.CopyRow
import Derived.Laws.Cells
import Derived.Laws.Entries
import Derived.Laws.StructEq
import Derived.Laws.IdiomStrings
import Derived.Laws.MakeOwn
import Derived.Laws.Slices
set_option linter.unusedSimpArgs false
set_option linter.unusedVariables false
section
namespace Go.AX
noncomputable section

inductive AV where
  | und
  | b (x : Bool)
  | i (k : IntKind) (n : Int)
  | s (len n : Nat)
  | nilp
  | p (v off : Nat)
  | nils
  | sl (v off len cap : Nat) (rest : Bool)
  | ni
  | ifc (t : Nat) (v : AV)
  | ag (l : List AV)
  | tu (l : List AV)
  | fn (f : Nat) (first cap : List AV)
  | nilf
  | yl (n : Nat)
  | mp (v : Nat)
  | nilm
  | h (t : Nat)
  | x (id : Nat)
  | sy (v : Nat)                 -- a slice of bytes: all of the row v, whose bytes are a symbol's
  | px (v : Nat) (i : AV)        -- a pointer to a byte of such a row
  | sr (v : Nat)                 -- a slice: all of the row v, whose cells are a symbol's
  | pr (v : Nat) (i : AV) (sz off : Nat)        -- a pointer to a cell of such a row: that at off of the element i
  | es                            -- an empty slice, wherever it lies
  deriving Inhabited

inductive T (α : Type) where
  | leaf
  | node (v : Option α) (l r : T α)
  deriving Inhabited

def gB {α : Type} (gl gr : Nat → Option α) (k : Nat) : Option α := Nat.rec (motive := fun _ => Option α) (gl (Nat.div k 2)) (fun _ _ => gr (Nat.div k 2)) (Nat.mod k 2)
def T.get {α : Type} (t : T α) : Nat → Option α := T.rec (motive := fun _ => Nat → Option α) (fun _ => none)
  (fun v _ _ gl gr n => Nat.rec (motive := fun _ => Option α) v (fun k _ => gB gl gr k) n) t
def sB {α : Type} (ih : T α → Nat → T α) (v : Option α) (l r : T α) (k : Nat) : T α := Nat.rec (motive := fun _ => T α) (.node v (ih l (Nat.div k 2)) r) (fun _ _ => .node v l (ih r (Nat.div k 2))) (Nat.mod k 2)
def sN {α : Type} (x : Option α) (ih : T α → Nat → T α) (n : Nat) (v : Option α) (l r : T α) : T α := Nat.rec (motive := fun _ => T α) (.node x l r) (fun k _ => sB ih v l r k) n
def T.setG {α : Type} (x : Option α) (f : Nat) : T α → Nat → T α := Nat.rec (motive := fun _ => T α → Nat → T α) (fun t _ => t)
  (fun _ ih t n => T.rec (motive := fun _ => T α) (sN x ih n none .leaf .leaf) (fun v l r _ _ => sN x ih n v l r) t) f
def T.setF {α : Type} (f : Nat) (t : T α) (n : Nat) (x : Option α) : T α := T.setG x f t n
theorem half0 {k : Nat} (h : k % 2 = 0) : Nat.beq (Nat.mod (k + 1) 2) 1 = true ∧ Nat.div (k + 1) 2 = Nat.div k 2 := by
  have e1 : (k + 1) % 2 = 1 := by omega
  have e2 : (k + 1) / 2 = k / 2 := by omega
  exact ⟨by show Nat.beq ((k + 1) % 2) 1 = true; rw [e1]; rfl, e2⟩
theorem half1 {k q : Nat} (h : k % 2 = q + 1) : Nat.beq (Nat.mod (k + 1) 2) 1 = false ∧ Nat.sub (Nat.div (k + 1) 2) 1 = Nat.div k 2 := by
  have e1 : (k + 1) % 2 = 0 := by omega
  have e2 : (k + 1) / 2 - 1 = k / 2 := by omega
  exact ⟨by show Nat.beq ((k + 1) % 2) 1 = false; rw [e1]; rfl, e2⟩
theorem sN_eq {α : Type} (x : Option α) (ih : T α → Nat → T α) (n : Nat) (v : Option α) (l r : T α) : sN x ih n v l r = cond (Nat.beq n 0) (.node x l r) (cond (Nat.beq (Nat.mod n 2) 1) (.node v (ih l (Nat.div n 2)) r) (.node v l (ih r (Nat.sub (Nat.div n 2) 1)))) := by
  cases n with
  | zero => rfl
  | succ k =>
    show sB ih v l r k = cond (Nat.beq (Nat.mod (k + 1) 2) 1) _ _
    unfold sB
    cases h : k % 2 with
    | zero =>
      rw [(half0 h).1, (half0 h).2]
      have : Nat.mod k 2 = 0 := h
      rw [this]; rfl
    | succ q =>
      rw [(half1 h).1, (half1 h).2]
      have : Nat.mod k 2 = q + 1 := h
      rw [this]; rfl
theorem T.aD7 {α : Type} (n : Nat) : (T.leaf : T α).get n = none := rfl
theorem T.aL6 {α : Type} (v : Option α) (l r : T α) (n : Nat) : (T.node v l r).get n = cond (Nat.beq n 0) v (cond (Nat.beq (Nat.mod n 2) 1) (l.get (Nat.div n 2)) (r.get (Nat.sub (Nat.div n 2) 1))) := by
  cases n with
  | zero => rfl
  | succ k =>
    show gB l.get r.get k = cond (Nat.beq (Nat.mod (k + 1) 2) 1) _ _
    unfold gB
    cases h : k % 2 with
    | zero =>
      rw [(half0 h).1, (half0 h).2]
      have : Nat.mod k 2 = 0 := h
      rw [this]; rfl
    | succ q =>
      rw [(half1 h).1, (half1 h).2]
      have : Nat.mod k 2 = q + 1 := h
      rw [this]; rfl
theorem T.setF_leaf {α : Type} (f n : Nat) (x : Option α) : T.setF (f + 1) .leaf n x = cond (Nat.beq n 0) (.node x .leaf .leaf) (cond (Nat.beq (Nat.mod n 2) 1) (.node none (T.setF f .leaf (Nat.div n 2) x) .leaf) (.node none .leaf (T.setF f .leaf (Nat.sub (Nat.div n 2) 1) x))) := sN_eq x (T.setG x f) n none .leaf .leaf
theorem T.setF_node {α : Type} (f n : Nat) (v : Option α) (l r : T α) (x : Option α) : T.setF (f + 1) (.node v l r) n x = cond (Nat.beq n 0) (.node x l r) (cond (Nat.beq (Nat.mod n 2) 1) (.node v (T.setF f l (Nat.div n 2) x) r) (.node v l (T.setF f r (Nat.sub (Nat.div n 2) 1) x))) := sN_eq x (T.setG x f) n v l r
def T.set {α} (t : T α) (n : Nat) (x : α) : T α := T.setF 24 t n (some x)
def T.del {α} (t : T α) (n : Nat) : T α := T.setF 24 t n none

inductive Cells where
  | l (vs : List AV)
  | y (len n : Nat)
  deriving Inhabited

structure Blk where
  e : Nat
  c : Cells
  m : Nat
  es : Nat
  fr : Nat
  st : Bool
  g : Bool
  deriving Inhabited

inductive Ex where
  | normal | exit (id : Nat) | goto (l : Nat) | ret
  deriving Inhabited
structure LRec where
  ps : List Nat
  asg : Code
  body : Code
  tm : T AV
  nt : Nat
  st : Nat     -- 0: ready, 1: busy, 2: done
  pend : Ex
structure ME where
  k : AV
  v : AV
  b : Nat
  deriving Inhabited
inductive Ent where
  | b (k : Blk)
  | j (r : LRec)
  | m (es : List ME) (clock : Nat)
  | it (m since : Nat) (seen : List Nat) (last : Nat)     -- an iterator over the map m
  | r (id e sz : Nat) (ro : Bool)     -- a row of cells: those of the tuple that the symbol id stands for; the elements' type, its cells; is it only read
  | t (id e : Nat)     -- a row of bytes: those of the string that the symbol id stands for; the elements' type
  | k (g : Nat) (tm : List (Nat × AV)) (nt st : Nat) (pend : Ex)     -- a loop's record: that of the first range over a function of the function g

structure St where
  heap : T Ent
  next : Nat
  acc : Nat
  wr : Nat
  deriving Inhabited

abbrev M (α : Type) := St → Option (α × St)
def ret {α} (a : α) : M α := fun S => some (a, S)
def fail {α} : M α := fun _ => none
def bnd {α β} (m : M α) (f : α → M β) : M β := fun S => match m S with
  | none => none
  | some (a, S') => f a S'
def lft {α} (o : Option α) : M α := fun S => match o with
  | none => none
  | some a => some (a, S)

def bit (v : Nat) : Nat := Nat.shiftLeft 1 v
def rd (v : Nat) : M Blk := fun S => match S.heap.get v with
  | some (.b k) => some (k, ⟨S.heap, S.next, Nat.lor S.acc (bit v), S.wr⟩)
  | _ => none
def rdM (v : Nat) : M (List ME × Nat) := fun S => match S.heap.get v with
  | some (.m es c) => some ((es, c), ⟨S.heap, S.next, Nat.lor S.acc (bit v), S.wr⟩)
  | _ => none
def rdI (v : Nat) : M (Nat × Nat × List Nat × Nat) := fun S => match S.heap.get v with
  | some (.it m since seen last) => some ((m, since, seen, last), ⟨S.heap, S.next, Nat.lor S.acc (bit v), S.wr⟩)
  | _ => none
def rdT (v : Nat) : M (Nat × Nat) := fun S => match S.heap.get v with
  | some (.t id e) => some ((id, e), ⟨S.heap, S.next, Nat.lor S.acc (bit v), S.wr⟩)
  | _ => none
def rdA (v : Nat) : M Ent := fun S => match S.heap.get v with
  | some k => some (k, ⟨S.heap, S.next, Nat.lor S.acc (bit v), S.wr⟩)
  | none => none
def updE (v : Nat) (k : Ent) : M Unit := fun S => cond (Nat.blt v S.next && Nat.ble v 16777213) (some ((), ⟨S.heap.set v k, S.next, Nat.lor S.acc (bit v), Nat.lor S.wr (bit v)⟩)) none
abbrev upd (v : Nat) (k : Blk) : M Unit := updE v (.b k)
def kill (v : Nat) : M Unit := fun S => cond (Nat.blt v S.next && Nat.ble v 16777213) (some ((), ⟨S.heap.del v, S.next, Nat.lor S.acc (bit v), Nat.lor S.wr (bit v)⟩)) none
def newE (k : Ent) : M Nat := fun S => cond (Nat.ble S.next 16777213) (some (S.next, ⟨S.heap.set S.next k, Nat.succ S.next, Nat.lor S.acc (bit S.next), Nat.lor S.wr (bit S.next)⟩)) none
abbrev new (k : Blk) : M Nat := newE (.b k)

/- numbers -/
def ile : Int → Int → Bool
  | .ofNat a, .ofNat b => Nat.ble a b
  | .negSucc _, .ofNat _ => true
  | .ofNat _, .negSucc _ => false
  | .negSucc a, .negSucc b => Nat.ble b a
def ilt (a b : Int) : Bool := !(ile b a)
def ieq : Int → Int → Bool
  | .ofNat a, .ofNat b => Nat.beq a b
  | .negSucc a, .negSucc b => Nat.beq a b
  | _, _ => false
def kEq : IntKind → IntKind → Bool
  | .i64, .i64 => true
  | .u8, .u8 => true
  | .u16, .u16 => true
  | .u32, .u32 => true
  | .u64, .u64 => true
  | .i32, .i32 => true
  | .i8, .i8 => true
  | .i16, .i16 => true
  | _, _ => false
def fits : IntKind → Int → Bool
  | .i64, .ofNat a => Nat.ble a 9223372036854775807
  | .i64, .negSucc a => Nat.ble a 9223372036854775807
  | .u8, .ofNat a => Nat.ble a 255
  | .u16, .ofNat a => Nat.ble a 65535
  | .u32, .ofNat a => Nat.ble a 4294967295
  | .u64, .ofNat a => Nat.ble a 18446744073709551615
  | .i32, .ofNat a => Nat.ble a 2147483647
  | .i32, .negSucc a => Nat.ble a 2147483647
  | _, _ => false
def wrp (k : IntKind) (n : Int) : Int := cond (fits k n) n (k.wrap n)
def tn (k : IntKind) (x : Int) : Nat := match x with
  | .ofNat n => cond (fits k (.ofNat n)) n ((x % (2 ^ k.bits : Int)).toNat)
  | _ => (x % (2 ^ k.bits : Int)).toNat
def mkI (k : IntKind) (n : Int) : AV := .i k (wrp k n)

/- cells -/
def byteAt (n j : Nat) : Nat := Nat.mod (Nat.shiftRight n (Nat.mul 8 j)) 256
def unp (len n : Nat) : List AV := (List.range len).map fun j => AV.i .u8 (.ofNat (byteAt n j))
def Cells.toL : Cells → List AV
  | .l vs => vs
  | .y len n => unp len n
def Cells.len : Cells → Nat
  | .l vs => vs.length
  | .y len _ => len
def lget : List AV → Nat → Option AV
  | [], _ => none
  | a :: r, n => cond (Nat.beq n 0) (some a) (lget r (Nat.sub n 1))
def Cells.get (c : Cells) (j : Nat) : Option AV := match c with
  | .l vs => lget vs j
  | .y len n => cond (Nat.blt j len) (some (.i .u8 (.ofNat (byteAt n j)))) none
def low (n len : Nat) : Nat := Nat.mod n (Nat.shiftLeft 1 (Nat.mul 8 len))
def Cells.sub (c : Cells) (off n : Nat) : Option Cells := match c with
  | .l vs => cond (Nat.ble (Nat.add off n) vs.length) (some (.l ((vs.drop off).take n))) none
  | .y len m => cond (Nat.ble (Nat.add off n) len) (some (.y n (low (Nat.shiftRight m (Nat.mul 8 off)) n))) none
def putL : List AV → Nat → List AV → List AV
  | vs, 0, d => d ++ vs.drop d.length
  | [], _ + 1, d => d
  | v :: vs, n + 1, d => v :: putL vs n d
def Cells.put (c : Cells) (off : Nat) (d : Cells) : Option Cells := match c, d with
  | .y len n, .y k m => cond (Nat.ble off len)
      (some (.y (max len (Nat.add off k)) (Nat.add (low n off) (Nat.add (Nat.shiftLeft m (Nat.mul 8 off)) (Nat.shiftLeft (Nat.shiftRight n (Nat.mul 8 (Nat.add off k))) (Nat.mul 8 (Nat.add off k))))))) none
  | c, d => cond (Nat.ble off c.len) (some (.l (putL c.toL off d.toL))) none
def Cells.app (c d : Cells) : Cells := match c, d with
  | .y len n, .y k m => .y (Nat.add len k) (Nat.add n (Nat.shiftLeft m (Nat.mul 8 len)))
  | c, d => .l (c.toL ++ d.toL)
def scal : AV → Bool
  | .und | .ag _ | .tu _ => false
  | .x id => Nat.blt id 1000000
  | _ => true
def cellsOf : AV → Option (List AV)
  | .und => none
  | .tu _ => none
  | .ag l => some l
  | .x id => cond (Nat.blt id 1000000) (some [.x id]) none
  | v => some [v]
def bT2 : AV → Option Nat
  | .i .u8 (.ofNat n) => cond (Nat.blt n 256) (some n) none
  | _ => none
def Cells.set1 (c : Cells) (off : Nat) (v : AV) : Option Cells := match c with
  | .y len n => match bT2 v with
    | some x => cond (Nat.blt off len) (some (.y len (Nat.add (low n off) (Nat.add (Nat.shiftLeft x (Nat.mul 8 off)) (Nat.shiftLeft (Nat.shiftRight n (Nat.mul 8 (Nat.succ off))) (Nat.mul 8 (Nat.succ off))))))) none
    | none => cond (Nat.blt off len) (some (.l (putL (unp len n) off [v]))) none
  | .l vs => cond (Nat.blt off vs.length) (some (.l (putL vs off [v]))) none
def rep (c : Cells) : Nat → Cells
  | 0 => match c with | .y _ _ => .y 0 0 | .l _ => .l []
  | n + 1 => c.app (rep c n)
def reps (c : Cells) (n : Nat) : Cells := match c with
  | .y len 0 => .y (Nat.mul len n) 0
  | c => rep c n

/- types and functions, told by tables -/
inductive K where
  | bool | int (k : IntKind) | str | slice (e : Nat) | arr (n e : Nat) | struct | ptr (e : Nat) | iface (empty : Bool) | uptr | func | map (k e : Nat) | other | bad
  deriving Inhabited
structure Fl where
  off : Nat
  t : Nat
  sz : Nat
  agg : Bool
  bad : Bool
  nm : Bool     -- is its name not '_'
  deriving Inhabited
structure TI where
  k : K
  size : Nat
  bytes : Nat
  zero : Option AV
  zc : Cells
  fs : List Fl
  cmp : Bool
  eqs : Bool
  zs : Bool
  deriving Inhabited
structure LH where
  ng : Nat
  n0 : Nat
  n1 : Nat
  pre : List (Nat × Ent)
  post : List (Nat × Ent)
  deriving Inhabited
structure LF where
  key : Nat
  nt : Nat
  pre : List (Nat × AV)
  keep : List Nat
  ex : Ex
  post : List (Nat × AV)
  hp : Option LH
  deriving Inhabited
structure FI where
  body : Option Code
  ntmps : Nat
  res : List ResultVar
  ext : Nat
  sum : Option AV
  lps : List LF
  deriving Inhabited
inductive HK where
  | bin (o : BinOp) (x y : AV)
  | conv (t : Nat) (x : AV)
  | un (o : UnOp) (x : AV)
  | idx (x y : AV)
  | len (x : AV)
  | sub (x : AV) (lo hi : Option AV)
  | bytes (l : List AV)
  | eq (t : Nat) (x y : AV)
  | call (g : Nat) (l : List AV)
  | mm (mx : Bool) (x y : AV)
  | byt (x i : AV)           -- the byte at i
  | set (x i b : AV)         -- with the byte b at i
  | app (x : AV) (l : List AV)     -- with these bytes behind it
  | fit (x : AV)             -- is it as short as a row may be
  | zer (n : AV)             -- as many zeros
  | ext (g : Nat) (l : List AV)     -- what a function that has no code gives
  | tab (l : List AV) (x : AV)      -- the one at x in the row
  | rl (x : AV) (sz : Nat)          -- how many elements a row has
  | el (x i : AV) (sz off : Nat)    -- a cell of a row
  | ra (x : AV) (l : List AV)       -- a row with cells behind it
  | rn                              -- the row of nothing
  | rf (x : AV) (sz bytes : Nat)    -- is it as short as a row may be
  | eqb (x y : AV)                  -- are two truths the same
  | slen (x : AV)                   -- how long a slice is
  | rr (x y : AV)                   -- a row with another one behind it
  | rt (x h : AV) (sz : Nat)        -- a row's first elements
  | rz (n : AV)                     -- a row of so many texts of nothing
  | rs (x i y : AV)                 -- a row of texts with the text y at i
  | rg (e : Nat) (n : AV)           -- a row of so many zero values of a type
def same : AV → AV → Bool
  | .x a, .x b => Nat.beq a b
  | .i k a, .i l b => k == l && ieq a b
  | .b a, .b b => a == b
  | .s k a, .s l b => Nat.beq k l && Nat.beq a b
  | _, _ => false
def dK1 : List AV → List AV → Bool
  | [], [] => true
  | a :: l, b :: m => same a b && dK1 l m
  | _, _ => false
def allS (s : AV → AV → Bool) : List AV → List AV → Bool
  | [], [] => true
  | a :: l, b :: m => s a b && allS s l m
  | _, _ => false
def aW8 : Nat → AV → AV → Bool
  | 0, a, b => same a b
  | d + 1, a, b => match a, b with
    | .ag l, .ag m => allS (aW8 d) l m
    | .tu l, .tu m => allS (aW8 d) l m
    | .ifc t x, .ifc u y => Nat.beq t u && aW8 d x y
    | .nils, .nils => true
    | .es, .es => true
    | .ni, .ni => true
    | .nilp, .nilp => true
    | .nilf, .nilf => true
    | .nilm, .nilm => true
    | .h a, .h b => Nat.beq a b
    | a, b => same a b
def eqA : Nat → AV → AV → Bool
  | 0, _, _ => false
  | d + 1, a, b => match a, b with
    | .p v o, .p w u => Nat.beq v w && Nat.beq o u
    | .sl v o n c r, .sl w u m e s => Nat.beq v w && Nat.beq o u && Nat.beq n m && Nat.beq c e && (r == s)
    | .sy v, .sy w => Nat.beq v w
    | .px v i, .px w j => Nat.beq v w && eqA d i j
    | .sr v, .sr w => Nat.beq v w
    | .pr v i s o, .pr w j t u => Nat.beq v w && (eqA d i j && (Nat.beq s t && Nat.beq o u))
    | .mp v, .mp w => Nat.beq v w
    | .yl v, .yl w => Nat.beq v w
    | .fn f a c, .fn g b e => Nat.beq f g && allS (eqA d) a b && allS (eqA d) c e
    | .ag l, .ag m => allS (eqA d) l m
    | .tu l, .tu m => allS (eqA d) l m
    | .ifc t x, .ifc u y => Nat.beq t u && eqA d x y
    | .nils, .nils => true
    | .es, .es => true
    | .ni, .ni => true
    | .nilp, .nilp => true
    | .nilf, .nilf => true
    | .nilm, .nilm => true
    | .h a, .h b => Nat.beq a b
    | a, b => same a b
def sameO : Option AV → Option AV → Bool
  | none, none => true
  | some a, some b => same a b
  | _, _ => false
def HK.same : HK → HK → Bool
  | .bin o x y, .bin p u v => o == p && AX.same x u && AX.same y v
  | .conv t x, .conv u y => Nat.beq t u && AX.same x y
  | .un o x, .un p y => o == p && AX.same x y
  | .idx x y, .idx u v => AX.same x u && AX.same y v
  | .len x, .len y => AX.same x y
  | .sub x l h, .sub y m i => AX.same x y && sameO l m && sameO h i
  | .bytes l, .bytes m => dK1 l m
  | .eq t x y, .eq u v w => Nat.beq t u && AX.same x v && AX.same y w
  | .call g l, .call h m => Nat.beq g h && allS (aW8 8) l m
  | .mm a x y, .mm b u v => a == b && AX.same x u && AX.same y v
  | .byt x i, .byt y j => AX.same x y && AX.same i j
  | .set x i b, .set y j c => AX.same x y && AX.same i j && AX.same b c
  | .app x l, .app y m => AX.same x y && dK1 l m
  | .fit x, .fit y => AX.same x y
  | .zer x, .zer y => AX.same x y
  | .ext g l, .ext h m => Nat.beq g h && allS (aW8 8) l m
  | .tab l x, .tab m y => AX.same x y && allS (eqA 8) l m
  | .rl x s, .rl y t => AX.same x y && Nat.beq s t
  | .el x i s o, .el y j t p => AX.same x y && (AX.same i j && (Nat.beq s t && Nat.beq o p))
  | .ra x l, .ra y m => AX.same x y && allS (eqA 8) l m
  | .rn, .rn => true
  | .rf x s b, .rf y t c => AX.same x y && (Nat.beq s t && Nat.beq b c)
  | .eqb x y, .eqb u v => AX.same x u && AX.same y v
  | .slen x, .slen y => AX.same x y
  | .rr x y, .rr u v => AX.same x u && AX.same y v
  | .rt x h s, .rt y g t => AX.same x y && (AX.same h g && Nat.beq s t)
  | .rz x, .rz y => AX.same x y
  | .rs x i b, .rs y j c => AX.same x y && AX.same i j && AX.same b c
  | .rg e x, .rg f y => Nat.beq e f && AX.same x y
  | _, _ => false
def hl : List (HK × AV) → HK → Option AV
  | [], _ => none
  | (a, r) :: l, k => cond (a.same k) (some r) (hl l k)
structure Tab where
  ng : Nat
  hyp : List (HK × AV)
  u8 : Nat
  ty : T TI
  fn : T FI
  imp : List (Nat × Nat × Bool)       -- interface type, dynamic type: does it implement it
  met : List (Nat × String × Nat × Bool)     -- dynamic type, method: the function; the receiver is the value itself, or (true) its first field
  rty : Nat
  kd : List (Nat × Nat)                       -- of a type reflectlite's kind
  el : List (Nat × Nat)                       -- of a type what it points to
  asg : List (Nat × Nat × Bool)               -- is the second one assignable to the first
  im2 : List (Nat × Nat × Bool)               -- does the second one implement the first
  deriving Inhabited

def impl : List (Nat × Nat × Bool) → Nat → Nat → Option Bool
  | [], _, _ => none
  | (a, b, r) :: l, x, y => cond (Nat.beq a x && Nat.beq b y) (some r) (impl l x y)
def cW6 : List (Nat × String × Nat × Bool) → Nat → String → Option (Nat × Bool)
  | [], _, _ => none
  | (a, b, r) :: l, x, y => cond (Nat.beq a x && b == y) (some r) (cW6 l x y)
def recv (d : Bool) (v : AV) : Option AV := cond d (match v with | .ag [x] => some x | _ => none) (some v)

def isAgg : K → Bool
  | .struct | .arr .. => true
  | _ => false
def isIf : K → Bool
  | .iface _ => true
  | _ => false
def isBad : K → Bool
  | .bad => true
  | _ => false

def cP9 : List UInt8 → Nat
  | [] => 0
  | a :: l => Nat.add a.toNat (Nat.mul 256 (cP9 l))
def ofV : Value → AV
  | .bool b => .b b
  | .int k n => .i k n
  | .string s => .s s.data.toList.length (cP9 s.data.toList)
  | .pointer none => .nilp
  | .slice none 0 0 => .nils
  | .nilIface => .ni
  | .nilFunc => .nilf
  | .map none => .nilm
  | .func (.func f) ⟨[]⟩ ⟨[]⟩ => .fn f [] []
  | .tuple ⟨[]⟩ => .tu []
  | _ => .und

def bP6 : List AV → Option (Nat × Nat)
  | [] => some (0, 0)
  | v :: l => match bT2 v, bP6 l with
    | some x, some (k, n) => some (Nat.succ k, Nat.add x (Nat.mul 256 n))
    | _, _ => none
def toCells (u8 : Bool) (l : List AV) : Cells := cond u8 (match bP6 l with
  | some (k, n) => .y k n
  | none => .l l) (.l l)

def kOf (p : Program) (t : Nat) : K := match p.underlying t with
  | some .bool => .bool
  | some (.int k) => .int k
  | some .string => .str
  | some (.slice e) => .slice e
  | some (.array n e) => .arr n e
  | some (.struct fs) => cond (fs.toList.all fun f => (p.info? f.type).isSome) .struct .bad
  | some (.pointer e) => .ptr e
  | some (.interface ms) => .iface ms.isEmpty
  | some .unsafePointer => .uptr
  | some (.func ..) => .func
  | some (.map k e) => .map k e
  | some _ => .other
  | none => .bad
def avZ (v : Value) : AV := match v with
  | .agg cs => .ag (cs.toList.map ofV)
  | v => ofV v
def aM5 (p : Program) (t : Nat) : List Field := match p.underlying t with
  | some (.struct fs) => fs.toList
  | _ => []
def mkFl (p : Program) (f : Field) : Fl := ⟨f.offset, f.type, p.cellsOf f.type, isAgg (kOf p f.type), isBad (kOf p f.type), f.name != "_"⟩
def oneC : Value → Bool
  | .agg _ | .tuple _ => false
  | _ => true
def cX2 : K → Bool
  | .int .u8 => true
  | _ => false
def u8ish (p : Program) (t : Nat) : Bool := match kOf p t with
  | .arr _ e => cX2 (kOf p e)
  | k => cX2 k
def zlist (i : TypeInfo) : List AV := match i.zero with
  | some v => v.cells.toList.map ofV
  | none => []
def zsOf (i : TypeInfo) : Bool := match i.zero with
  | some v => v.cells.toList.all oneC && Nat.beq v.cells.toList.length i.size
  | none => false
def dO9 (p : Program) (t : Nat) : Bool := match kOf p t with
  | .struct => !p.stoodInHeld t && !p.eqGuardType p.depth t
  | _ => false
def mkTI (p : Program) (t : Nat) (i : TypeInfo) : TI :=
  { k := kOf p t, size := i.size, bytes := i.bytes, zero := i.zero.map avZ,
    zc := toCells (u8ish p t) (zlist i),
    fs := (aM5 p t).map (mkFl p), cmp := i.comparable, eqs := dO9 p t, zs := zsOf i }
def op (ng : Nat) (tm : T AV) : Operand → AV
  | .tmp t => match tm.get t with | some v => v | none => .und
  | .const v => ofV v
  | .global g => cond (Nat.blt g ng) (.p g 0) .und
  | .func f => .fn f [] []

def asN : AV → Option Nat
  | .i _ (.ofNat n) => some n
  | _ => none
def asNo (f : Operand → AV) (o : Option Operand) (d : Nat) : Option Nat := match o with
  | none => some d
  | some o => asN (f o)

/- equality, by the type -/
def ptrEq (a c : Nat) (o u : Nat) : M Bool := cond (Nat.beq a c) (ret (Nat.beq o u)) fail
def lsub (l : List AV) (off n : Nat) : Option (List AV) := cond (Nat.ble (Nat.add off n) l.length) (some ((l.drop off).take n)) none
def part (l : List AV) (f : Fl) : Option AV := cond f.bad none <| cond f.agg ((lsub l f.off f.sz).map .ag) (lget l f.off)
def eqF (eq : Nat → AV → AV → M Bool) (l m : List AV) : List Fl → M Bool
  | [] => ret true
  | f :: fs => cond f.nm
      (bnd (lft (part l f)) fun x => bnd (lft (part m f)) fun y => bnd (eq f.t x y) fun r => cond r (eqF eq l m fs) (ret false))
      (eqF eq l m fs)
def hypB (tb : Tab) (k : HK) : M Bool := match hl tb.hyp k with
  | some (.b r) => ret r
  | _ => fail
def eqT (tb : Tab) : Nat → Nat → AV → AV → M Bool
  | 0, _, _, _ => fail
  | d + 1, t, x, y => bnd (lft (tb.ty.get t)) fun ti =>
    match ti.k, x, y with
    | .bool, .b a, .b c => ret (a == c)
    | .int _, .i k a, .i l c => cond (kEq k l) (ret (ieq a c)) fail
    | .str, .s k a, .s l c => ret (Nat.beq k l && Nat.beq a c)
    | .int _, .x a, y => hypB tb (.eq t (.x a) y)
    | .int _, .i k a, .x c => hypB tb (.eq t (.i k a) (.x c))
    | .str, .x a, y => hypB tb (.eq t (.x a) y)
    | .str, .s k a, .x c => hypB tb (.eq t (.s k a) (.x c))
    | .ptr _, .nilp, .nilp => ret true
    | .ptr _, .nilp, .p _ _ => ret false
    | .ptr _, .p _ _, .nilp => ret false
    | .ptr e, .p a o, .p c u => bnd (lft (tb.ty.get e)) fun te => cond (Nat.beq te.size 0) fail (ptrEq a c o u)
    | .ptr e, .h a, .h c => bnd (lft (tb.ty.get e)) fun te => cond (Nat.beq te.size 0) fail (ret (Nat.beq a c))
    | .iface _, .ni, .ifc _ _ => ret false
    | .iface _, .ifc _ _, .ni => ret false
    | .iface _, .ifc a v, .ifc c w => cond (Nat.beq a c) (bnd (lft (tb.ty.get a)) fun ta => cond ta.cmp (eqT tb d a v w) fail) (ret false)
    | .struct, .ag l, .ag m => cond ti.eqs (eqF (eqT tb d) l m ti.fs) fail
    | .slice _, .nils, .nils => ret true
    | .slice _, .nils, .sl .. => ret false
    | .slice _, .sl .., .nils => ret false
    | .func, .nilf, .nilf => ret true
    | .func, .nilf, .fn .. => ret false
    | .func, .fn .., .nilf => ret false
    | _, _, _ => fail
def isC : Operand → Bool
  | .const _ => true
  | _ => false
def okE : AV → Bool
  | .und | .i _ _ | .s _ _ | .x _ | .tu _ | .sy _ | .px _ _ | .sr _ | .pr _ _ _ _ => false
  | _ => true
def isNi : AV → Bool
  | .ni => true
  | _ => false
def isAg : AV → Bool
  | .ag _ => true
  | _ => false
def cT7 (tb : Tab) (t : Nat) (cx : Bool) (x y : AV) : M Bool :=
  cond (okE x) (cond (isNi x && isNi y) (cond cx (bnd (lft (tb.ty.get t)) fun ti => match ti.k with | .iface _ => ret true | _ => fail) fail) (eqT tb 12 t x y)) fail

def bytesLess : List Nat → List Nat → Bool
  | _, [] => false
  | [], _ :: _ => true
  | a :: x, b :: y => Nat.blt a b || (Nat.beq a b && bytesLess x y)
def strL (len n : Nat) : List Nat := (List.range len).map (byteAt n)
def dI2 (k a l c : Nat) : Bool := bytesLess (strL k a) (strL l c)

def binI (o : BinOp) (k : IntKind) (a c : Int) : M AV := match o with
  | .add => ret (mkI k (a + c))
  | .sub => ret (mkI k (a - c))
  | .mul => ret (mkI k (a * c))
  | .quo => cond (ieq c 0) fail (ret (mkI k (a.tdiv c)))
  | .rem => cond (ieq c 0) fail (ret (.i k (a.tmod c)))
  | .and => ret (mkI k (.ofNat (Nat.land (tn k a) (tn k c))))
  | .or => ret (mkI k (.ofNat (Nat.lor (tn k a) (tn k c))))
  | .xor => ret (mkI k (.ofNat (Nat.xor (tn k a) (tn k c))))
  | .andNot => ret (mkI k (.ofNat (Nat.land (tn k a) (Nat.sub (2 ^ k.bits - 1) (tn k c)))))
  | .lss => ret (.b (ilt a c))
  | .leq => ret (.b (ile a c))
  | .gtr => ret (.b (ilt c a))
  | .geq => ret (.b (ile c a))
  | .eql => ret (.b (ieq a c))
  | .neq => ret (.b (!(ieq a c)))
  | _ => fail
def dO0 : K → Bool
  | .bool => true
  | _ => false
def eqOp : BinOp → Bool
  | .eql => true
  | .neq => true
  | _ => false
def isEql : BinOp → Bool
  | .eql => true
  | _ => false
def isSymV : AV → Bool
  | .x _ => true
  | _ => false
def boolX (tb : Tab) (o : BinOp) (t : Nat) (x y : AV) : Bool := (eqOp o && (isSymV x || isSymV y)) && (match tb.ty.get t with | some ti => dO0 ti.k | none => false)
def binR (tb : Tab) (o : BinOp) (t : Nat) (cx : Bool) (x y : AV) : M AV :=
  match o, x, y with
  | .shl, .i k a, .i _ (.ofNat c) => ret (mkI k (a * 2 ^ (Nat.min c k.bits)))
  | .shr, .i k (.ofNat a), .i _ (.ofNat c) => ret (.i k (.ofNat (Nat.shiftRight a (Nat.min c k.bits))))
  | o, .i k a, .i l c => cond (kEq k l) (binI o k a c) fail
  | .add, .s k a, .s l c => cond (Nat.ble (Nat.add k l) 9223372036854775807) (ret (.s (Nat.add k l) (Nat.add a (Nat.shiftLeft c (Nat.mul 8 k))))) fail
  | .eql, .s k a, .s l c => ret (.b (Nat.beq k l && Nat.beq a c))
  | .neq, .s k a, .s l c => ret (.b (!(Nat.beq k l && Nat.beq a c)))
  | .lss, .s k a, .s l c => ret (.b (dI2 k a l c))
  | .gtr, .s k a, .s l c => ret (.b (!(dI2 k a l c || (Nat.beq k l && Nat.beq a c))))
  | .leq, .s k a, .s l c => ret (.b (dI2 k a l c || (Nat.beq k l && Nat.beq a c)))
  | .geq, .s k a, .s l c => ret (.b (!(dI2 k a l c)))
  | o, .x a, y => lft (hl tb.hyp (.bin o (.x a) y))
  | o, x, .x c => lft (hl tb.hyp (.bin o x (.x c)))
  | .eql, x, y => bnd (cT7 tb t cx x y) fun r => ret (.b r)
  | .neq, x, y => bnd (cT7 tb t cx x y) fun r => ret (.b (!r))
  | _, _, _ => fail

def bin (tb : Tab) (o : BinOp) (t : Nat) (cx : Bool) (x y : AV) : M AV := cond (boolX tb o t x y) (bnd (hypB tb (.eqb x y)) fun r => ret (.b (cond (isEql o) r (!r)))) (binR tb o t cx x y)
def isU8 (tb : Tab) (t : Nat) : Bool := match tb.ty.get t with
  | some ti => (match ti.k with | .int .u8 => true | _ => false)
  | none => false
/- memory -/
def load (tb : Tab) (t : Nat) (x : AV) : M AV := match x with
  | .p v o => bnd (lft (tb.ty.get t)) fun ti => bnd (rd v) fun k =>
      cond (isAgg ti.k) (bnd (lft (k.c.sub o ti.size)) fun c => ret (.ag c.toL)) (cond (isBad ti.k) fail (lft (k.c.get o)))
  | _ => fail
def symN : AV → Option Nat
  | .x a => some a
  | _ => none
def store (tb : Tab) (t : Nat) (x y : AV) : M Unit := match x with
  | .p v o => bnd (lft (tb.ty.get t)) fun ti => bnd (rd v) fun k => cond (Nat.ble k.fr o)
      (match y with
       | .ag l => cond (Nat.beq l.length ti.size && Nat.ble (Nat.add o ti.size) k.c.len && l.all scal) (bnd (lft (k.c.put o (.l l))) fun c => upd v { k with c }) fail
       | y => cond (scal y && Nat.beq ti.size 1) (bnd (lft (k.c.set1 o y)) fun c => upd v { k with c }) fail) fail
  | _ => fail
def u8T (tb : Tab) (t : Nat) : Bool := isU8 tb t && (match tb.ty.get t with | some ti => Nat.beq ti.size 1 | none => false)
def cE0 (tb : Tab) (t : Nat) (i : AV) (k : Ent) : M AV := match k with
  | .t id _ => cond (u8T tb t) (lft (hl tb.hyp (.byt (.x id) i))) fail
  | .b k => bnd (lft (tb.ty.get t)) fun ti => cond (!isAgg ti.k && !isBad ti.k && !k.g) (lft (hl tb.hyp (.tab k.c.toL i))) fail
  | _ => fail
def elts (hy : List (HK × AV)) (x i : AV) (sz : Nat) : Nat → Nat → Option (List AV)
  | _, 0 => some []
  | o, n + 1 => match hl hy (.el x i sz o), elts hy x i sz (Nat.succ o) n with
    | some a, some l => some (a :: l)
    | _, _ => none
def loadR (tb : Tab) (t : Nat) (i : AV) (sz o : Nat) (k : Ent) : M AV := match k with
  | .r id _ s _ => bnd (lft (tb.ty.get t)) fun ti => cond (Nat.beq s sz && !isBad ti.k)
      (cond (isAgg ti.k) (bnd (lft (elts tb.hyp (.x id) i sz o ti.size)) fun l => ret (.ag l)) (lft (hl tb.hyp (.el (.x id) i sz o)))) fail
  | _ => fail
def cQ7 (tb : Tab) (t : Nat) (x : AV) : M AV := match x with
  | .px v i => bnd (rdA v) fun k => cE0 tb t i k
  | .pr v i sz o => bnd (rdA v) fun k => loadR tb t i sz o k
  | x => load tb t x
def strT (tb : Tab) (t : Nat) : Bool := match tb.ty.get t with
  | some ti => (match ti.k with | .str => Nat.beq ti.size 1 | _ => false)
  | none => false
def bU6 (tb : Tab) (t v : Nat) (i y : AV) (sz o : Nat) (k : Ent) : M Unit := match k with
  | .r id e' sz' false => cond (strT tb t && (Nat.beq sz 1 && (Nat.beq sz' 1 && Nat.beq o 0)))
      (bnd (lft (hl tb.hyp (.rs (.x id) i y))) fun z => bnd (lft (symN z)) fun a => updE v (.r a e' 1 false)) fail
  | _ => fail
def bG2 (tb : Tab) (t : Nat) (x y : AV) : M Unit := match x with
  | .pr v i sz o => bnd (rdA v) fun k => bU6 tb t v i y sz o k
  | .px v i => cond (u8T tb t) (bnd (rdT v) fun r => bnd (lft (hl tb.hyp (.set (.x r.1) i y))) fun z => bnd (lft (symN z)) fun a => updE v (.t a r.2)) fail
  | x => store tb t x y
def syN : AV → Option Nat
  | .sy v => some v
  | _ => none
def slU8 (tb : Tab) : K → Bool
  | .slice e => isU8 tb e
  | _ => false
def slT (tb : Tab) : K → Bool
  | .slice e => u8T tb e
  | _ => false
def idxY (tb : Tab) (t v : Nat) (ix : AV) : M AV := bnd (lft (tb.ty.get t)) fun ti => cond (slT tb ti.k) (bnd (rdT v) fun r => bnd (lft (hl tb.hyp (.byt (.x r.1) ix))) fun _ => ret (.px v ix)) fail
def dL0 : AV → AV → Option Nat
  | .p v 0, .x _ => some v
  | _, _ => none
def arE : K → Option (Nat × Nat)
  | .arr n e => some (n, e)
  | _ => none
def cX4 (tb : Tab) (t v : Nat) (ix : AV) : M AV := bnd (lft (tb.ty.get t)) fun ti => bnd (lft (arE ti.k)) fun q => bnd (lft (tb.ty.get q.2)) fun te => bnd (rd v) fun k =>
  cond (Nat.beq te.size 1 && !k.g && Nat.beq k.c.len q.1) (bnd (lft (hl tb.hyp (.tab k.c.toL ix))) fun _ => ret (.px v ix)) fail
def dF1 : K → Bool
  | .str => true
  | _ => false
def slE : K → Option Nat
  | .slice e => some e
  | _ => none
def srN : AV → Option Nat
  | .sr v => some v
  | _ => none
def idxR (tb : Tab) (t v : Nat) (ix : AV) : M AV := bnd (lft (tb.ty.get t)) fun ti => bnd (lft (slE ti.k)) fun e => bnd (lft (tb.ty.get e)) fun te => bnd (rdA v) fun k => match k with
  | .r id _ sz _ => cond (Nat.beq te.size sz) (bnd (lft (hl tb.hyp (.el (.x id) ix sz 0))) fun _ => ret (.pr v ix sz 0)) fail
  | _ => fail
def symS : AV → AV → Option Nat
  | .x a, .x b => cond (Nat.beq a b) (some a) none
  | _, _ => none
def zByte : Option AV → Bool
  | some (.i .u8 (.ofNat 0)) => true
  | _ => false
def zStr : Option AV → Bool
  | some (.s 0 _) => true
  | _ => false
def mkG (tb : Tab) (e a : Nat) (te : TI) : M AV := cond (Nat.ble 1 te.size)
  (bnd (lft (hl tb.hyp (.rg e (.x a)))) fun z => bnd (lft (symN z)) fun b => bnd (newE (.r b e te.size false)) fun v => ret (.sr v)) fail
def mkR (tb : Tab) (e a : Nat) (te : TI) : M AV := cond (strT tb e && (Nat.beq te.bytes 16 && zStr te.zero))
  (bnd (lft (hl tb.hyp (.rz (.x a)))) fun z => bnd (lft (symN z)) fun b => bnd (newE (.r b e 1 false)) fun v => ret (.sr v)) (mkG tb e a te)
def mkY (tb : Tab) (t a : Nat) : M AV := bnd (lft (tb.ty.get t)) fun ti => bnd (lft (slE ti.k)) fun e => bnd (lft (tb.ty.get e)) fun te => cond (u8T tb e && Nat.beq te.bytes 1 && zByte te.zero)
  (bnd (lft (hl tb.hyp (.zer (.x a)))) fun z => bnd (lft (symN z)) fun b => bnd (newE (.t b e)) fun v => ret (.sy v)) (mkR tb e a te)
def cvk (tb : Tab) (src dst : Nat) : AV → Option (M AV)
  | .sy v => some (bnd (lft (tb.ty.get src)) fun ts => bnd (lft (tb.ty.get dst)) fun td => cond (slT tb ts.k && dF1 td.k) (bnd (rdT v) fun r => ret (.x r.1)) fail)
  | .x a => match tb.ty.get dst with
    | some td => (match slE td.k with
      | some e => some (bnd (lft (tb.ty.get src)) fun ts => cond (dF1 ts.k && u8T tb e) (bnd (lft (hl tb.hyp (.fit (.x a)))) fun _ => bnd (newE (.t a e)) fun v => ret (.sy v)) fail)
      | none => none)
    | none => none
  | _ => none
def cQ4 (e : Nat) (c : Cells) : Blk := ⟨e, c, 0, 0, 0, false, false⟩
def bI6 (pl : Nat → Option (Nat × Nat)) (f : Operand → AV) (c : List AV) : List (Nat × Operand) → Option (List AV)
  | [] => some c
  | (i, o) :: r => match pl i, cellsOf (f o) with
    | some (off, sz), some l => cond (Nat.beq l.length sz && Nat.ble (Nat.add off sz) c.length) (bI6 pl f (putL c off l) r) none
    | _, _ => none
def fget : List Fl → Nat → Option Fl
  | [], _ => none
  | a :: r, n => cond (Nat.beq n 0) (some a) (fget r (Nat.sub n 1))
def slc (v off len cap : Nat) (rest : Bool) (sz : Nat) (lo hi : Nat) : Option AV :=
  -- hi ≤ cap, where it is known
  cond (Nat.ble lo hi) (cond rest
    (cond (Nat.ble hi len) (some (.sl v (Nat.add off (Nat.mul lo sz)) (Nat.sub hi lo) (Nat.add cap lo) true)) none)
    (cond (Nat.ble hi cap) (some (.sl v (cond (Nat.beq cap lo) off (Nat.add off (Nat.mul lo sz))) (Nat.sub hi lo) (Nat.sub cap lo) false)) none)) none

def slcW (v off cap sz lo hi : Nat) : M AV := bnd (rd v) fun k => cond (k.g && Nat.ble lo hi && Nat.ble 1 k.es && Nat.ble (Nat.mul (Nat.add cap hi) k.es) k.m) (ret (.sl v (Nat.add off (Nat.mul lo sz)) (Nat.sub hi lo) (Nat.add cap lo) true)) fail
def isStr : K → Bool
  | .str => true
  | _ => false
def sl2 (f : Operand → AV) (lo hi : Option Operand) (d : Nat) : Option (Nat × Nat) := match asNo f lo 0, asNo f hi d with
  | some a, some b => some (a, b)
  | _, _ => none
/- maps -/
def cZ3 (tb : Tab) (t : Nat) (k : AV) : List ME → Nat → M (Option (Nat × ME))
  | [], _ => ret none
  | e :: es, i => bnd (eqT tb 12 t k e.k) fun r => cond r (ret (some (i, e))) (cZ3 tb t k es (Nat.succ i))
def modL (f : ME → ME) : List ME → Nat → List ME
  | [], _ => []
  | e :: es, 0 => f e :: es
  | e :: es, i + 1 => e :: modL f es i
def delL : List ME → Nat → List ME
  | [], _ => []
  | _ :: es, 0 => es
  | e :: es, i + 1 => e :: delL es i
def dI8 (tb : Tab) (t : Nat) : M AV := bnd (lft (tb.ty.get t)) fun te => lft te.zero
def clrK (tb : Tab) (t : Nat) (x : AV) : M AV := bnd (lft (tb.ty.get t)) fun ti => match ti.k, x with
  | .slice _, .nils => ret (.tu [])
  | .slice e, .sl v o n _ _ => cond (Nat.beq n 0) (ret (.tu [])) (bnd (lft (tb.ty.get e)) fun te => bnd (rd v) fun k =>
      cond (te.zs && Nat.ble k.fr o && Nat.ble (Nat.add o (Nat.mul n te.size)) k.c.len) (bnd (lft (k.c.put o (reps te.zc n))) fun c => bnd (upd v { k with c := c }) fun _ => ret (.tu [])) fail)
  | _, _ => fail
def slc3 (v off len cap : Nat) (rest : Bool) (sz lo hi mx : Nat) : Option AV :=
  cond (Nat.ble lo hi && Nat.ble hi mx && Nat.ble mx (cond rest len cap) && (!rest || Nat.ble 1 len)) (some (.sl v (cond (Nat.beq mx lo) off (Nat.add off (Nat.mul lo sz))) (Nat.sub hi lo) (Nat.sub mx lo) false)) none
def hlq : List (HK × AV) → HK → Option AV
  | [], _ => none
  | (a, r) :: l, k => cond (a.same k) (some r) (hlq l k)
def dM3 (h : List (HK × AV)) : AV := match hlq h (.bytes []) with
  | some (.x a) => .x a
  | _ => .s 0 0
def slY0 (tb : Tab) (v e : Nat) : M AV := bnd (lft (hlq tb.hyp (.bytes []))) fun z => bnd (lft (symN z)) fun a => bnd (kill v) fun _ => bnd (newE (.t a e)) fun v' => ret (.sy v')
def isI0 : Option AV → Option AV → Bool
  | none, some (.i _ z) => ieq z 0
  | _, _ => false
def slY (tb : Tab) (e v : Nat) (lo hi : Option AV) : M AV := bnd (lft (tb.ty.get e)) fun _ => bnd (rdT v) fun r => cond (isI0 lo hi) (slY0 tb v r.2)
  (bnd (lft (hl tb.hyp (.len (.x r.1)))) fun n => match lo, hi, n with
    | none, some (.x a), .x b => cond (Nat.beq a b) (ret (.sy v)) fail
    | some (.x a), none, .x b => cond (Nat.beq a b) (ret .es) fail
    | _, _, _ => fail)
def slR (tb : Tab) (e v : Nat) (lo hi : Option AV) : M AV := bnd (lft (tb.ty.get e)) fun te => bnd (rdA v) fun k => match k, lo, hi with
  | .r id e' sz false, none, some h => cond (Nat.beq te.size sz) (bnd (lft (hl tb.hyp (.rt (.x id) h sz))) fun z => bnd (lft (symN z)) fun a => bnd (kill v) fun _ => bnd (newE (.r a e' sz false)) fun v' => ret (.sr v')) fail
  | _, _, _ => fail
def simple (tb : Tab) (f : Operand → AV) (o : Op) : M AV := match o with
  | .move x | .assign x => ret (f x)
  | .pick c a d => match f c with
    | .b true => ret (f a)
    | .b false => ret (f d)
    | .x i => bnd (hypB tb (.eqb (.x i) (.b true))) fun r => cond r (ret (f a)) (ret (f d))
    | _ => fail
  | .alloc e => bnd (lft (tb.ty.get e)) fun ti => match ti.zero with
    | none => fail
    | some _ => cond ti.zs (bnd (new (cQ4 e ti.zc)) fun v => ret (.p v 0)) fail
  | .box e x => bnd (lft (cellsOf (f x))) fun l => cond (l.all scal) (bnd (new (cQ4 e (.l l))) fun v => ret (.p v 0)) fail
  | .build t ps => bnd (lft (tb.ty.get t)) fun ti => match ti.k with
    | .struct => bnd (lft (bI6 (fun i => (fget ti.fs i).map fun x => (x.off, x.sz)) f ti.zc.toL ps.toList)) fun l => cond ti.zero.isSome (ret (.ag l)) fail
    | .arr _ e => bnd (lft (tb.ty.get e)) fun te => bnd (lft (bI6 (fun i => some (Nat.mul i te.size, te.size)) f ti.zc.toL ps.toList)) fun l => cond ti.zero.isSome (ret (.ag l)) fail
    | _ => fail
  | .buildSlice t n ps => bnd (lft (tb.ty.get t)) fun ti => match ti.k with
    | .slice e => bnd (lft (tb.ty.get e)) fun te => cond (Nat.ble (Nat.mul n te.size) 16777216)
        (bnd (lft (bI6 (fun i => some (Nat.mul i te.size, te.size)) f (reps te.zc n).toL ps.toList)) fun l =>
          cond (l.all scal && te.zs) (bnd (new (cQ4 e (toCells (cX2 te.k) l))) fun v => ret (.sl v 0 n n false)) fail) fail
    | _ => fail
  | .load t a => cQ7 tb t (f a)
  | .store t a x => bnd (bG2 tb t (f a) (f x)) fun _ => ret .und
  | .nilCheck x => match f x with
    | .p v o => ret (.p v o)
    | .px v i => ret (.px v i)
    | .pr v i s o => ret (.pr v i s o)
    | .h t => ret (.h t)
    | .ifc t v => ret (.ifc t v)
    | .fn g a c => ret (.fn g a c)
    | .yl n => ret (.yl n)
    | _ => fail
  | .binOp o t x y _ => bin tb o t (isC x || isC y) (f x) (f y)
  | .unOp o _ x => match o, f x with
    | .not, .b v => ret (.b (!v))
    | .neg, .i k v => ret (mkI k (-v))
    | o, .x a => lft (hl tb.hyp (.un o (.x a)))
    | _, _ => fail
  | .convert src dst x => match cvk tb src dst (f x) with
   | some m => m
   | none => bnd (lft (tb.ty.get src)) fun ts => bnd (lft (tb.ty.get dst)) fun td => cond (isBad ts.k) fail <| match td.k, f x with
    | .int k, .i _ n => ret (mkI k n)
    | .int _, .x a => lft (hl tb.hyp (.conv dst (.x a)))
    | .str, .x a => lft (hl tb.hyp (.conv dst (.x a)))
    | .str, .s k n => ret (.s k n)
    | .str, .nils => cond (slU8 tb ts.k) (ret (dM3 tb.hyp)) fail
    | .str, .es => cond (slU8 tb ts.k) (ret (.s 0 0)) fail
    | .str, .sl v o n _ _ => cond (slU8 tb ts.k) (bnd (rd v) fun k => bnd (lft (k.c.sub o n)) fun c => match c with
        | .y l m => ret (.s l m)
        | .l vs => match bP6 vs with
          | some r => ret (.s r.1 r.2)
          | none => lft (hl tb.hyp (.bytes vs))) fail
    | .slice e, .sl v o n c r => cond (isU8 tb e && Nat.beq src dst && slU8 tb ts.k && Nat.ble 1 n) (bnd (rd v) fun k => cond (Nat.beq k.e e && !k.g && !k.st && Nat.beq k.fr 0) (bnd (upd v { k with st := true }) fun _ => ret (.sl v o n c r)) fail) fail
    | .slice e, .s k n => cond (isU8 tb e && isStr ts.k) (bnd (new ⟨e, .y k n, k, 1, 0, true, true⟩) fun v => ret (.sl v 0 k 0 true)) fail
    | .uptr, .p v o => match ts.k with
      | .ptr e => bnd (lft (tb.ty.get e)) fun te => bnd (rd v) fun k => cond (Nat.beq te.size 0 || Nat.ble k.c.len o) fail (ret (.p v o))
      | _ => fail
    | .ptr e, .p v o => match ts.k with
      | .uptr => bnd (lft (tb.ty.get e)) fun te => bnd (rd v) fun k => cond (Nat.beq k.e e && Nat.beq o 0 && !k.g && Nat.ble 1 te.size && Nat.ble te.size k.c.len) (ret (.p v o)) fail
      | _ => fail
    | _, _ => fail
  | .makeInterface t x => bnd (lft (tb.ty.get t)) fun ti => match ti.k with
    | .iface _ => fail
    | .bad => fail
    | _ => ret (.ifc t (f x))
  | .makeFunc fn first cap => match fn with
    | .func g => ret (.fn g (first.toList.map f) (cap.toList.map f))
    | _ => fail
  | .makeSlice t n c => match symS (f n) (f c) with
   | some a => mkY tb t a
   | none => bnd (lft (tb.ty.get t)) fun ti => match ti.k, asN (f n), asN (f c) with
    | .slice e, some n, some c => bnd (lft (tb.ty.get e)) fun te => cond (Nat.ble n c && Nat.ble (Nat.mul te.bytes c) 281474976710656 && Nat.ble c 9223372036854775807 && te.zs)
        (bnd (new (cQ4 e (reps te.zc c))) fun v => ret (.sl v 0 n c false)) fail
    | _, _, _ => fail
  | .slice t x lo hi mx => match mx with
    | some mx => bnd (lft (tb.ty.get t)) fun ti => bnd (lft (asN (f mx))) fun mx => match ti.k, f x with
      | .slice e, .sl v o n c r => bnd (lft (sl2 f lo hi n)) fun p => bnd (lft (tb.ty.get e)) fun te => cond hi.isSome (lft (slc3 v o n c r te.size p.1 p.2 mx)) fail
      | _, _ => fail
    | none => bnd (lft (tb.ty.get t)) fun ti => match ti.k, f x with
      | .str, .s k n => match sl2 f lo hi k with
        | some p => cond (Nat.ble p.1 p.2 && Nat.ble p.2 k) (ret (.s (Nat.sub p.2 p.1) (low (Nat.shiftRight n (Nat.mul 8 p.1)) (Nat.sub p.2 p.1)))) fail
        | none => lft (hl tb.hyp (.sub (.s k n) (lo.map f) (hi.map f)))
      | .str, .x a => lft (hl tb.hyp (.sub (.x a) (lo.map f) (hi.map f)))
      | .slice e, .sl v o n c r => bnd (lft (sl2 f lo hi n)) fun p => bnd (lft (tb.ty.get e)) fun te => cond (r && Nat.blt n p.2) (slcW v o c te.size p.1 p.2) (lft (slc v o n c r te.size p.1 p.2))
      | .slice e, .nils => bnd (lft (sl2 f lo hi 0)) fun p => bnd (lft (tb.ty.get e)) fun _ => cond (Nat.beq p.1 0 && Nat.beq p.2 0) (ret .nils) fail
      | .slice e, .es => bnd (lft (sl2 f lo hi 0)) fun p => bnd (lft (tb.ty.get e)) fun _ => cond (Nat.beq p.1 0 && Nat.beq p.2 0) (ret .es) fail
      | .slice e, .sy v => slY tb e v (lo.map f) (hi.map f)
      | .slice e, .sr v => slR tb e v (lo.map f) (hi.map f)
      | .arr n e, .p v o => bnd (lft (sl2 f lo hi n)) fun p => bnd (lft (tb.ty.get e)) fun te => lft (slc v o n n false te.size p.1 p.2)
      | _, _ => fail
  | .fieldAddr t x i => bnd (lft (tb.ty.get t)) fun ti => bnd (lft (fget ti.fs i)) fun fl => match f x with
    | .p v o => cond (Nat.beq fl.sz 0) fail (ret (.p v (Nat.add o fl.off)))
    | .pr v j s o => cond (Nat.beq fl.sz 0) fail (ret (.pr v j s (Nat.add o fl.off)))
    | _ => fail
  | .field t x i => bnd (lft (tb.ty.get t)) fun ti => bnd (lft (fget ti.fs i)) fun fl => match f x with
    | .ag l => lft (part l fl)
    | _ => fail
  | .indexAddr t x ix => match syN (f x) with
   | some v => idxY tb t v (f ix)
   | none => match srN (f x) with
    | some v => idxR tb t v (f ix)
    | none => match dL0 (f x) (f ix) with
    | some v => cX4 tb t v (f ix)
    | none => bnd (lft (tb.ty.get t)) fun ti => match ti.k, f x, asN (f ix) with
    | .arr n e, .p v o, some i => cond (Nat.blt i n) (bnd (lft (tb.ty.get e)) fun te => ret (.p v (Nat.add o (Nat.mul i te.size)))) fail
    | .slice e, .sl v o n _ _, some i => cond (Nat.blt i n) (bnd (lft (tb.ty.get e)) fun te => ret (.p v (Nat.add o (Nat.mul i te.size)))) fail
    | _, _, _ => fail
  | .index t x ix => bnd (lft (tb.ty.get t)) fun ti => match ti.k, f x, asN (f ix) with
    | .str, .s k n, some i => cond (Nat.blt i k) (ret (.i .u8 (.ofNat (byteAt n i)))) fail
    | .str, .s k n, none => lft (hl tb.hyp (.idx (.s k n) (f ix)))
    | .str, .x a, _ => lft (hl tb.hyp (.idx (.x a) (f ix)))
    | .arr n e, .ag l, some i => cond (Nat.blt i n) (bnd (lft (tb.ty.get e)) fun te => lft (part l ⟨Nat.mul i te.size, e, te.size, isAgg te.k, isBad te.k, true⟩)) fail
    | .arr n e, .ag l, none => bnd (lft (tb.ty.get e)) fun te => cond (Nat.beq te.size 1 && !isAgg te.k && !isBad te.k && Nat.beq l.length n) (lft (hl tb.hyp (.tab l (f ix)))) fail
    | _, _, _ => fail
  | .typeAssert x _ t ok => match f x with
    | .ifc d v => bnd (lft (tb.ty.get t)) fun ti => cond (isBad ti.k) fail <| cond (isIf ti.k)
      (bnd (lft (impl tb.imp t d)) fun r => cond r (ret (cond ok (.tu [.ifc d v, .b true]) (.ifc d v))) (cond ok (bnd (lft ti.zero) fun z => ret (.tu [z, .b false])) fail))
      (cond (Nat.beq d t) (ret (cond ok (.tu [v, .b true]) v)) (cond ok (bnd (lft ti.zero) fun z => ret (.tu [z, .b false])) fail))
    | .ni => cond ok (bnd (lft (tb.ty.get t)) fun ti => cond (isBad ti.k) fail (bnd (lft ti.zero) fun z => ret (.tu [z, .b false]))) fail
    | _ => fail
  | .extract x k => match f x with
    | .tu l => lft (lget l k)
    | _ => fail
  | _ => fail

def bF9 : AV → Option Nat
  | .s k _ => some k
  | .nils => some 0
  | .es => some 0
  | .sl _ _ n _ _ => some n
  | _ => none
def src (sz : Nat) (x : AV) : M Cells := match x with
  | .s k n => cond (Nat.beq sz 1) (ret (.y k n)) fail
  | .nils => ret (.l [])
  | .es => ret (.l [])
  | .sl v o n _ _ => bnd (rd v) fun k => lft (k.c.sub o (Nat.mul n sz))
  | _ => fail
def grow (e sz : Nat) (old d : Cells) (n : Nat) : M AV := bnd (new ⟨e, old.app d, Nat.mul n sz, sz, 0, false, true⟩) fun v => ret (.sl v 0 n 0 true)
def aT6 : Cells → Cells
  | .y _ _ => .y 0 0
  | .l _ => .l []
def big (bytes n : Nat) : Bool := Nat.blt 140737488355328 (Nat.mul bytes n) || Nat.blt 140737488355328 n
def appd (e sz bytes : Nat) (s : AV) (n : Nat) (d : Cells) : M AV := cond (Nat.beq sz 0) fail (match s with
  | .nils => cond (Nat.beq n 0) (ret .nils) (cond (big bytes n) fail (grow e sz (aT6 d) d n))
  | .sl v o len cap r => cond (Nat.beq n 0) (ret (.sl v o len cap r)) <| bnd (rd v) fun k =>
      let need := Nat.add len n
      let at_ := Nat.add o (Nat.mul len sz)
      cond (big bytes need) fail <|
      cond r
        (cond (k.g && Nat.beq k.es sz && Nat.beq o (Nat.mul cap sz) && Nat.ble k.fr at_)
          (cond (Nat.ble (Nat.mul (Nat.add cap need) sz) k.m)
            (bnd (lft (k.c.put at_ d)) fun c => bnd (upd v { k with c }) fun _ => ret (.sl v o need cap true))
            (bnd (lft (k.c.sub o (Nat.mul len sz))) fun old => bnd (kill v) fun _ => bnd (new ⟨k.e, old.app d, Nat.mul need sz, sz, Nat.sub k.fr o, k.st, true⟩) fun v' => cond (Nat.beq k.e e) (ret (.sl v' 0 need 0 true)) fail))
          fail)
        (cond (Nat.ble need cap)
          (cond (Nat.ble k.fr at_ && Nat.ble (Nat.add at_ (Nat.mul n sz)) k.c.len && !k.g) (bnd (lft (k.c.put at_ d)) fun c => bnd (upd v { k with c }) fun _ => ret (.sl v o need cap false)) fail)
          (bnd (lft (k.c.sub o (Nat.mul len sz))) fun old => grow e sz old d need))
  | _ => fail)
def lenK (tb : Tab) (k : K) (x : AV) : M AV := match k, x with
  | .str, .s k _ => ret (.i .i64 (.ofNat k))
  | .str, .x a => lft (hl tb.hyp (.len (.x a)))
  | .slice _, .nils => ret (.i .i64 (.ofNat 0))
  | .slice _, .sl _ _ n _ _ => ret (.i .i64 (.ofNat n))
  | .slice _, .es => ret (.i .i64 (.ofNat 0))
  | .slice _, .sy v => bnd (rdT v) fun r => lft (hl tb.hyp (.len (.x r.1)))
  | .slice _, .x a => lft (hl tb.hyp (.slen (.x a)))
  | .slice _, .sr v => bnd (rdA v) fun k => (match k with | .r id _ sz _ => lft (hl tb.hyp (.rl (.x id) sz)) | _ => fail)
  | .arr n _, _ => ret (.i .i64 (.ofNat n))
  | _, _ => fail
def capK (k : K) (x : AV) : M AV := match k, x with
  | .slice _, .nils => ret (.i .i64 (.ofNat 0))
  | .slice _, .sl _ _ _ c false => ret (.i .i64 (.ofNat c))
  | _, _ => fail
def isInt : K → Bool
  | .int _ => true
  | _ => false
def appK (tb : Tab) (st xt : Nat) (s x : AV) : M AV := bnd (lft (tb.ty.get st)) fun ti => match ti.k with
  | .slice e => bnd (lft (tb.ty.get e)) fun te => bnd (lft (tb.ty.get xt)) fun tx => cond (isBad tx.k || !te.zs) fail <|
      cond (isInt tx.k) (bnd (lft (asN x)) fun n => cond (big te.bytes n) fail (appd e te.size te.bytes s n (reps te.zc n)))
        (bnd (lft (bF9 x)) fun n => bnd (src te.size x) fun d => appd e te.size te.bytes s n d)
  | _ => fail
def bH4 (tb : Tab) (r1 : Nat) (x : AV) : M AV := match x with
  | .x a => lft (hl tb.hyp (.bin .add (.x r1) (.x a)))
  | .sy w => bnd (rdT w) fun q => lft (hl tb.hyp (.bin .add (.x r1) (.x q.1)))
  | x => bnd (lft (bF9 x)) fun _ => bnd (src 1 x) fun d => lft (hl tb.hyp (.app (.x r1) d.toL))
def appY (tb : Tab) (st xt v : Nat) (x : AV) : M AV := bnd (lft (tb.ty.get st)) fun ti => bnd (lft (slE ti.k)) fun e => bnd (lft (tb.ty.get e)) fun te => bnd (lft (tb.ty.get xt)) fun tx =>
  cond (u8T tb e && te.zs && Nat.beq te.bytes 1 && !(isInt tx.k) && !(isBad tx.k)) (bnd (rdT v) fun r => cond (Nat.beq r.2 e) (bnd (bH4 tb r.1 x) fun z => bnd (lft (symN z)) fun a => bnd (lft (hl tb.hyp (.fit (.x a)))) fun _ =>
    bnd (kill v) fun _ => bnd (newE (.t a e)) fun v' => ret (.sy v')) fail) fail
def appN (tb : Tab) (st xt a : Nat) : M AV := bnd (lft (tb.ty.get st)) fun ti => bnd (lft (slE ti.k)) fun e => bnd (lft (tb.ty.get e)) fun te => bnd (lft (tb.ty.get xt)) fun tx =>
  cond (u8T tb e && te.zs && Nat.beq te.bytes 1 && !(isInt tx.k) && !(isBad tx.k)) (bnd (lft (hl tb.hyp (.byt (.x a) (.i .i64 (.ofNat 0))))) fun _ => bnd (lft (hl tb.hyp (.fit (.x a)))) fun _ =>
    bnd (newE (.t a e)) fun v' => ret (.sy v')) fail
def xOf : Option AV → Option Nat
  | some (.x q) => some q
  | _ => none
def nilX (h : List (HK × AV)) : AV → AV → Option Nat
  | .nils, .x a => some a
  | .nils, .s k n => cond (Nat.beq k 0) none (xOf (hl h (.bin .add (.s k n) (.s 0 0))))
  | _, _ => none
def isSl : AV → Bool
  | .sl .. => true
  | _ => false
def bD3 : AV → Bool
  | .nils => true
  | _ => false
def slTt (tb : Tab) (st : Nat) : Bool := match tb.ty.get st with
  | some ti => slT tb ti.k
  | none => false
def nilE (tb : Tab) (st : Nat) (s x : AV) : Option Nat := cond (bD3 s && isSl x && slTt tb st) (xOf (hlq tb.hyp (.bytes []))) none
def appE (tb : Tab) (st xt e0 : Nat) (x : AV) : M AV := bnd (lft (tb.ty.get st)) fun ti => bnd (lft (slE ti.k)) fun e => bnd (lft (tb.ty.get e)) fun te => bnd (lft (tb.ty.get xt)) fun tx =>
  cond (u8T tb e && te.zs && Nat.beq te.bytes 1 && !(isInt tx.k) && !(isBad tx.k)) (bnd (bH4 tb e0 x) fun z => bnd (lft (symN z)) fun a => bnd (lft (hl tb.hyp (.byt (.x a) (.i .i64 (.ofNat 0))))) fun _ => bnd (lft (hl tb.hyp (.fit (.x a)))) fun _ =>
    bnd (newE (.t a e)) fun v' => ret (.sy v')) fail
def appR (tb : Tab) (st xt v : Nat) (x : AV) : M AV := bnd (lft (tb.ty.get st)) fun ti => bnd (lft (slE ti.k)) fun e => bnd (lft (tb.ty.get e)) fun te => bnd (lft (tb.ty.get xt)) fun tx =>
  cond (te.zs && !(isInt tx.k) && !(isBad tx.k)) (bnd (rdA v) fun k => match k with
    | .r id e' sz false => cond (Nat.beq e' e && Nat.beq te.size sz) (bnd (lft (bF9 x)) fun _ => bnd (src sz x) fun d => bnd (lft (hl tb.hyp (.ra (.x id) d.toL))) fun z => bnd (lft (symN z)) fun a => bnd (lft (hl tb.hyp (.rf (.x a) sz te.bytes))) fun _ =>
        bnd (kill v) fun _ => bnd (newE (.r a e sz false)) fun v' => ret (.sr v')) fail
    | _ => fail) fail
def nilR (tb : Tab) (s x : AV) : Option Nat := cond (bD3 s && isSl x) (xOf (hlq tb.hyp .rn)) none
def dA4 (tb : Tab) (st xt e0 : Nat) (x : AV) : M AV := bnd (lft (tb.ty.get st)) fun ti => bnd (lft (slE ti.k)) fun e => bnd (lft (tb.ty.get e)) fun te => bnd (lft (tb.ty.get xt)) fun tx =>
  cond (te.zs && !(isInt tx.k) && !(isBad tx.k) && Nat.ble 1 te.size) (bnd (lft (bF9 x)) fun n => cond (Nat.ble 1 n) (bnd (src te.size x) fun d => bnd (lft (hl tb.hyp (.ra (.x e0) d.toL))) fun z => bnd (lft (symN z)) fun a => bnd (lft (hl tb.hyp (.rf (.x a) te.size te.bytes))) fun _ =>
    bnd (newE (.r a e te.size false)) fun v' => ret (.sr v')) fail) fail
def dA3 (tb : Tab) (st xt v w : Nat) : M AV := bnd (lft (tb.ty.get st)) fun ti => bnd (lft (slE ti.k)) fun e => bnd (lft (tb.ty.get e)) fun te => bnd (lft (tb.ty.get xt)) fun tx =>
  cond (te.zs && !(isInt tx.k) && !(isBad tx.k)) (bnd (rdA v) fun k => bnd (rdA w) fun j => match k, j with
    | .r id e' sz false, .r jd _ sz2 _ => cond (Nat.beq e' e && Nat.beq te.size sz && Nat.beq sz2 sz) (bnd (lft (hl tb.hyp (.rr (.x id) (.x jd)))) fun z => bnd (lft (symN z)) fun a => bnd (lft (hl tb.hyp (.rf (.x a) sz te.bytes))) fun _ =>
        bnd (kill v) fun _ => bnd (newE (.r a e sz false)) fun v' => ret (.sr v')) fail
    | _, _ => fail) fail
def nilRR (tb : Tab) (s x : AV) : Option (Nat × Nat) := cond (bD3 s) (match srN x, xOf (hlq tb.hyp .rn) with | some w, some e0 => some (e0, w) | _, _ => none) none
def bT6 (tb : Tab) (st xt e0 w : Nat) : M AV := bnd (lft (tb.ty.get st)) fun ti => bnd (lft (slE ti.k)) fun e => bnd (lft (tb.ty.get e)) fun te => bnd (lft (tb.ty.get xt)) fun tx =>
  cond (te.zs && !(isInt tx.k) && !(isBad tx.k) && Nat.ble 1 te.size) (bnd (rdA w) fun j => match j with
    | .r jd _ sz2 _ => cond (Nat.beq sz2 te.size) (bnd (lft (hl tb.hyp (.rl (.x jd) sz2))) fun m => bnd (lft (hl tb.hyp (.bin .gtr m (.i .i64 (.ofNat 0))))) fun g => match g with
      | .b false => ret .nils
      | .b true => bnd (lft (hl tb.hyp (.rr (.x e0) (.x jd)))) fun z => bnd (lft (symN z)) fun a => bnd (lft (hl tb.hyp (.rf (.x a) te.size te.bytes))) fun _ => bnd (newE (.r a e te.size false)) fun v' => ret (.sr v')
      | _ => fail) fail
    | _ => fail) fail
def appGN (tb : Tab) (st xt a : Nat) : M AV := bnd (lft (tb.ty.get st)) fun ti => bnd (lft (slE ti.k)) fun e => bnd (lft (tb.ty.get e)) fun te => bnd (lft (tb.ty.get xt)) fun tx =>
  cond (te.zs && isInt tx.k && Nat.ble 1 te.size) (bnd (lft (hl tb.hyp (.bin .gtr (.x a) (.i .i64 (.ofNat 0))))) fun g => match g with
    | .b true => bnd (lft (hl tb.hyp (.rg e (.x a)))) fun z => bnd (lft (symN z)) fun b => bnd (newE (.r b e te.size false)) fun v' => ret (.sr v')
    | _ => fail) fail
def intTt (tb : Tab) (st : Nat) : Bool := match tb.ty.get st with
  | some ti => isInt ti.k
  | none => false
def appNG (tb : Tab) (st xt a : Nat) : M AV := cond (intTt tb xt) (appGN tb st xt a) (appN tb st xt a)
def dG2 : AV → AV → Option Nat
  | .sl _ _ n c false, .sr w => cond (Nat.beq n c) (some w) none
  | _, _ => none
def dA2 (tb : Tab) (st xt : Nat) (s : AV) (w : Nat) : M AV := bnd (lft (tb.ty.get st)) fun ti => bnd (lft (slE ti.k)) fun e => bnd (lft (tb.ty.get e)) fun te => bnd (lft (tb.ty.get xt)) fun tx =>
  cond (te.zs && !(isInt tx.k) && !(isBad tx.k) && Nat.ble 1 te.size) (bnd (rdA w) fun j => match j with
    | .r jd _ sz2 _ => cond (Nat.beq sz2 te.size) (bnd (lft (hl tb.hyp (.rl (.x jd) sz2))) fun m => bnd (lft (hl tb.hyp (.bin .gtr m (.i .i64 (.ofNat 0))))) fun g => match g with
      | .b true => bnd (lft (bF9 s)) fun n => bnd (src te.size s) fun d => bnd (lft (hl tb.hyp .rn)) fun y0 => bnd (lft (symN y0)) fun e0 => bnd (lft (hl tb.hyp (.ra (.x e0) d.toL))) fun z1 => bnd (lft (symN z1)) fun a1 =>
          bnd (lft (hl tb.hyp (.rr (.x a1) (.x jd)))) fun z => bnd (lft (symN z)) fun a => bnd (lft (hl tb.hyp (.rf (.x a) te.size te.bytes))) fun _ => bnd (newE (.r a e te.size false)) fun v' => ret (.sr v')
      | _ => fail) fail
    | _ => fail) fail
def appT (tb : Tab) (st xt : Nat) (s x : AV) : M AV := match syN s with
  | some v => appY tb st xt v x
  | none => match nilX tb.hyp s x with
    | some a => appNG tb st xt a
    | none => match nilE tb st s x with
      | some e0 => appE tb st xt e0 x
      | none => match srN s with
        | some v => (match srN x with
          | some w => dA3 tb st xt v w
          | none => appR tb st xt v x)
        | none => match nilR tb s x with
          | some e0 => dA4 tb st xt e0 x
          | none => match nilRR tb s x with
            | some q => bT6 tb st xt q.1 q.2
            | none => match dG2 s x with
              | some w => dA2 tb st xt s w
              | none => appK tb st xt s x
def copyK (tb : Tab) (st : Nat) (d x : AV) : M AV := bnd (lft (tb.ty.get st)) fun ti => match ti.k with
  | .slice e => bnd (lft (tb.ty.get e)) fun te => bnd (lft (bF9 x)) fun n => match d with
    | .nils => ret (.i .i64 (.ofNat 0))
    | .sl v o len _ _ =>
      let m := Nat.min n len
      bnd (src te.size x) fun c => bnd (lft (c.sub 0 (Nat.mul m te.size))) fun c => bnd (rd v) fun k =>
        cond (Nat.ble k.fr o && Nat.ble (Nat.add o (Nat.mul m te.size)) k.c.len) (bnd (lft (k.c.put o c)) fun c' => bnd (upd v { k with c := c' }) fun _ => ret (.i .i64 (.ofNat m))) fail
    | _ => fail
  | _ => fail
def detA : AV → Bool
  | .x _ => true
  | .i _ _ => true
  | _ => false
def zeroI : AV → Bool
  | .i _ (.ofNat n) => Nat.beq n 0
  | _ => false
def pxN : AV → Option (Nat × AV)
  | .px v i => some (v, i)
  | _ => none
def ptE : K → Option Nat
  | .ptr e => some e
  | _ => none
def dataY (tb : Tab) (v : Nat) : M AV := bnd (rdT v) fun r => bnd (lft (hl tb.hyp (.byt (.x r.1) (.i .i64 (.ofNat 0))))) fun _ => ret (.px v (.i .i64 (.ofNat 0)))
def ustrY (tb : Tab) (pt v : Nat) (i nn : AV) : M AV := cond (zeroI i) (bnd (lft (tb.ty.get pt)) fun tp => bnd (lft (ptE tp.k)) fun e => cond (u8T tb e) (bnd (rdT v) fun r => cond (u8T tb r.2)
  (bnd (lft (hl tb.hyp (.len (.x r.1)))) fun a => cond (aW8 8 a nn && detA nn) (bnd (lft (hl tb.hyp (.fit (.x r.1)))) fun _ => bnd (lft (hl tb.hyp (.byt (.x r.1) (.i .i64 (.ofNat 0))))) fun _ => bnd (kill v) fun _ => ret (.x r.1)) fail) fail) fail) fail
def dataK (x : AV) : M AV := match x with
  | .nils => ret .nilp
  | .sl v o _ c false => cond (Nat.beq c 0) fail (ret (.p v o))
  | .sl v o n c true => cond (Nat.beq n 0) (bnd (rd v) fun k => cond (k.g && Nat.blt (Nat.mul c k.es) k.m) (ret (.p v o)) fail) (ret (.p v o))
  | _ => fail
def ustrK (tb : Tab) (pt : Nat) (x n : AV) : M AV := match x, asN n with
  | .nilp, some 0 => ret (.s 0 0)
  | .p v o, some n => cond (Nat.beq n 0) (ret (.s 0 0)) (bnd (lft (tb.ty.get pt)) fun tp => match tp.k with
    | .ptr e => bnd (rd v) fun k => bnd (lft (tb.ty.get k.e)) fun te => cond (isU8 tb e && cX2 te.k && Nat.beq te.size 1 && !k.st && Nat.ble n 140737488355328) (bnd (lft (k.c.sub o n)) fun c => match c with
        | .y l m => bnd (upd v { k with fr := max k.fr (Nat.add o n) }) fun _ => ret (.s l m)
        | .l vs => bnd (lft (bP6 vs)) fun r => bnd (upd v { k with fr := max k.fr (Nat.add o n) }) fun _ => ret (.s r.1 r.2)) fail
    | _ => fail)
  | _, _ => fail
def dataU (tb : Tab) (x : AV) : M AV := match syN x with
  | some v => dataY tb v
  | none => dataK x
def ustrU (tb : Tab) (pt : Nat) (x n : AV) : M AV := match pxN x with
  | some p => ustrY tb pt p.1 p.2 n
  | none => ustrK tb pt x n
def max2 (x y : AV) : Option AV := match x, y with
  | .i k a, .i _ c => some (.i k (cond (ilt a c) c a))
  | _, _ => none
def min2 (x y : AV) : Option AV := match x, y with
  | .i k a, .i _ c => some (.i k (cond (ilt c a) c a))
  | _, _ => none
def mm (tb : Tab) (mx : Bool) (x y : AV) : Option AV := match x, y with
  | .x a, y => hl tb.hyp (.mm mx (.x a) y)
  | x, .x c => hl tb.hyp (.mm mx x (.x c))
  | x, y => cond mx (max2 x y) (min2 x y)
def dI5 (f : AV → AV → Option AV) : AV → List AV → Option AV
  | x, [] => some x
  | x, y :: l => match f x y with
    | some z => dI5 f z l
    | none => none
def builtin (tb : Tab) (bi : Builtin) (ts : List Nat) (args : List AV) : M AV := match bi, ts, args with
  | .len, t :: _, [x] => bnd (lft (tb.ty.get t)) fun ti => lenK tb ti.k x
  | .cap, t :: _, [x] => bnd (lft (tb.ty.get t)) fun ti => capK ti.k x
  | .max, _, x :: l => lft (dI5 (mm tb true) x l)
  | .min, _, x :: l => lft (dI5 (mm tb false) x l)
  | .append, st :: xt :: _, [s, x] => appT tb st xt s x
  | .copy, st :: _, [d, x] => copyK tb st d x
  | .clear, t :: _, [x] => clrK tb t x
  | .unsafeSliceData, _, [x] => dataU tb x
  | .unsafeString, pt :: _, [x, n] => ustrU tb pt x n
  | _, _, _ => fail

/- functions without a body, by a number -/
def dG4 : Nat → Nat → Nat → Nat → Option Nat
  | 0, _, _, _ => none
  | f + 1, n, c, j => cond (Nat.beq (Nat.mod n 256) c) (some j) (dG4 f (Nat.shiftRight n 8) c (Nat.succ j))
def bytesN (x : AV) : M (Nat × Nat) := match x with
  | .s k n => ret (k, n)
  | .nils => ret (0, 0)
  | .sl v o n _ _ => bnd (rd v) fun k => bnd (lft (k.c.sub o n)) fun c => match c with
    | .y l m => ret (l, m)
    | .l vs => lft (bP6 vs)
  | _ => fail
def cZ7 : Nat → Nat → Nat → Nat
  | 0, _, _ => 0
  | f + 1, n, c => cond (Nat.beq (Nat.mod n 256) c) (Nat.succ (cZ7 f (Nat.shiftRight n 8) c)) (cZ7 f (Nat.shiftRight n 8) c)
def aU0 : List (Nat × Nat) → Nat → Option Nat
  | [], _ => none
  | (a, r) :: l, x => cond (Nat.beq a x) (some r) (aU0 l x)
/- reflectlite's Value, rtype, Type -/
def rvL : List AV → Option (Nat × Nat × Nat × Nat)
  | [.h t, .p b o, .i .u64 (.ofNat f)] => some (t, b, o, f)
  | _ => none
def rv : AV → Option (Nat × Nat × Nat × Nat)
  | .ag l => rvL l
  | _ => none
def rhL : List AV → Option Nat
  | [.h t] => some t
  | _ => none
def rh : AV → Option Nat
  | .ag l => rhL l
  | _ => none
def rti : AV → Option Nat
  | .ifc _ v => rh v
  | _ => none
def x7 (tb : Tab) (x : AV) : M AV := match x with
  | .ifc t v => bnd (lft (aU0 tb.kd t)) fun k => bnd (lft (cellsOf v)) fun l => cond (l.all scal) (bnd (new (cQ4 t (.l l))) fun b => ret (.ag [.h t, .p b 0, .i .u64 (.ofNat (Nat.add k 128))])) fail
  | _ => fail
def x8 (tb : Tab) (x : AV) : M AV := bnd (lft (rv x)) fun r => cond (Nat.beq r.2.2.2 0) fail (ret (.ifc tb.rty (.ag [.h r.1])))
def nilQ : AV → M AV
  | .nilp => ret (.b true)
  | .p _ _ => ret (.b false)
  | _ => fail
def x9 (tb : Tab) (x : AV) : M AV := bnd (lft (rv x)) fun r => bnd (lft (aU0 tb.el r.1)) fun _ => cond (Nat.beq (Nat.mod r.2.2.2 32) 22) (bnd (load tb r.1 (.p r.2.1 r.2.2.1)) nilQ) fail
def x10 (tb : Tab) (x : AV) : M AV := match x with
  | .h t => bnd (lft (aU0 tb.kd t)) fun k => ret (.i .u8 (.ofNat k))
  | _ => fail
def x11 (tb : Tab) (x : AV) : M AV := bnd (lft (rh x)) fun t => bnd (lft (aU0 tb.el t)) fun e => ret (.ifc tb.rty (.ag [.h e]))
def x12 (tb : Tab) (x y : AV) : M AV := bnd (lft (rh x)) fun t => bnd (lft (rti y)) fun u => bnd (lft (impl tb.im2 u t)) fun r => ret (.b r)
def x13 (tb : Tab) (x y : AV) : M AV := bnd (lft (rh x)) fun t => bnd (lft (rti y)) fun u => bnd (lft (impl tb.asg u t)) fun r => ret (.b r)
def x14b (tb : Tab) (t : Nat) : AV → M AV
  | .p b o => bnd (lft (aU0 tb.el t)) fun e => bnd (lft (aU0 tb.kd e)) fun k => ret (.ag [.h e, .p b o, .i .u64 (.ofNat (Nat.add k 384))])
  | _ => fail
def x14 (tb : Tab) (x : AV) : M AV := bnd (lft (rv x)) fun r => bnd (lft (aU0 tb.el r.1)) fun _ => cond (Nat.beq (Nat.mod r.2.2.2 32) 22) (bnd (load tb r.1 (.p r.2.1 r.2.2.1)) (x14b tb r.1)) fail
def x15 (tb : Tab) (x y : AV) : M AV := bnd (lft (rv x)) fun r => bnd (lft (rv y)) fun q => bnd (lft (aU0 tb.kd r.1)) fun _ => cond (Nat.beq r.1 q.1 && (Nat.beq (Nat.mod (Nat.div r.2.2.2 256) 2) 1 && !(Nat.beq q.2.2.2 0)))
  (bnd (load tb q.1 (.p q.2.1 q.2.2.1)) fun v => bnd (store tb r.1 (.p r.2.1 r.2.2.1) v) fun _ => ret (.tu [])) fail
def byQ (f : Nat → AV) (y : AV) : M AV := match y with
  | .i .u8 (.ofNat c) => cond (Nat.blt c 256) (ret (f c)) fail
  | _ => fail
def idxAV : Option Nat → AV
  | some j => .i .i64 (.ofNat j)
  | none => .i .i64 (-1)
def x3 (x y : AV) : M AV := match x with
  | .s k n => byQ (fun c => idxAV (dG4 k n c 0)) y
  | _ => fail
def x4 (x y : AV) : M AV := match x with
  | .s k n => byQ (fun c => .i .i64 (.ofNat (cZ7 k n c))) y
  | _ => fail
def ext (tb : Tab) (e : Nat) (args : List AV) : M AV := match e, args with
  | 1, [x] => ret x                                            -- abi.NoEscape
  | 2, [.i .i64 (.ofNat n)] => cond (Nat.ble n 140737488355328) (bnd (new ⟨tb.u8, .y 0 0, n, 1, 0, false, true⟩) fun v => ret (.sl v 0 n 0 true)) fail
  | 3, [x, y] => x3 x y     -- bytealg.IndexByteString
  | 4, [x, y] => x4 x y     -- bytealg.CountString
  | 5, [x] => match x with     -- reflectlite.TypeOf
    | .ifc t _ => ret (.ifc tb.rty (.ag [.h t]))
    | _ => fail
  | 6, [.ag [.h t]] => bnd (lft (tb.ty.get t)) fun ti => ret (.b ti.cmp)   -- rtype.Comparable
  | 7, [x] => x7 tb x       -- reflectlite.ValueOf
  | 8, [x] => x8 tb x       -- Value.Type
  | 9, [x] => x9 tb x       -- Value.IsNil
  | 10, [x] => x10 tb x     -- abi.Type.Kind
  | 11, [x] => x11 tb x     -- rtype.Elem
  | 12, [x, y] => x12 tb x y     -- rtype.Implements
  | 13, [x, y] => x13 tb x y     -- rtype.AssignableTo
  | 14, [x] => x14 tb x     -- Value.Elem
  | 15, [x, y] => x15 tb x y     -- Value.Set
  | _, _ => fail

structure Rec where
  idx : Nat
  acc : Nat
  wr : Nat
def clash (x y : Rec) : Bool := !(Nat.beq (Nat.lor (Nat.land x.wr y.acc) (Nat.land y.wr x.acc)) 0)
def bD8 : List Rec → Bool
  | [] => false
  | x :: l => l.any (clash x) || bD8 l
def aK8 (e : Edge) : Bool := match e.ground with
  | .textOnly _ => false
  | .gcOnly _ => false
  | _ => true
def aS1 (t : T Nat) (i : Nat) : Nat := match t.get i with
  | some m => m
  | none => 0
def ancE (t : T Nat) : List Edge → Nat → Nat
  | [], s => s
  | e :: l, s => ancE t l (cond (aK8 e) (Nat.lor (Nat.lor s (bit e.on)) (aS1 t e.on)) s)
def anc : List Oper → Nat → T Nat → T Nat
  | [], _, t => t
  | o :: r, i, t => anc r (Nat.succ i) (t.set i (ancE t o.after.toList 0))
def bP7 (t : T Nat) : List Rec → Bool
  | [] => true
  | y :: l => l.all (fun x => !(clash x y) || Nat.testBit (aS1 t y.idx) x.idx) && bP7 t l
def tmpsOf : List Operand → List Nat
  | [] => []
  | .tmp t :: l => t :: tmpsOf l
  | _ :: l => tmpsOf l
def looks (all : List Oper) (o : Oper) : List Nat := match o.guard with
  | none => tmpsOf o.op.operands.toList
  | some (g, _) => match all[g]? with
    | some o' => (match o'.dst with | some d => d :: tmpsOf o.op.operands.toList | none => tmpsOf o.op.operands.toList)
    | none => tmpsOf o.op.operands.toList
def hasN : List Nat → Nat → Bool
  | [], _ => false
  | a :: l, n => Nat.beq a n || hasN l n
def bZ8 (all : List Oper) (x y : Oper) : Bool :=
  (match x.dst with
   | some d => !(hasN (looks all y) d) && (match y.dst with | some e => !(Nat.beq d e) | none => true)
   | none => true) &&
  (match y.dst with
   | some d => !(hasN (looks all x) d)
   | none => true)
def bP5 (all : List Oper) (m : Nat) (o : Oper) : List Oper → Nat → Nat → Bool
  | _, _, 0 => true
  | [], _, _ => true
  | x :: l, j, n + 1 => (Nat.testBit m j || bZ8 all x o) && bP5 all m o l (Nat.succ j) n
def dC1 (all : List Oper) (t : T Nat) : List Oper → Nat → Bool
  | [], _ => true
  | o :: l, i => o.after.toList.all (fun e => !(aK8 e) || Nat.blt e.on i) && bP5 all (aS1 t i) o all 0 i && dC1 all t l (Nat.succ i)
def dI3 (ops : List Oper) : Bool := Nat.ble ops.length 16777213 && dC1 ops (anc ops 0 .leaf) ops 0
def flat : Code → Bool
  | .rangeFunc .. => false
  | .seq a b => flat a && flat b
  | .cond _ a b => flat a && flat b
  | .block _ c => flat c
  | .loop c => flat c
  | .scope c => flat c
  | _ => true
def codeOk : Code → Bool
  | .region _ ops draw => !draw || dI3 ops.toList
  | .seq a b => codeOk a && codeOk b
  | .cond _ a b => codeOk a && codeOk b
  | .block _ c => codeOk c
  | .loop c => codeOk c
  | .rangeFunc _ _ a b => codeOk a && flat a && (codeOk b && flat b)
  | _ => true

structure Env where
  tm : T AV
  nt : Nat
def Env.put (E : Env) (d : Option Tmp) (v : AV) : Option Env := Option.rec (motive := fun _ => Option Env) (some E) (fun d => Env.rec (motive := fun _ => Option Env) (fun tm nt => Bool.rec (motive := fun _ => Option Env) none (some ⟨tm.set d v, nt⟩) (Nat.blt d nt)) E) d
theorem Env.dC3 (E : Env) (v : AV) : E.put none v = some E := rfl
theorem Env.dC2 (E : Env) (d : Tmp) (v : AV) : E.put (some d) v = cond (Nat.blt d E.nt) (some ⟨E.tm.set d v, E.nt⟩) none := by
  show Bool.rec (motive := fun _ => Option Env) none (some ⟨E.tm.set d v, E.nt⟩) (Nat.blt d E.nt) = _
  cases Nat.blt d E.nt <;> rfl
def wanted (hy : List (HK × AV)) (all : List Oper) (E : Env) (o : Oper) : Option Bool := match o.guard with
  | none => some true
  | some (j, want) => match all[j]? with
    | some o' => match o'.dst with
      | some d => match E.tm.get d with
        | some (.b x) => some (x == want)
        | some .und => none
        | some (.x i) => match hl hy (.eqb (.x i) (.b true)) with
          | some (.b r) => some (r == want)
          | _ => none
        | some _ => some false
        | none => none
      | none => some false
    | none => some false

def dA1 : List AV → Nat → T AV → T AV
  | [], _, t => t
  | v :: l, n, t => dA1 l (Nat.succ n) (t.set n v)

def aH2 (tb : Tab) : List ResultVar → Env → M (List AV)
  | [], _ => ret []
  | .tmp t :: l, E => bnd (aH2 tb l E) fun vs => ret (op tb.ng E.tm (.tmp t) :: vs)
  | .cell a t :: l, E => bnd (load tb t (op tb.ng E.tm (.tmp a))) fun v => bnd (aH2 tb l E) fun vs => ret (v :: vs)
def results (tb : Tab) : List ResultVar → Env → M AV
  | [.tmp t], E => ret (op tb.ng E.tm (.tmp t))
  | [.cell a t], E => load tb t (op tb.ng E.tm (.tmp a))
  | l, E => bnd (aH2 tb l E) fun vs => ret (.tu vs)
def bG5 {α} (m : M α) : M (α × Nat × Nat) := fun S => match m ⟨S.heap, S.next, 0, 0⟩ with
  | none => none
  | some (v, S') => some ((v, S'.acc, S'.wr), ⟨S'.heap, S'.next, Nat.lor S.acc S'.acc, Nat.lor S.wr S'.wr⟩)
def bP2 (E : Env) : List Nat → List AV → Option Env
  | [], [] => some E
  | d :: ps, v :: vs => match E.put (some d) v with
    | some E => bP2 E ps vs
    | none => none
  | _, _ => none
def isN : Ex → Bool
  | .normal => true
  | _ => false
def keyOf : Code → Option Nat
  | .region id _ _ => some id
  | .seq a b => (keyOf a).or (keyOf b)
  | .cond _ a b => (keyOf a).or (keyOf b)
  | .block _ b => keyOf b
  | .loop b => keyOf b
  | .scope b => keyOf b
  | _ => none
def allP (p : AV → Bool) : List AV → Bool
  | [] => true
  | a :: l => p a && allP p l
def noR : Nat → AV → Bool
  | 0, _ => false
  | d + 1, a => match a with
    | .ag l => allP (noR d) l
    | .tu l => allP (noR d) l
    | .ifc _ x => noR d x
    | .b _ => true
    | .i _ _ => true
    | .s _ _ => true
    | .nilp => true
    | .nils => true
    | .ni => true
    | .nilf => true
    | .nilm => true
    | .h _ => true
    | .x _ => true
    | _ => false
def eqCe : Cells → Cells → Bool
  | .l a, .l b => allS (eqA 8) a b
  | .y k n, .y l m => Nat.beq k l && Nat.beq n m
  | _, _ => false
def eqX : Ex → Ex → Bool
  | .normal, .normal => true
  | .exit a, .exit b => Nat.beq a b
  | .goto a, .goto b => Nat.beq a b
  | .ret, .ret => true
  | _, _ => false
def eqTm : List (Nat × AV) → List (Nat × AV) → Bool
  | [], [] => true
  | p :: l, q :: m => Nat.beq p.1 q.1 && (eqA 8 p.2 q.2 && eqTm l m)
  | _, _ => false
def eqE : Ent → Ent → Bool
  | .b k, .b j => Nat.beq k.e j.e && eqCe k.c j.c && Nat.beq k.m j.m && Nat.beq k.es j.es && Nat.beq k.fr j.fr && (k.st == j.st) && (k.g == j.g)
  | .t i e, .t j f => Nat.beq i j && Nat.beq e f
  | .r i e s o, .r j f t u => Nat.beq i j && (Nat.beq e f && (Nat.beq s t && (o == u)))
  | .k g a n s x, .k h b m t y => Nat.beq g h && (eqTm a b && (Nat.beq n m && (Nat.beq s t && eqX x y)))
  | _, _ => false
def bL4 (E : Env) : List (Nat × AV) → Bool
  | [] => true
  | p :: r => (match E.tm.get p.1 with | some a => eqA 8 a p.2 | none => false) && bL4 E r
def bL9 (E : Env) : List (Nat × AV) → Bool
  | [] => true
  | p :: r => (match E.tm.get p.1 with | some a => aW8 8 a p.2 | none => false) && noR 8 p.2 && bL9 E r
def lfB : List (Nat × AV) → Bool
  | [] => true
  | p :: r => Nat.ble p.1 16777213 && lfB r
def lfC : List Nat → Bool
  | [] => true
  | p :: r => Nat.ble p 16777213 && lfC r
def bQ6 : Option Nat → Nat → Bool
  | some k, n => Nat.beq k n
  | none, _ => false
def cX0 (E : Env) (l : LF) : Bool := cond l.hp.isSome (bL4 E l.pre) (bL9 E l.pre)
def cS1 (E : Env) (k : Option Nat) : List LF → Option LF
  | [] => none
  | l :: r => cond (bQ6 k l.key && Nat.beq E.nt l.nt && cX0 E l && lfB l.post && lfC l.keep) (some l) (cS1 E k r)
def bQ3 (E : Env) : List Nat → T AV → T AV
  | [], t => t
  | s :: r, t => match E.tm.get s with
    | some a => bQ3 E r (t.set s a)
    | none => bQ3 E r t
def aT0 : List (Nat × AV) → T AV → T AV
  | [], t => t
  | p :: r, t => aT0 r (t.set p.1 p.2)
def lfOut (E : Env) (l : LF) : Ex × Env := (l.ex, ⟨aT0 l.post (bQ3 E l.keep .leaf), E.nt⟩)
def isK (l : List (Nat × Ent)) (n : Nat) : Bool := match l with
  | [] => false
  | p :: r => Nat.beq p.1 n || isK r n
def bT8 (H : T Ent) : List (Nat × Ent) → Bool
  | [] => true
  | p :: r => (match H.get p.1 with | some k => eqE k p.2 | none => false) && bT8 H r
def lhLow (n : Nat) : List (Nat × Ent) → Bool
  | [] => true
  | p :: r => Nat.blt p.1 n && lhLow n r
def roE : Ent → Bool
  | .r _ _ _ ro => ro
  | _ => false
def lhRo (pre post : List (Nat × Ent)) : Bool := post.all fun p => pre.all fun q => !(Nat.beq q.1 p.1 && roE q.2) || roE p.2
def dE3 (h : LH) : List (Nat × Ent) → Bool
  | [] => true
  | p :: r => Nat.blt p.1 h.n1 && (isK h.pre p.1 || Nat.ble h.n0 p.1) && dE3 h r
def dN8 : List (Nat × Ent) → T Ent → T Ent
  | [], t => t
  | p :: r, t => dN8 r (t.del p.1)
def aE8 : List (Nat × Ent) → T Ent → T Ent
  | [], t => t
  | p :: r, t => aE8 r (t.set p.1 p.2)
def cR8 : List (Nat × Ent) → Nat → Nat
  | [], m => m
  | p :: r, m => cR8 r (Nat.lor m (bit p.1))
def bO5 (a : Nat) : Nat → Nat
  | 0 => 0
  | n + 1 => Nat.lor (bO5 a n) (bit (Nat.add a n))
def cN8 (a : Nat) : Nat → T Ent → T Ent
  | 0, t => t
  | n + 1, t => (cN8 a n t).del (Nat.add a n)
def aP8 (h : LH) : Nat := cR8 h.pre (bO5 h.n0 (Nat.sub h.n1 h.n0))
def aJ8 (h : LH) (t : T Ent) : T Ent := aE8 h.post (cN8 h.n0 (Nat.sub h.n1 h.n0) (dN8 h.pre t))
def lhOk (h : LH) : Bool := Nat.ble h.n0 h.n1 && Nat.ble h.n1 16777213 && lhLow h.n0 h.pre && dE3 h h.post && lhRo h.pre h.post
def bD0 (ng : Nat) (h : LH) : M Unit := fun S => cond (Nat.beq S.next h.n0 && Nat.beq ng h.ng && lhOk h && bT8 S.heap h.pre) (some ((), ⟨aJ8 h S.heap, h.n1, Nat.lor S.acc (aP8 h), Nat.lor S.wr (aP8 h)⟩)) none
def lhAt (n : Nat) (h : LH) : LH := ⟨h.ng, n, h.n1, h.pre, h.post⟩
def bH9 (ng : Nat) (h : LH) : M Unit := fun S => cond (Nat.ble S.next h.n0 && lhOk h) (bD0 ng (lhAt S.next h) S) none
def cE2 (ng : Nat) (E : Env) (l : LF) : M (Ex × Env) := match l.hp with
  | none => ret (lfOut E l)
  | some h => bnd (bH9 ng h) fun _ => ret (lfOut E l)
def aP4 : Code → Option (List Nat × Code × Code)
  | .rangeFunc _ ps a b => some (ps.toList, a, b)
  | .seq a b => (match aP4 a with | some r => some r | none => aP4 b)
  | .cond _ a b => (match aP4 a with | some r => some r | none => aP4 b)
  | .block _ b => aP4 b
  | .loop b => aP4 b
  | _ => none
def rfT (tb : Tab) (g : Nat) : Option (List Nat × Code × Code) := match tb.fn.get g with
  | some fi => (match fi.body with | some c => aP4 c | none => none)
  | none => none
def bE7 (tb : Tab) : Ent → Option LRec
  | .j r => some r
  | .k g tm nt st pend => (match rfT tb g with | some c => some ⟨c.1, c.2.1, c.2.2, aT0 tm .leaf, nt, st, pend⟩ | none => none)
  | _ => none
def dB6 (st : Nat) (pend : Ex) : Ent → Ent
  | .j r => .j ⟨r.ps, r.asg, r.body, r.tm, r.nt, st, pend⟩
  | .k g tm nt _ _ => .k g tm nt st pend
  | e => e
def rdR (tb : Tab) (v : Nat) : M (Ent × LRec) := bnd (rdA v) fun e => bnd (lft (bE7 tb e)) fun r => ret (e, r)
def isMk (l : LF) : Bool := match l.ex with
  | .goto n => Nat.beq n 7777777
  | _ => false
def mkOf : List LF → Option LF
  | [] => none
  | l :: r => cond (isMk l) (some l) (mkOf r)
def pick (t : T AV) : List Nat → List (Nat × AV)
  | [] => []
  | s :: r => match t.get s with
    | some a => cond (Nat.ble s 16777213) ((s, a) :: pick t r) (pick t r)
    | none => pick t r
def dP3 (L : List LF) (E : Env) (ps : List Nat) (a b : Code) : Ent := match mkOf L with
  | some l => .k (l.nt) (pick E.tm l.keep) E.nt 0 .normal
  | none => .j ⟨ps, a, b, E.tm, E.nt, 0, .normal⟩
def isCf (l : LF) : Bool := Nat.beq l.key 8888888
def cU1 : List AV → List (Nat × AV) → Bool
  | [], [] => true
  | a :: l, p :: r => (aW8 8 a p.2 || eqA 8 a p.2) && cU1 l r
  | _, _ => false
def bH1 (args : List AV) : List LF → Option (LH × AV)
  | [] => none
  | l :: r => match l.hp, l.post with
    | some h, [q] => cond (isCf l && cU1 args l.pre) (some (h, q.2)) (bH1 args r)
    | _, _ => bH1 args r
mutual
def code (tb : Tab) : Nat → List LF → Code → Env → M (Ex × Env)
  | 0, _, _, _ => fail
  | f + 1, L, c, E => match c with
    | .skip => ret (.normal, E)
    | .label _ => ret (.normal, E)
    | .seq a b => bnd (code tb f L a E) fun r => match r.1 with
      | .normal => code tb f L b r.2
      | _ => ret r
    | .cond c x y => match op tb.ng E.tm c with
      | .b true => code tb f L x E
      | .b false => code tb f L y E
      | .x a => bnd (hypB tb (.eqb (.x a) (.b true))) fun r => cond r (code tb f L x E) (code tb f L y E)
      | _ => fail
    | .block id body => bnd (code tb f L body E) fun r => match r.1 with
      | .exit j => cond (Nat.beq j id) (ret (.normal, r.2)) (ret r)
      | _ => ret r
    | .loop body => match cS1 E (keyOf body) L with
      | some l => cE2 tb.ng E l
      | none => bnd (code tb f L body E) fun r => match r.1 with
        | .normal => code tb f L (.loop body) r.2
        | _ => ret r
    | .exit id => ret (.exit id, E)
    | .goto l => ret (.goto l, E)
    | .ret => ret (.ret, E)
    | .region _ ops draw => cond draw
        (bnd (opsD tb f ops.toList ops.toList 0 E []) fun r => cond (!(bD8 r.2) || bP7 (anc ops.toList 0 .leaf) r.2) (ret (.normal, r.1)) fail)
        (bnd (opsT tb f ops.toList ops.toList E) fun E => ret (.normal, E))
    | .rangeFunc g ps a b => match op tb.ng E.tm g with
      | .fn gf first cap => bnd (lft (tb.fn.get gf)) fun fi => cond fi.body.isSome
        (bnd (newE (dP3 L E ps.toList a b)) fun n => bnd (call tb f gf (first ++ (.yl n :: cap))) fun _ =>
          bnd (rdR tb n) fun r => cond (Nat.beq r.2.st 1) fail (bnd (kill n) fun _ => ret (r.2.pend, E))) fail
      | _ => fail
    | _ => fail
def opsT (tb : Tab) : Nat → List Oper → List Oper → Env → M Env
  | 0, _, _, _ => fail
  | _ + 1, _, [], E => ret E
  | f + 1, all, o :: r, E => bnd (lft (wanted tb.hyp all E o)) fun w => cond w
      (bnd (oper tb f o E) fun v => bnd (lft (E.put o.dst v)) fun E => opsT tb f all r E)
      (bnd (lft (E.put o.dst (.tu []))) fun E => opsT tb f all r E)
def opsD (tb : Tab) : Nat → List Oper → List Oper → Nat → Env → List Rec → M (Env × List Rec)
  | 0, _, _, _, _, _ => fail
  | _ + 1, _, [], _, E, l => ret (E, l)
  | f + 1, all, o :: r, n, E, l => bnd (lft (wanted tb.hyp all E o)) fun w => cond w
      (bnd (bG5 (oper tb f o E)) fun p => bnd (lft (E.put o.dst p.1)) fun E => opsD tb f all r (Nat.succ n) E (cond (Nat.beq p.2.1 0) l (⟨n, p.2.1, p.2.2⟩ :: l)))
      (bnd (lft (E.put o.dst (.tu []))) fun E => opsD tb f all r (Nat.succ n) E l)
def oper (tb : Tab) : Nat → Oper → Env → M AV
  | 0, _, _ => fail
  | f + 1, o, E => match o.op with
    | .call c => match c.callee with
      | .builtin b => builtin tb b c.argTypes.toList (c.args.toList.map (op tb.ng E.tm))
      | .value g => match op tb.ng E.tm g with
        | .fn g first cap => call tb f g (first ++ c.args.toList.map (op tb.ng E.tm) ++ cap)
        | .yl n => rnd tb f n (c.args.toList.map (op tb.ng E.tm))
        | _ => fail
      | .invoke r m => match op tb.ng E.tm r with
        | .ifc t v => bnd (lft (cW6 tb.met t m)) fun g => bnd (lft (recv g.2 v)) fun v => call tb f g.1 (v :: c.args.toList.map (op tb.ng E.tm))
        | _ => fail
    | x => simple tb (op tb.ng E.tm) x
def call (tb : Tab) : Nat → Nat → List AV → M AV
  | 0, _, _ => fail
  | f + 1, g, args => bnd (lft (tb.fn.get g)) fun fi => match fi.sum, args with
   | some v, [] => ret v
   | _, _ => match fi.body with
    | none => match hl tb.hyp (.ext g args) with
     | some v => ret v
     | none => ext tb fi.ext args
    | some c => match hl tb.hyp (.call g args) with
     | some v => ret v
     | none => match bH1 args fi.lps with
      | some q => bnd (bH9 tb.ng q.1) fun _ => ret q.2
      | none => cond (Nat.ble args.length fi.ntmps && Nat.ble fi.ntmps 16777213) (bnd (code tb f fi.lps c ⟨dA1 args 0 .leaf, fi.ntmps⟩) fun r => match r.1 with
       | .normal | .ret => results tb fi.res r.2
       | _ => fail) fail
def rnd (tb : Tab) : Nat → Nat → List AV → M AV
  | 0, _, _ => fail
  | f + 1, n, args => bnd (rdR tb n) fun r => bnd (lft (bP2 ⟨r.2.tm, r.2.nt⟩ r.2.ps args)) fun E => bnd (code tb f [] r.2.asg E) fun p => match p.1 with
    | .normal => bnd (rdR tb n) fun r1 => cond (Nat.beq r1.2.st 0)
        (bnd (updE n (dB6 1 r1.2.pend r1.1)) fun _ => bnd (code tb f [] r.2.body p.2) fun q =>
          bnd (rdR tb n) fun r2 => bnd (updE n (dB6 (cond (isN q.1) 0 2) q.1 r2.1)) fun _ => ret (.b (isN q.1))) fail
    | _ => fail
end
end
end Go.AX
end
section
namespace Go.AX
theorem dG1 {α} : ∀ (f : Nat) (t : T α) (n m : Nat) (x : Option α), n + 1 < 2 ^ f → (T.setF f t n x).get m = if m = n then x else t.get m := by
  intro f
  induction f with
  | zero => intro t n m x h; simp at h
  | succ f ih =>
    intro t n m x h
    have hp : 2 ^ (f + 1) = 2 * 2 ^ f := by rw [Nat.pow_succ]; omega
    have e2 : ∀ k : Nat, Nat.mod k 2 = k % 2 := fun _ => rfl
    have e3 : ∀ k : Nat, Nat.div k 2 = k / 2 := fun _ => rfl
    have e4 : ∀ k : Nat, Nat.sub k 1 = k - 1 := fun _ => rfl
    cases t with
    | leaf =>
      rw [T.setF_leaf]
      cases h0 : Nat.beq n 0 with
      | true =>
        have : n = 0 := by simpa using h0
        subst this
        simp only [cond_true, T.aD7, T.aL6, e2, e3, e4]
        cases hm : Nat.beq m 0 with
        | true => have : m = 0 := by simpa using hm
                  simp [this]
        | false => have : m ≠ 0 := by intro e; subst e; simp at hm
                   simp only [cond_false, this, if_false]; cases Nat.beq (m % 2) 1 <;> rfl
      | false =>
        have hn : n ≠ 0 := by intro e; subst e; simp at h0
        simp only [cond_false, e2, e3, e4]
        cases h1 : Nat.beq (n % 2) 1 with
        | true =>
          have h1' : n % 2 = 1 := by simpa using h1
          simp only [cond_true, T.aD7, T.aL6, e2, e3, e4]
          cases hm : Nat.beq m 0 with
          | true => have : m = 0 := by simpa using hm
                    subst this; simp [Ne.symm hn]
          | false =>
            have hm' : m ≠ 0 := by intro e; subst e; simp at hm
            simp only [cond_false]
            cases hm1 : Nat.beq (m % 2) 1 with
            | true =>
              have hm1' : m % 2 = 1 := by simpa using hm1
              simp only [cond_true]
              rw [ih _ _ _ _ (by omega)]
              simp only [T.aD7, T.aL6]
              by_cases e : m = n
              · subst e; simp
              · rw [if_neg e, if_neg (by omega)]
            | false =>
              have hm1' : m % 2 ≠ 1 := by intro e; rw [e] at hm1; simp at hm1
              simp only [cond_false]
              rw [if_neg (by intro e; subst e; omega)]
        | false =>
          have h1' : n % 2 ≠ 1 := by intro e; rw [e] at h1; simp at h1
          simp only [cond_false, T.aD7, T.aL6, e2, e3, e4]
          cases hm : Nat.beq m 0 with
          | true => have : m = 0 := by simpa using hm
                    subst this; simp [Ne.symm hn]
          | false =>
            have hm' : m ≠ 0 := by intro e; subst e; simp at hm
            simp only [cond_false]
            cases hm1 : Nat.beq (m % 2) 1 with
            | true =>
              have hm1' : m % 2 = 1 := by simpa using hm1
              simp only [cond_true]
              rw [if_neg (by intro e; subst e; omega)]
            | false =>
              have hm1' : m % 2 ≠ 1 := by intro e; rw [e] at hm1; simp at hm1
              simp only [cond_false]
              rw [ih _ _ _ _ (by omega)]
              simp only [T.aD7, T.aL6]
              by_cases e : m = n
              · subst e; simp
              · rw [if_neg e, if_neg (by omega)]
    | node v l r =>
      rw [T.setF_node]
      cases h0 : Nat.beq n 0 with
      | true =>
        have : n = 0 := by simpa using h0
        subst this
        simp only [cond_true, T.aD7, T.aL6, e2, e3, e4]
        cases hm : Nat.beq m 0 with
        | true => have : m = 0 := by simpa using hm
                  simp [this]
        | false => have : m ≠ 0 := by intro e; subst e; simp at hm
                   simp only [cond_false, this, if_false]
      | false =>
        have hn : n ≠ 0 := by intro e; subst e; simp at h0
        simp only [cond_false, e2, e3, e4]
        cases h1 : Nat.beq (n % 2) 1 with
        | true =>
          have h1' : n % 2 = 1 := by simpa using h1
          simp only [cond_true, T.aD7, T.aL6, e2, e3, e4]
          cases hm : Nat.beq m 0 with
          | true => have : m = 0 := by simpa using hm
                    subst this; simp [Ne.symm hn]
          | false =>
            have hm' : m ≠ 0 := by intro e; subst e; simp at hm
            simp only [cond_false]
            cases hm1 : Nat.beq (m % 2) 1 with
            | true =>
              have hm1' : m % 2 = 1 := by simpa using hm1
              simp only [cond_true]
              rw [ih _ _ _ _ (by omega)]
              by_cases e : m = n
              · subst e; simp
              · rw [if_neg e, if_neg (by omega)]
            | false =>
              have hm1' : m % 2 ≠ 1 := by intro e; rw [e] at hm1; simp at hm1
              simp only [cond_false]
              rw [if_neg (by intro e; subst e; omega)]
        | false =>
          have h1' : n % 2 ≠ 1 := by intro e; rw [e] at h1; simp at h1
          simp only [cond_false, T.aD7, T.aL6, e2, e3, e4]
          cases hm : Nat.beq m 0 with
          | true => have : m = 0 := by simpa using hm
                    subst this; simp [Ne.symm hn]
          | false =>
            have hm' : m ≠ 0 := by intro e; subst e; simp at hm
            simp only [cond_false]
            cases hm1 : Nat.beq (m % 2) 1 with
            | true =>
              have hm1' : m % 2 = 1 := by simpa using hm1
              simp only [cond_true]
              rw [if_neg (by intro e; subst e; omega)]
            | false =>
              have hm1' : m % 2 ≠ 1 := by intro e; rw [e] at hm1; simp at hm1
              simp only [cond_false]
              rw [ih _ _ _ _ (by omega)]
              by_cases e : m = n
              · subst e; simp
              · rw [if_neg e, if_neg (by omega)]
theorem aE9 {α} (t : T α) (n m : Nat) (x : α) (h : n ≤ 16777213) : (t.set n x).get m = if m = n then some x else t.get m := dG1 24 t n m _ (by omega)
theorem aR6 {α} (t : T α) (n m : Nat) (h : n ≤ 16777213) : (t.del n).get m = if m = n then none else t.get m := dG1 24 t n m _ (by omega)

theorem cX3 (a b : Int) : ile a b = decide (a ≤ b) := by
  cases a <;> cases b <;> simp only [ile] <;> rw [Bool.eq_iff_iff] <;> simp [Nat.ble_eq] <;> omega
theorem cE5 (a b : Int) : ilt a b = decide (a < b) := by
  unfold ilt; rw [cX3, Bool.eq_iff_iff]; simp
theorem aT5 (a b : Int) : ieq a b = decide (a = b) := by
  cases a <;> cases b <;> simp only [ieq] <;> apply Bool.eq_iff_iff.2 <;> simp <;> omega
theorem dN9 {k l : IntKind} (h : kEq k l = true) : k = l := by
  cases k <;> cases l <;> first | rfl | cases h
theorem wrap_of (k : IntKind) (n : Int) (h : if k.signed then -(2 ^ (k.bits - 1) : Int) ≤ n ∧ n < 2 ^ (k.bits - 1) else 0 ≤ n ∧ n < 2 ^ k.bits) : k.wrap n = n := by
  cases k <;> simp only [IntKind.signed, IntKind.bits, if_true, if_false, Bool.false_eq_true, Nat.reduceSub] at h <;> simp only [IntKind.wrap, IntKind.bits, IntKind.signed, Bool.true_and, Bool.false_and, Bool.false_eq_true, if_false, Nat.reduceSub, decide_eq_true_eq, ge_iff_le] <;> (try split) <;> omega
theorem bZ4 (k : IntKind) (n : Int) (h : fits k n = true) : if k.signed then -(2 ^ (k.bits - 1) : Int) ≤ n ∧ n < 2 ^ (k.bits - 1) else 0 ≤ n ∧ n < 2 ^ k.bits := by
  cases k <;> cases n <;> first | (cases h; done) | (have h' := Nat.le_of_ble_eq_true h; simp only [IntKind.signed, IntKind.bits, if_true, if_false, Bool.false_eq_true, Nat.reduceSub, Int.ofNat_eq_natCast]; omega)
theorem aI9 (k : IntKind) (n : Int) (h : fits k n = true) : k.wrap n = n := wrap_of k n (bZ4 k n h)
theorem aO9 (k : IntKind) (n : Int) : wrp k n = k.wrap n := by
  unfold wrp; cases h : fits k n with
  | true => simp [aI9 k n h]
  | false => rfl
theorem tn_eq (k : IntKind) (x : Int) : tn k x = (x % (2 ^ k.bits : Int)).toNat := by
  unfold tn; split
  · rename_i n
    cases h : fits k (.ofNat n) with
    | true =>
      have hr := bZ4 k _ h
      have : (n : Int) < (2 : Int) ^ k.bits := by
        cases k <;> simp only [IntKind.signed, IntKind.bits, if_true, if_false, Bool.false_eq_true, Nat.reduceSub, Int.ofNat_eq_natCast] at hr ⊢ <;> omega
      simp only [cond_true]
      show n = ((n : Int) % (2 : Int) ^ k.bits).toNat
      rw [Int.emod_eq_of_lt (by omega) this, Int.toNat_natCast]
    | false => rfl
  · rfl
theorem toNat_ofInt (k : IntKind) (x : Int) : (BitVec.ofInt k.bits x).toNat = tn k x := by
  rw [tn_eq]; simp [BitVec.toNat_ofInt]
end Go.AX
end
section
namespace Go.AX
def strB (len n : Nat) : List UInt8 := (List.range len).map fun j => UInt8.ofNat (byteAt n j)
theorem aK6 (n j : Nat) : byteAt n j = n / 2 ^ (8 * j) % 256 := by
  show (n >>> (8 * j)) % 256 = _
  rw [Nat.shiftRight_eq_div_pow]
theorem aN0 (n j : Nat) : byteAt n j < 256 := by rw [aK6]; omega
theorem low_eq (n len : Nat) : low n len = n % 2 ^ (8 * len) := by
  show n % (1 <<< (8 * len)) = _
  rw [Nat.one_shiftLeft]
theorem dE2 (n len : Nat) : low n len < 2 ^ (8 * len) := by rw [low_eq]; exact Nat.mod_lt _ (Nat.two_pow_pos _)
theorem aK2 (a c k j : Nat) (h : a < 2 ^ (8 * k)) : byteAt (a + c * 2 ^ (8 * k)) j = if j < k then byteAt a j else byteAt c (j - k) := by
  simp only [aK6]
  split
  · rename_i hj
    have e : 2 ^ (8 * k) = 2 ^ (8 * j) * (256 * 2 ^ (8 * (k - j - 1))) := by
      rw [show (256 : Nat) = 2 ^ 8 from rfl, ← Nat.pow_add, ← Nat.pow_add]; congr 1; omega
    rw [e, show a + c * (2 ^ (8 * j) * (256 * 2 ^ (8 * (k - j - 1)))) = a + 2 ^ (8 * j) * (256 * (c * 2 ^ (8 * (k - j - 1)))) by
      rw [← Nat.mul_assoc, Nat.mul_comm c, Nat.mul_assoc, Nat.mul_left_comm c], Nat.add_mul_div_left _ _ (Nat.two_pow_pos _), Nat.add_mul_mod_self_left]
  · rename_i hj
    have e : 2 ^ (8 * j) = 2 ^ (8 * k) * 2 ^ (8 * (j - k)) := by rw [← Nat.pow_add]; congr 1; omega
    rw [e, ← Nat.div_div_eq_div_mul, Nat.add_mul_div_right _ _ (Nat.two_pow_pos _), Nat.div_eq_of_lt h, Nat.zero_add]
theorem aQ0 (n off j : Nat) : byteAt (n >>> (8 * off)) j = byteAt n (off + j) := by
  simp only [aK6, Nat.shiftRight_eq_div_pow]
  rw [Nat.div_div_eq_div_mul, ← Nat.pow_add]; congr 3; omega
theorem bF8 (n len j : Nat) (h : j < len) : byteAt (low n len) j = byteAt n j := by
  have h2 := aK2 (n % 2 ^ (8 * len)) (n / 2 ^ (8 * len)) len j (Nat.mod_lt _ (Nat.two_pow_pos _))
  rw [if_pos h, Nat.mul_comm (n / 2 ^ (8 * len)), Nat.mod_add_div] at h2
  rw [low_eq, h2]
theorem bZ6 : ∀ (len n m : Nat), n < 2 ^ (8 * len) → m < 2 ^ (8 * len) → (∀ j, j < len → byteAt n j = byteAt m j) → n = m
  | 0, n, m, hn, hm, _ => by simp at hn hm; omega
  | len + 1, n, m, hn, hm, h => by
    have e : 2 ^ (8 * (len + 1)) = 256 * 2 ^ (8 * len) := by rw [show (256 : Nat) = 2 ^ 8 from rfl, ← Nat.pow_add]; congr 1; omega
    rw [e] at hn hm
    have h0 := h 0 (by omega)
    simp only [aK6, Nat.mul_zero, Nat.pow_zero, Nat.div_one] at h0
    have := bZ6 len (n / 256) (m / 256) (Nat.div_lt_of_lt_mul hn) (Nat.div_lt_of_lt_mul hm) (fun j hj => by
      have hh := h (j + 1) (by omega)
      have s1 := aQ0 n 1 j
      have s2 := aQ0 m 1 j
      rw [Nat.add_comm 1 j] at s1 s2
      rw [Nat.shiftRight_eq_div_pow] at s1 s2
      rw [show 2 ^ (8 * 1) = 256 from rfl] at s1 s2
      rw [s1, s2, hh])
    omega
theorem aC9 (len n : Nat) : (strB len n).length = len := by simp [strB]
theorem aI7 (len n j : Nat) (h : j < len) : (strB len n)[j]? = some (UInt8.ofNat (byteAt n j)) := by
  simp [strB, h]
theorem ofNat_toNat (n : Nat) (h : n < 256) : (UInt8.ofNat n).toNat = n := by
  simp [UInt8.toNat_ofNat', Nat.mod_eq_of_lt h]
theorem strB_inj (len n m : Nat) (hn : n < 2 ^ (8 * len)) (hm : m < 2 ^ (8 * len)) (h : strB len n = strB len m) : n = m := by
  refine bZ6 len n m hn hm fun j hj => ?_
  have := congrArg (fun l => (l[j]?).map UInt8.toNat) h
  simp only [aI7 _ _ _ hj, Option.map_some, Option.some.injEq] at this
  rwa [ofNat_toNat _ (aN0 _ _), ofNat_toNat _ (aN0 _ _)] at this
theorem dB2 (k l a c : Nat) (h : a < 2 ^ (8 * k)) : strB (k + l) (a + c * 2 ^ (8 * k)) = strB k a ++ strB l c := by
  apply List.ext_getElem?
  intro j
  rw [List.getElem?_append]
  simp only [aC9]
  by_cases hj : j < k
  · rw [if_pos hj, aI7 _ _ _ (by omega), aI7 _ _ _ hj, aK2 _ _ _ _ h, if_pos hj]
  · rw [if_neg hj]
    by_cases h2 : j < k + l
    · rw [aI7 _ _ _ h2, aI7 _ _ _ (by omega), aK2 _ _ _ _ h, if_neg hj]
    · rw [List.getElem?_eq_none (by simp [aC9]; omega), List.getElem?_eq_none (by simp [aC9]; omega)]
theorem add_lt (k l a c : Nat) (h : a < 2 ^ (8 * k)) (hc : c < 2 ^ (8 * l)) : a + c * 2 ^ (8 * k) < 2 ^ (8 * (k + l)) := by
  have e : 2 ^ (8 * (k + l)) = 2 ^ (8 * l) * 2 ^ (8 * k) := by rw [← Nat.pow_add]; congr 1; omega
  have h1 : (c + 1) * 2 ^ (8 * k) ≤ 2 ^ (8 * l) * 2 ^ (8 * k) := Nat.mul_le_mul_right _ hc
  rw [Nat.succ_mul] at h1
  omega
theorem strB_sub (len n off k : Nat) (h : off + k ≤ len) : strB k (low (n >>> (8 * off)) k) = ((strB len n).drop off).take k := by
  apply List.ext_getElem?
  intro j
  rw [List.getElem?_take]
  by_cases hj : j < k
  · rw [if_pos hj, List.getElem?_drop, aI7 _ _ _ hj, aI7 _ _ _ (by omega), bF8 _ _ _ hj, aQ0]
  · rw [if_neg hj, List.getElem?_eq_none (by simp [aC9]; omega)]
theorem dC7 : ∀ (l : List UInt8), cP9 l < 2 ^ (8 * l.length) ∧ strB l.length (cP9 l) = l
  | [] => ⟨by simp [cP9], rfl⟩
  | a :: l => by
    obtain ⟨h1, h2⟩ := dC7 l
    have hb : a.toNat < 2 ^ (8 * 1) := a.toNat_lt
    have e : cP9 (a :: l) = a.toNat + cP9 l * 2 ^ (8 * 1) := by
      show a.toNat + 256 * cP9 l = _
      rw [Nat.mul_comm]
    rw [e, List.length_cons, Nat.add_comm l.length 1]
    refine ⟨add_lt 1 l.length _ _ hb h1, ?_⟩
    rw [dB2 1 _ _ _ hb, h2]
    show [UInt8.ofNat (byteAt a.toNat 0)] ++ l = a :: l
    have : UInt8.ofNat (byteAt a.toNat 0) = a := by
      rw [aK6]; simp
    rw [this]; rfl
end Go.AX
end
section
namespace Go.AX
structure R where
  blk : Nat
  base : Nat
  cap : Nat
  es : Nat
def isRow : Obj → Bool
  | .cells .. => true
  | .loop _ => true
  | .map .. => true
  | .mapIter .. => true
  | _ => false
abbrev Fz := Nat → Prop
def Fz.lt (n : Nat) : Fz := fun k => k < n
structure Below (B : Fz) (w w' : World) : Prop where
  os : w'.os = w.os
  tape : w'.tape = w.tape
  output : w'.output = w.output
  size : w.heap.size ≤ w'.heap.size
  block : ∀ k, B k → w'.heap[k]? = w.heap[k]?
  walk : ∀ (k : Nat) (o : Obj), w.heap[k]? = some o → isRow o = false → w'.heap[k]? = some o
theorem Below.refl (B : Fz) (w : World) : Below B w w := ⟨rfl, rfl, rfl, Nat.le_refl _, fun _ _ => rfl, fun _ _ h _ => h⟩
theorem Below.trans {B : Fz} {a b c : World} (h : Below B a b) (k : Below B b c) : Below B a c :=
  ⟨k.os.trans h.os, k.tape.trans h.tape, k.output.trans h.output, Nat.le_trans h.size k.size, fun i hi => (k.block i hi).trans (h.block i hi), fun i o hi ho => k.walk i o (h.walk i o hi ho) ho⟩
theorem Below.plain {B : Nat} {w w' : World} (h : Below (Fz.lt B) w w') : Go.RowKit.Below B w w' := ⟨h.os, h.tape, h.output, h.size, h.block⟩
theorem cA0 {w w' : World} {g : Nat} {cs : Array Value} {t : TypeId} {fz : Nat × Nat} (hg : w.heap[g]? = some (.cells cs t fz)) (ho : ∀ b, b ≠ g → w'.heap[b]? = w.heap[b]?) :
    ∀ (k : Nat) (o : Obj), w.heap[k]? = some o → isRow o = false → w'.heap[k]? = some o := fun k o hk hr => by
  by_cases e : k = g
  · subst e; rw [hg] at hk; injection hk with hk; subst hk; cases hr
  · rw [ho k e]; exact hk
abbrev Rho := Nat → Option R
structure Cx where
  P : Program
  nu : Nat → Value
  one : ∀ i, i < 1000000 → (nu i).oneCell' = true
  nst : Nat
  inv : World → Prop
  stab : ∀ w w' : World, (∀ k, k < nst → w'.heap[k]? = w.heap[k]?) → inv w → inv w'
mutual
def Rel (C : Cx) (ρ : Rho) : AV → Value → Prop
  | .und, _ => True
  | .b x, v => v = .bool x
  | .i k n, v => v = .int k n
  | .s len n, v => v = .string ⟨(strB len n).toArray⟩ ∧ n < 2 ^ (8 * len)
  | .nilp, v => v = .pointer none
  | .p b o, v => ∃ r, ρ b = some r ∧ v = .pointer (some ⟨r.blk, r.base + o, none⟩)
  | .nils, v => v = .slice none 0 0
  | .sl b o n c false, v => ∃ r, ρ b = some r ∧ n ≤ c ∧ v = .slice (some ⟨r.blk, r.base + o, none⟩) n c
  | .sl b o n d true, v => ∃ r a, ρ b = some r ∧ d + n ≤ r.cap ∧ v = .slice (some a) n (r.cap - d) ∧ (a = ⟨r.blk, r.base + o, none⟩ ∨ (n = 0 ∧ r.cap = d))
  | .ni, v => v = .nilIface
  | .ifc t a, v => ∃ x, v = .iface t x ∧ Rel C ρ a x
  | .ag l, v => ∃ cs, v = .agg ⟨cs⟩ ∧ RelL C ρ l cs
  | .tu l, v => ∃ cs, v = .tuple ⟨cs⟩ ∧ RelL C ρ l cs
  | .fn f a c, v => ∃ as cs, v = .func (.func f) ⟨as⟩ ⟨cs⟩ ∧ RelL C ρ a as ∧ RelL C ρ c cs
  | .nilf, v => v = .nilFunc
  | .yl n, v => ∃ r, ρ n = some r ∧ v = .func (.yield r.blk) #[] #[]
  | .mp n, v => ∃ r, ρ n = some r ∧ v = .map (some r.blk)
  | .nilm, v => v = .map none
  | .h t, v => v = typeHandle C.P t
  | .x id, v => v = C.nu id
  | .sy n, v => ∃ r, ρ n = some r ∧ r.cap ≤ r.es ∧ v = .slice (some ⟨r.blk, 0, none⟩) r.cap r.es
  | .px n i, v => ∃ r k j, ρ n = some r ∧ Rel C ρ i (.int k (Int.ofNat j)) ∧ v = .pointer (some ⟨r.blk, j, none⟩)
  | .sr n, v => ∃ r, ρ n = some r ∧ r.cap ≤ r.es ∧ v = .slice (some ⟨r.blk, r.base, none⟩) r.cap r.es
  | .pr n i sz off, v => ∃ r k j, ρ n = some r ∧ Rel C ρ i (.int k (Int.ofNat j)) ∧ v = .pointer (some ⟨r.blk, r.base + (j * sz + off), none⟩)
  | .es, v => ∃ a c, v = .slice a 0 c
def RelL (C : Cx) (ρ : Rho) : List AV → List Value → Prop
  | [], vs => vs = []
  | a :: l, vs => ∃ v vt, vs = v :: vt ∧ Rel C ρ a v ∧ RelL C ρ l vt
end
def Sub (ρ ρ' : Rho) : Prop := ∀ v r, ρ v = some r → ρ' v = some r
mutual
theorem Rel.mono {C : Cx} {ρ ρ' : Rho} (h : Sub ρ ρ') : ∀ (a : AV) (v : Value), Rel C ρ a v → Rel C ρ' a v
  | .und, _, _ => by simp [Rel]
  | .b x, v, hr => by simpa [Rel] using hr
  | .i k n, v, hr => by simpa [Rel] using hr
  | .s len n, v, hr => by simpa [Rel] using hr
  | .nilp, v, hr => by simpa [Rel] using hr
  | .p b o, v, hr => by
    simp only [Rel] at hr ⊢; obtain ⟨r, h1, h2⟩ := hr; exact ⟨r, h _ _ h1, h2⟩
  | .nils, v, hr => by simpa [Rel] using hr
  | .sl b o n c false, v, hr => by
    simp only [Rel] at hr ⊢; obtain ⟨r, h1, h2⟩ := hr; exact ⟨r, h _ _ h1, h2⟩
  | .sl b o n c true, v, hr => by
    simp only [Rel] at hr ⊢; obtain ⟨r, a, h1, h2⟩ := hr; exact ⟨r, a, h _ _ h1, h2⟩
  | .ni, v, hr => by simpa [Rel] using hr
  | .ifc t a, v, hr => by
    simp only [Rel] at hr ⊢; obtain ⟨x, h1, h2⟩ := hr; exact ⟨x, h1, Rel.mono h a x h2⟩
  | .ag l, v, hr => by
    simp only [Rel] at hr ⊢; obtain ⟨x, h1, h2⟩ := hr; exact ⟨x, h1, RelL.mono h l x h2⟩
  | .tu l, v, hr => by
    simp only [Rel] at hr ⊢; obtain ⟨x, h1, h2⟩ := hr; exact ⟨x, h1, RelL.mono h l x h2⟩
  | .fn f a c, v, hr => by
    simp only [Rel] at hr ⊢; obtain ⟨x, y, h1, h2, h3⟩ := hr; exact ⟨x, y, h1, RelL.mono h a x h2, RelL.mono h c y h3⟩
  | .nilf, v, hr => by simpa [Rel] using hr
  | .yl n, v, hr => by
    simp only [Rel] at hr ⊢; obtain ⟨r, h1, h2⟩ := hr; exact ⟨r, h _ _ h1, h2⟩
  | .mp n, v, hr => by
    simp only [Rel] at hr ⊢; obtain ⟨r, h1, h2⟩ := hr; exact ⟨r, h _ _ h1, h2⟩
  | .nilm, v, hr => by simpa [Rel] using hr
  | .h t, v, hr => by simpa [Rel] using hr
  | .x id, v, hr => by simpa [Rel] using hr
  | .sy n, v, hr => by
    simp only [Rel] at hr ⊢; obtain ⟨r, h1, h2⟩ := hr; exact ⟨r, h _ _ h1, h2⟩
  | .px n i, v, hr => by
    simp only [Rel] at hr ⊢; obtain ⟨r, k, j, h1, h2, h3⟩ := hr; exact ⟨r, k, j, h _ _ h1, Rel.mono h i _ h2, h3⟩
  | .sr n, v, hr => by
    simp only [Rel] at hr ⊢; obtain ⟨r, h1, h2⟩ := hr; exact ⟨r, h _ _ h1, h2⟩
  | .pr n i sz off, v, hr => by
    simp only [Rel] at hr ⊢; obtain ⟨r, k, j, h1, h2, h3⟩ := hr; exact ⟨r, k, j, h _ _ h1, Rel.mono h i _ h2, h3⟩
  | .es, v, hr => by simpa [Rel] using hr
theorem RelL.mono {C : Cx} {ρ ρ' : Rho} (h : Sub ρ ρ') : ∀ (l : List AV) (vs : List Value), RelL C ρ l vs → RelL C ρ' l vs
  | [], _, hr => by simpa [RelL] using hr
  | a :: l, vs, hr => by
    simp only [RelL] at hr ⊢; obtain ⟨v, vt, h1, h2, h3⟩ := hr; exact ⟨v, vt, h1, Rel.mono h a v h2, RelL.mono h l vt h3⟩
end
theorem RelL.iff {C : Cx} {ρ : Rho} : ∀ (l : List AV) (vs : List Value), RelL C ρ l vs ↔ l.length = vs.length ∧ ∀ (j : Nat) (a : AV), l[j]? = some a → ∃ x, vs[j]? = some x ∧ Rel C ρ a x
  | [], vs => by simp [RelL]; exact ⟨fun h => by rw [h]; rfl, fun h => List.eq_nil_of_length_eq_zero h.symm⟩
  | a :: l, vs => by
    cases vs with
    | nil => simp [RelL]
    | cons v vt =>
      simp only [RelL, List.cons.injEq, List.length_cons]
      constructor
      · rintro ⟨v', vt', ⟨rfl, rfl⟩, h1, h2⟩
        obtain ⟨h3, h4⟩ := (RelL.iff l vt).1 h2
        refine ⟨by omega, fun j x hj => ?_⟩
        cases j with
        | zero => simp at hj; subst hj; exact ⟨v, by simp, h1⟩
        | succ j => simp at hj; obtain ⟨y, hy1, hy2⟩ := h4 j x hj; exact ⟨y, by simpa using hy1, hy2⟩
      · rintro ⟨h1, h2⟩
        refine ⟨v, vt, ⟨rfl, rfl⟩, ?_, (RelL.iff l vt).2 ⟨by omega, fun j x hj => ?_⟩⟩
        · obtain ⟨x, hx, hr⟩ := h2 0 a (by simp); simp at hx; subst hx; exact hr
        · obtain ⟨x, hx, hr⟩ := h2 (j + 1) x (by simpa using hj); exact ⟨x, by simpa using hx, hr⟩
theorem RelL.len {C : Cx} {ρ : Rho} {l : List AV} {vs : List Value} (h : RelL C ρ l vs) : vs.length = l.length := ((RelL.iff l vs).1 h).1.symm
theorem RelL.get {C : Cx} {ρ : Rho} {l : List AV} {vs : List Value} (h : RelL C ρ l vs) {j : Nat} {a : AV} (hj : l[j]? = some a) : ∃ x, vs[j]? = some x ∧ Rel C ρ a x := ((RelL.iff l vs).1 h).2 j a hj
theorem RelL.sub {C : Cx} {ρ : Rho} {l : List AV} {vs : List Value} (h : RelL C ρ l vs) (o n : Nat) : RelL C ρ ((l.drop o).take n) ((vs.drop o).take n) := by
  rw [RelL.iff] at h ⊢
  refine ⟨by simp [h.1], fun j a hj => ?_⟩
  rw [List.getElem?_take] at hj ⊢
  split at hj
  · rename_i hlt; rw [List.getElem?_drop] at hj; obtain ⟨x, hx, hr⟩ := h.2 _ _ hj; exact ⟨x, by rw [if_pos hlt, List.getElem?_drop]; exact hx, hr⟩
  · cases hj
theorem RelL.app {C : Cx} {ρ : Rho} {l m : List AV} {vs us : List Value} (h : RelL C ρ l vs) (h' : RelL C ρ m us) : RelL C ρ (l ++ m) (vs ++ us) := by
  rw [RelL.iff] at h h' ⊢
  refine ⟨by simp [h.1, h'.1], fun j a hj => ?_⟩
  rw [List.getElem?_append] at hj ⊢
  split at hj
  · rename_i hlt; obtain ⟨x, hx, hr⟩ := h.2 _ _ hj; exact ⟨x, by rw [if_pos (by omega)]; exact hx, hr⟩
  · rename_i hlt; obtain ⟨x, hx, hr⟩ := h'.2 _ _ hj; exact ⟨x, by rw [if_neg (by omega), ← h.1]; exact hx, hr⟩
theorem RelL.map {C : Cx} {ρ : Rho} {α : Type} (f : α → AV) (g : α → Value) (h : ∀ x, Rel C ρ (f x) (g x)) : ∀ l : List α, RelL C ρ (l.map f) (l.map g)
  | [] => by simp [RelL]
  | a :: l => by simp only [List.map_cons, RelL]; exact ⟨_, _, rfl, h a, RelL.map f g h l⟩
theorem aR0 {C : Cx} {ρ : Rho} {a : AV} {v : Value} (hs : scal a = true) (h : Rel C ρ a v) : v.oneCell' = true := by
  cases a with
  | und => cases hs
  | ag _ => cases hs
  | tu _ => cases hs
  | sl b o n c r => cases r <;> simp only [Rel] at h
                    · obtain ⟨r, _, _, rfl⟩ := h; rfl
                    · obtain ⟨r, a, _, _, rfl, _⟩ := h; rfl
  | x id => simp only [Rel] at h; subst h; exact C.one id (Nat.le_of_ble_eq_true hs)
  | s len n => simp only [Rel] at h; obtain ⟨rfl, _⟩ := h; rfl
  | p b o => simp only [Rel] at h; obtain ⟨r, _, rfl⟩ := h; rfl
  | ifc t a => simp only [Rel] at h; obtain ⟨r, rfl, _⟩ := h; rfl
  | fn f a c => simp only [Rel] at h; obtain ⟨r, _, rfl, _⟩ := h; rfl
  | yl n => simp only [Rel] at h; obtain ⟨r, _, rfl⟩ := h; rfl
  | mp n => simp only [Rel] at h; obtain ⟨r, _, rfl⟩ := h; rfl
  | sy n => simp only [Rel] at h; obtain ⟨r, _, _, rfl⟩ := h; rfl
  | px n i => simp only [Rel] at h; obtain ⟨r, k, j, _, _, rfl⟩ := h; rfl
  | sr n => simp only [Rel] at h; obtain ⟨r, _, _, rfl⟩ := h; rfl
  | pr n i sz off => simp only [Rel] at h; obtain ⟨r, k, j, _, _, rfl⟩ := h; rfl
  | es => simp only [Rel] at h; obtain ⟨a, c, rfl⟩ := h; rfl
  | _ => simp only [Rel] at h; subst h; rfl

/- memory -/
def CW : Cells → Prop
  | .y len n => n < 2 ^ (8 * len)
  | .l _ => True
def bB3 (C : Cx) (ρ : Rho) (c : Cells) (arr : Array Value) (base : Nat) : Prop :=
  CW c ∧ ∀ (j : Nat) (a : AV), c.toL[j]? = some a → ∃ x, arr[base + j]? = some x ∧ Rel C ρ a x ∧ x.oneCell' = true
structure aU6 (C : Cx) (ρ : Rho) (B : Fz) (k : Blk) (r : R) (arr : Array Value) (fz : Nat × Nat) : Prop where
  cells : bB3 C ρ k.c arr r.base
  grown : k.g = true → r.base + r.cap * r.es = arr.size ∧ k.m ≤ r.cap * r.es ∧ k.c.len ≤ k.m ∧ r.es = k.es
  cold : ∀ x, r.base + k.fr ≤ x → x < arr.size → ¬ (fz.1 ≤ x ∧ x < fz.2)
  plain : k.st = false → fz.1 = fz.2 ∨ (fz.1 ≤ fz.2 ∧ fz.2 ≤ r.base + k.fr)
  old : B r.blk → k.c.len ≤ k.fr ∧ k.st = true ∧ k.g = false
  room : r.base + k.c.len ≤ arr.size
  base0 : k.g = false → r.base = 0
def aY3 : Ex → Option Code
  | .normal => none
  | .exit id => some (.exit id)
  | .goto l => some (.goto l)
  | .ret => some .ret
def stOf : Nat → LoopState
  | 0 => .ready
  | 1 => .busy
  | _ => .done
structure aS3 (C : Cx) (ρ : Rho) (B : Fz) (k : LRec) (r : R) (L : Loop) : Prop where
  own : ¬ B r.blk
  ps : L.params.toList = k.ps
  asg : L.assign = k.asg
  body : L.body = k.body
  okA : codeOk k.asg = true ∧ flat k.asg = true
  okB : codeOk k.body = true ∧ flat k.body = true
  size : L.tmps.size = k.nt
  nt : k.nt ≤ 16777213
  tm : ∀ t x, k.tm.get t = some x → Rel C ρ x (L.tmps.getD t undef)
  st : L.state = stOf k.st
  pend : L.pending = aY3 k.pend
def RelM (C : Cx) (ρ : Rho) : List ME → List MapEntry → Prop
  | [], l => l = []
  | e :: es, l => ∃ x xs, l = x :: xs ∧ Rel C ρ e.k x.key ∧ Rel C ρ e.v x.val ∧ x.born = e.b ∧ RelM C ρ es xs
theorem RelM.mono {C : Cx} {ρ ρ' : Rho} (h : Sub ρ ρ') : ∀ (es : List ME) (l : List MapEntry), RelM C ρ es l → RelM C ρ' es l
  | [], l, hr => hr
  | e :: es, l, hr => by
    obtain ⟨x, xs, h1, h2, h3, h4, h5⟩ := hr
    exact ⟨x, xs, h1, Rel.mono h _ _ h2, Rel.mono h _ _ h3, h4, RelM.mono h es xs h5⟩
structure MapAt (C : Cx) (ρ : Rho) (B : Fz) (es : List ME) (clock : Nat) (r : R) (arr : Array MapEntry) (clk : Nat) : Prop where
  own : ¬ B r.blk
  ents : RelM C ρ es arr.toList
  clk : clk = clock
structure ItAt (C : Cx) (ρ : Rho) (B : Fz) (m since : Nat) (seen : List Nat) (last : Nat) (r : R) (mo : Option Nat) (si : Nat) (sn : Array Nat) (st : Nat) : Prop where
  own : ¬ B r.blk
  base : r.base = 0
  mp : ∃ rm, ρ m = some rm ∧ mo = some rm.blk
  since : si = since
  seen : sn.toList = seen
  last : st = last
structure RowT (C : Cx) (B : Fz) (id : Nat) (r : R) (arr : Array Value) (fz : Nat × Nat) : Prop where
  own : ¬ B r.blk
  base : r.base = 0
  str : ∃ l : List UInt8, C.nu id = .string ⟨l.toArray⟩ ∧ l.length = r.cap ∧ ∀ (j : Nat) (b : UInt8), l[j]? = some b → arr[j]? = some (.int .u8 (b.toNat : Int))
  cap : r.cap ≤ r.es
  room : r.es ≤ arr.size
  free : ∀ x, x < arr.size → ¬ (fz.1 ≤ x ∧ x < fz.2)
structure RowR (C : Cx) (B : Fz) (id sz : Nat) (ro : Bool) (r : R) (arr : Array Value) (fz : Nat × Nat) : Prop where
  own : ro = false → ¬ B r.blk ∧ r.base = 0 ∧ (∀ x, x < arr.size → ¬ (fz.1 ≤ x ∧ x < fz.2)) ∧ r.es * sz ≤ arr.size
  row : ∃ cs : List Value, C.nu id = .tuple ⟨cs⟩ ∧ cs.length = r.cap * sz ∧ ∀ (j : Nat) (x : Value), cs[j]? = some x → arr[r.base + j]? = some x ∧ x.oneCell' = true
  cap : r.cap ≤ r.es
  pos : 1 ≤ sz
def rfP (P : Program) (g : Nat) : Option (List Nat × Code × Code) := match P.funcs[g]? with
  | some fn => (match fn.body with | some c => aP4 c | none => none)
  | none => none
def aU3 (C : Cx) (ρ : Rho) (B : Fz) : Ent → R → Obj → Prop
  | .b k, r, .cells arr t fz => t = k.e ∧ aU6 C ρ B k r arr fz
  | .j k, r, .loop L => aS3 C ρ B k r L
  | .m es c, r, .map arr clk => MapAt C ρ B es c r arr clk
  | .it m si se la, r, .mapIter mo s n st => ItAt C ρ B m si se la r mo s n st
  | .t id e, r, .cells arr t fz => t = e ∧ RowT C B id r arr fz
  | .r id e sz ro, r, .cells arr t fz => (ro = false → t = e) ∧ RowR C B id sz ro r arr fz
  | .k g tm nt st pend, r, .loop L => rfP C.P g = some (L.params.toList, L.assign, L.body) ∧ aS3 C ρ B ⟨L.params.toList, L.assign, L.body, aT0 tm .leaf, nt, st, pend⟩ r L
  | _, _, _ => False
def BlkOk (C : Cx) (ρ : Rho) (B : Fz) (w : World) (k : Ent) (r : R) : Prop :=
  ∃ o, w.heap[r.blk]? = some o ∧ aU3 C ρ B k r o
structure Fits (C : Cx) (ng : Nat) (B : Fz) (ρ : Rho) (H : T Ent) (w : World) : Prop where
  size : ∀ k, B k → k < w.heap.size
  glob : ∀ g, g < ng → ρ g = some ⟨g, 0, 0, 0⟩
  blk : ∀ v k, H.get v = some k → ∃ r, ρ v = some r ∧ BlkOk C ρ B w k r
  inj : ∀ v v' k k' r r', H.get v = some k → H.get v' = some k' → ρ v = some r → ρ v' = some r' → r.blk = r'.blk → v = v' ∨ (roE k = true ∧ roE k' = true)
  low : ∀ k, k < C.nst → B k
  inv : C.inv w
theorem Fits.fresh {C : Cx} {ng : Nat} {B : Fz} {ρ : Rho} {H : T Ent} {w : World} (h : Fits C ng B ρ H w) {k : Nat} (hk : w.heap.size ≤ k) : ¬ B k := fun hb => by have := h.size k hb; omega
theorem Fits.nsz {C : Cx} {ng : Nat} {B : Fz} {ρ : Rho} {H : T Ent} {w : World} (h : Fits C ng B ρ H w) : C.nst ≤ w.heap.size := by
  rcases Nat.lt_or_ge w.heap.size C.nst with hh | hh
  · have := h.size _ (h.low _ hh); omega
  · exact hh
def Ext (ρ ρ' : Rho) (lo hi : Nat) : Prop := ∀ v, v < lo ∨ hi ≤ v → ρ' v = ρ v
def Free (ρ : Rho) (lo hi : Nat) : Prop := ∀ v, lo ≤ v → v < hi → ρ v = none
theorem Ext.refl (ρ : Rho) (lo hi : Nat) : Ext ρ ρ lo hi := fun _ _ => rfl
theorem Ext.sub {ρ ρ' : Rho} {lo hi : Nat} (h : Ext ρ ρ' lo hi) (hf : Free ρ lo hi) : Sub ρ ρ' := fun v r hv => by
  by_cases h1 : v < lo
  · rw [h v (.inl h1)]; exact hv
  · by_cases h2 : hi ≤ v
    · rw [h v (.inr h2)]; exact hv
    · rw [hf v (by omega) (by omega)] at hv; cases hv
theorem Ext.trans {ρ ρ' ρ'' : Rho} {a b c : Nat} (h : Ext ρ ρ' a b) (h' : Ext ρ' ρ'' b c) (hab : a ≤ b) (hbc : b ≤ c) : Ext ρ ρ'' a c := fun v hv => by
  rw [h' v (by omega), h v (by omega)]
theorem Free.left {ρ : Rho} {a b c : Nat} (h : Free ρ a c) (hbc : b ≤ c) : Free ρ a b := fun v h1 h2 => h v h1 (by omega)
theorem Free.right {ρ ρ' : Rho} {a b c : Nat} (h : Free ρ a c) (hab : a ≤ b) (he : Ext ρ ρ' a b) : Free ρ' b c := fun v h1 h2 => by
  rw [he v (.inr h1)]; exact h v (by omega) h2
theorem Free.none {ρ : Rho} (a : Nat) : Free ρ a a := fun v h1 h2 => by omega
theorem bB3.mono {C : Cx} {ρ ρ' : Rho} {c : Cells} {arr : Array Value} {base : Nat} (hs : Sub ρ ρ') (h : bB3 C ρ c arr base) : bB3 C ρ' c arr base :=
  ⟨h.1, fun j a hj => let ⟨x, h1, h2, h3⟩ := h.2 j a hj; ⟨x, h1, Rel.mono hs a x h2, h3⟩⟩
theorem aU6.mono {C : Cx} {ρ ρ' : Rho} {B : Fz} {k : Blk} {r : R} {arr : Array Value} {fz : Nat × Nat} (hs : Sub ρ ρ') (h : aU6 C ρ B k r arr fz) : aU6 C ρ' B k r arr fz :=
  { h with cells := h.cells.mono hs }
theorem aS3.mono {C : Cx} {ρ ρ' : Rho} {B : Fz} {k : LRec} {r : R} {L : Loop} (hs : Sub ρ ρ') (h : aS3 C ρ B k r L) : aS3 C ρ' B k r L :=
  { h with tm := fun t x ht => Rel.mono hs x _ (h.tm t x ht) }
theorem MapAt.mono {C : Cx} {ρ ρ' : Rho} {B : Fz} {es : List ME} {c : Nat} {r : R} {arr : Array MapEntry} {clk : Nat} (hs : Sub ρ ρ') (h : MapAt C ρ B es c r arr clk) : MapAt C ρ' B es c r arr clk :=
  { h with ents := RelM.mono hs _ _ h.ents }
theorem ItAt.mono {C : Cx} {ρ ρ' : Rho} {B : Fz} {m si : Nat} {se : List Nat} {la : Nat} {r : R} {mo : Option Nat} {s : Nat} {n : Array Nat} {st : Nat} (hs : Sub ρ ρ') (h : ItAt C ρ B m si se la r mo s n st) : ItAt C ρ' B m si se la r mo s n st :=
  { h with mp := let ⟨rm, h1, h2⟩ := h.mp; ⟨rm, hs _ _ h1, h2⟩ }
theorem aU3.mono {C : Cx} {ρ ρ' : Rho} {B : Fz} {k : Ent} {r : R} {o : Obj} (hs : Sub ρ ρ') (h : aU3 C ρ B k r o) : aU3 C ρ' B k r o := by
  cases k <;> cases o <;> first | exact ⟨h.1, h.2.mono hs⟩ | exact aS3.mono hs h | exact MapAt.mono hs h | exact ItAt.mono hs h | exact h
def put1 (ρ : Rho) (n : Nat) (r : R) : Rho := fun v => if v = n then some r else ρ v
theorem aU8 {ρ : Rho} {n : Nat} {r : R} (h : ρ n = none) : Sub ρ (put1 ρ n r) := fun v x hv => by
  unfold put1; split
  · rename_i e; subst e; rw [h] at hv; cases hv
  · exact hv
theorem aE2 (ρ : Rho) (n : Nat) (r : R) : Ext ρ (put1 ρ n r) n (n + 1) := fun v hv => by
  unfold put1; rw [if_neg (by omega)]
theorem Fits.new {C : Cx} {ng : Nat} {B : Fz} {ρ : Rho} {H : T Ent} {w : World} {n : Nat} {k : Ent} {r : R} {o : Obj} {w' : World}
    (h : Fits C ng B ρ H w) (hn : n ≤ 16777213) (hng : ng ≤ n) (hf : ρ n = none) (hr : r.blk = w.heap.size) (hk : aU3 C ρ B k r o) (hw' : w'.heap = w.heap.push o) :
    Fits C ng B (put1 ρ n r) (H.set n k) w' := by
  have hs := aU8 (r := r) hf
  have hsz : w'.heap.size = w.heap.size + 1 := by rw [hw']; simp
  refine ⟨fun k hk => by have := h.size k hk; omega, fun g hg => by rw [hs g _ (h.glob g hg)], fun v k' hv => ?_, ?_, ?_, ?_⟩
  · rw [aE9 _ _ _ _ hn] at hv
    split at hv
    · rename_i e; subst e; injection hv with hv; subst hv
      refine ⟨r, by simp [put1], o, ?_, hk.mono hs⟩
      rw [hw', hr]; simp
    · obtain ⟨r', h1, o', h2, h3⟩ := h.blk v k' hv
      refine ⟨r', hs _ _ h1, o', ?_, h3.mono hs⟩
      have hlt : r'.blk < w.heap.size := by
        rcases Nat.lt_or_ge r'.blk w.heap.size with h | h
        · exact h
        · rw [Array.getElem?_eq_none h] at h2; cases h2
      rw [hw', Array.getElem?_push, if_neg (by omega)]; exact h2
  · have hlt : ∀ v k' r', H.get v = some k' → ρ v = some r' → r'.blk < w.heap.size := fun v k' r' hv hr' => by
      obtain ⟨r'', h1, o', h2, h3⟩ := h.blk v k' hv
      rw [hr'] at h1; injection h1 with h1; subst h1
      rcases Nat.lt_or_ge r'.blk w.heap.size with h | h
      · exact h
      · rw [Array.getElem?_eq_none h] at h2; cases h2
    intro v v' k1 k2 r1 r2 hv hv' hr1 hr2 he
    rw [aE9 _ _ _ _ hn] at hv hv'
    unfold put1 at hr1 hr2
    by_cases e1 : v = n <;> by_cases e2 : v' = n
    · exact .inl (by omega)
    · rw [if_pos e1] at hr1; rw [if_neg e2] at hr2 hv'; injection hr1 with hr1; subst hr1
      have := hlt _ _ _ hv' hr2; exfalso; omega
    · rw [if_neg e1] at hr1 hv; rw [if_pos e2] at hr2; injection hr2 with hr2; subst hr2
      have := hlt _ _ _ hv hr1; exfalso; omega
    · rw [if_neg e1] at hr1 hv; rw [if_neg e2] at hr2 hv'
      exact h.inj v v' k1 k2 r1 r2 hv hv' hr1 hr2 he
  · exact h.low
  · refine C.stab w w' (fun b hb => ?_) h.inv
    have := h.size _ (h.low _ hb)
    rw [hw', Array.getElem?_push, if_neg (by omega)]
theorem Fits.solo {C : Cx} {ng : Nat} {B : Fz} {ρ : Rho} {H : T Ent} {w : World} (h : Fits C ng B ρ H w) {u v : Nat} {j k : Ent} {r r' : R} (hu : H.get u = some j) (hv : H.get v = some k) (hr : ρ u = some r) (hr' : ρ v = some r') (hk : roE k = false) (e : r.blk = r'.blk) : u = v :=
  (h.inj u v j k r r' hu hv hr hr' e).resolve_right fun q => by rw [hk] at q; cases q.2
theorem Fits.upd {C : Cx} {ng : Nat} {B : Fz} {ρ : Rho} {H : T Ent} {w w' : World} {v : Nat} {k k' : Ent} {r : R} {o : Obj}
    (h : Fits C ng B ρ H w) (hn : v ≤ 16777213) (hv : H.get v = some k) (hr : ρ v = some r) (hk : aU3 C ρ B k' r o)
    (hw : w'.heap[r.blk]? = some o) (ho : ∀ b, b ≠ r.blk → w'.heap[b]? = w.heap[b]?) (hsz : w'.heap.size = w.heap.size) (hB : ∀ b, B b → w'.heap[b]? = w.heap[b]?) (hro : roE k = false := by rfl) :
    Fits C ng B ρ (H.set v k') w' := by
  refine ⟨fun k hk => by have := h.size k hk; omega, h.glob, fun u ku hu => ?_, ?_, h.low, C.stab w w' (fun b hb => hB b (h.low b hb)) h.inv⟩
  · rw [aE9 _ _ _ _ hn] at hu
    split at hu
    · rename_i e; subst e; injection hu with hu; subst hu
      exact ⟨r, hr, o, hw, hk⟩
    · rename_i e
      obtain ⟨r', h1, o', h2, h3⟩ := h.blk u ku hu
      refine ⟨r', h1, o', ?_, h3⟩
      rw [ho _ (fun e' => e (h.solo hu hv h1 hr hro e'))]; exact h2
  · intro a b k1 k2 r1 r2 ha hb hr1 hr2 he
    rw [aE9 _ _ _ _ hn] at ha hb
    by_cases e1 : a = v <;> by_cases e2 : b = v
    · exact .inl (by omega)
    · rw [if_neg e2] at hb; subst e1
      exact absurd (h.solo hb hv hr2 hr1 hro he.symm) e2
    · rw [if_neg e1] at ha; subst e2
      exact absurd (h.solo ha hv hr1 hr2 hro he) e1
    · rw [if_neg e1] at ha; rw [if_neg e2] at hb
      exact h.inj a b k1 k2 r1 r2 ha hb hr1 hr2 he
theorem Fits.del {C : Cx} {ng : Nat} {B : Fz} {ρ : Rho} {H : T Ent} {w : World} {v : Nat} (h : Fits C ng B ρ H w) (hn : v ≤ 16777213) : Fits C ng B ρ (H.del v) w := by
  have : ∀ x kx, (H.del v).get x = some kx → H.get x = some kx := fun x kx hx => by
    rw [aR6 _ _ _ hn] at hx; split at hx
    · cases hx
    · exact hx
  exact ⟨h.size, h.glob, fun u ku hu => h.blk u ku (this _ _ hu), fun a b k1 k2 r1 r2 ha hb => h.inj a b k1 k2 r1 r2 (this _ _ ha) (this _ _ hb), h.low, h.inv⟩
theorem Fits.sub {C : Cx} {ng : Nat} {B : Fz} {ρ : Rho} {H H' : T Ent} {w : World} (h : Fits C ng B ρ H w) (hh : ∀ v k, H'.get v = some k → H.get v = some k) : Fits C ng B ρ H' w :=
  ⟨h.size, h.glob, fun u ku hu => h.blk u ku (hh _ _ hu), fun a b k1 k2 r1 r2 ha hb => h.inj a b k1 k2 r1 r2 (hh _ _ ha) (hh _ _ hb), h.low, h.inv⟩
theorem Fits.move {C : Cx} {ng : Nat} {B : Fz} {ρ : Rho} {H : T Ent} {w w' : World} {v n : Nat} {k k' : Ent} {r r' : R} {o : Obj} (h : Fits C ng B ρ H w) (hv : H.get v = some k) (hr : ρ v = some r) (hvn : v ≤ 16777213) (hn : n ≤ 16777213) (hf : ρ n = none)
    (hk : aU3 C ρ B k' r' o) (hrr : r'.blk = r.blk) (hw : w'.heap[r.blk]? = some o) (ho : ∀ b, b ≠ r.blk → w'.heap[b]? = w.heap[b]?) (hsz : w'.heap.size = w.heap.size) (hB : ∀ b, B b → w'.heap[b]? = w.heap[b]?) (hro : roE k = false := by rfl) :
    Fits C ng B (put1 ρ n r') ((H.del v).set n k') w' := by
  have hs := aU8 (r := r') hf
  have hget : ∀ u ku, u ≠ n → ((H.del v).set n k').get u = some ku → u ≠ v ∧ H.get u = some ku := fun u ku hun hu => by
    rw [aE9 _ _ _ _ hn, if_neg hun, aR6 _ _ _ hvn] at hu
    split at hu
    · cases hu
    · rename_i e; exact ⟨e, hu⟩
  refine ⟨fun k hk => by have := h.size k hk; omega, fun g hg => by rw [hs g _ (h.glob g hg)], fun u ku hu => ?_, ?_, h.low, C.stab w w' (fun b hb => hB b (h.low b hb)) h.inv⟩
  · by_cases e : u = n
    · subst e
      rw [aE9 _ _ _ _ hn, if_pos rfl] at hu; injection hu with hu; subst hu
      exact ⟨r', by simp [put1], o, by rw [hrr]; exact hw, hk.mono hs⟩
    · obtain ⟨e2, hu'⟩ := hget u ku e hu
      obtain ⟨r2, h1, o2, h2, h3⟩ := h.blk u ku hu'
      refine ⟨r2, hs _ _ h1, o2, ?_, h3.mono hs⟩
      rw [ho _ (fun e' => e2 (h.solo hu' hv h1 hr hro e'))]; exact h2
  · intro a b k1 k2 r1 r2 ha hb hr1 hr2 he
    by_cases e1 : a = n <;> by_cases e2 : b = n
    · exact .inl (by omega)
    · subst e1
      obtain ⟨e3, hb'⟩ := hget b k2 e2 hb
      simp only [put1, if_pos rfl] at hr1; injection hr1 with hr1; subst hr1
      unfold put1 at hr2; rw [if_neg e2] at hr2
      exact absurd (h.solo hb' hv hr2 hr hro (by rw [← he, hrr])) e3
    · subst e2
      obtain ⟨e3, ha'⟩ := hget a k1 e1 ha
      simp only [put1, if_pos rfl] at hr2; injection hr2 with hr2; subst hr2
      unfold put1 at hr1; rw [if_neg e1] at hr1
      exact absurd (h.solo ha' hv hr1 hr hro (by rw [he, hrr])) e3
    · obtain ⟨_, ha'⟩ := hget a k1 e1 ha
      obtain ⟨_, hb'⟩ := hget b k2 e2 hb
      unfold put1 at hr1 hr2; rw [if_neg e1] at hr1; rw [if_neg e2] at hr2
      exact h.inj a b k1 k2 r1 r2 ha' hb' hr1 hr2 he
theorem aN5 {C : Cx} {B : Fz} {ρ : Rho} {w : World} {ng : Nat} {H : T Ent} (hF : Fits C ng B ρ H w) {v id e sz : Nat} {ro : Bool} (hv : H.get v = some (.r id e sz ro)) {r : R} (hr : ρ v = some r) : ∃ arr t fz, w.heap[r.blk]? = some (.cells arr t fz) ∧ (ro = false → t = e) ∧ RowR C B id sz ro r arr fz := by
  obtain ⟨r', h1, o, h2, h3⟩ := hF.blk v _ hv
  rw [hr] at h1; injection h1 with h1; subst h1
  cases o with
  | cells arr t fz => obtain ⟨h5, h4⟩ := h3; exact ⟨arr, t, fz, h2, h5, h4⟩
  | _ => exact h3.elim
end Go.AX
end
section
namespace Go.AX
theorem aW4 {a b : Nat} (h : a ≤ b) : Nat.ble a b = true := Nat.ble_eq_true_of_le h
theorem bM5 {a b : Nat} (h : a < b) : Nat.blt a b = true := Nat.ble_eq_true_of_le h
theorem aK7 {a b : Nat} (h : ¬ a ≤ b) : Nat.ble a b = false := Bool.eq_false_iff.2 fun e => h (Nat.le_of_ble_eq_true e)
theorem aT7 {a b : Nat} (h : ¬ a < b) : Nat.blt a b = false := Bool.eq_false_iff.2 fun e => h (Nat.le_of_ble_eq_true e)
theorem bQ0 : ∀ (l : List AV) (n : Nat), lget l n = l[n]?
  | [], n => by simp [lget]
  | a :: l, n => by
    unfold lget
    cases n with
    | zero => rfl
    | succ n => show lget l n = _; rw [bQ0 l n]; simp
theorem aD9 (len n : Nat) : (unp len n).length = len := by simp [unp]
theorem aI6 (len n j : Nat) : (unp len n)[j]? = if j < len then some (.i .u8 (.ofNat (byteAt n j))) else none := by
  unfold unp
  split
  · rename_i h; simp [h]
  · rename_i h; simp; omega
theorem bE0 {len n : Nat} {l : List AV} (h : l.length = len) (hj : ∀ j, j < len → l[j]? = some (.i .u8 (.ofNat (byteAt n j)))) : unp len n = l := by
  apply List.ext_getElem?
  intro j
  rw [aI6]
  split
  · rename_i hlt; rw [hj j hlt]
  · rename_i hlt; rw [List.getElem?_eq_none (by omega)]
theorem Cells.len_eq (c : Cells) : c.len = c.toL.length := by
  cases c <;> simp [Cells.len, Cells.toL, aD9]
theorem Cells.get_eq (c : Cells) (j : Nat) : c.get j = c.toL[j]? := by
  cases c with
  | l vs => exact bQ0 vs j
  | y len n =>
    simp only [Cells.get, Cells.toL, aI6]
    by_cases h : j < len
    · rw [if_pos h, bM5 h]; rfl
    · rw [if_neg h, aT7 h]; rfl
theorem Cells.aQ8 {c c' : Cells} {o n : Nat} (h : c.sub o n = some c') : o + n ≤ c.len ∧ c'.toL = (c.toL.drop o).take n ∧ CW c' := by
  cases c with
  | l vs =>
    simp only [Cells.sub] at h
    by_cases hc : o + n ≤ vs.length
    · rw [show Nat.ble (Nat.add o n) vs.length = true from Nat.ble_eq_true_of_le hc] at h
      injection h with h; subst h; exact ⟨hc, rfl, trivial⟩
    · rw [show Nat.ble (Nat.add o n) vs.length = false from aK7 hc] at h; cases h
  | y len m =>
    simp only [Cells.sub] at h
    by_cases hc : o + n ≤ len
    · rw [show Nat.ble (Nat.add o n) len = true from Nat.ble_eq_true_of_le hc] at h
      injection h with h; subst h
      refine ⟨hc, ?_, dE2 _ _⟩
      show unp n (low (m >>> (8 * o)) n) = _
      refine bE0 (by simp [Cells.toL, aD9]; omega) fun j hj => ?_
      show ((unp len m).drop o |>.take n)[j]? = _
      rw [List.getElem?_take, if_pos hj, List.getElem?_drop, aI6, if_pos (by omega), bF8 _ _ _ hj, aQ0]
    · rw [show Nat.ble (Nat.add o n) len = false from aK7 hc] at h; cases h
theorem bC2 : ∀ (l : List AV) (o : Nat) (d : List AV) (j : Nat), o ≤ l.length → (putL l o d)[j]? = if j < o then l[j]? else if j < o + d.length then d[j - o]? else l[j]?
  | l, 0, d, j, _ => by
    cases l with
    | nil =>
      simp only [putL, List.drop_nil, List.append_nil, Nat.not_lt_zero, if_false, Nat.zero_add, Nat.sub_zero]
      split
      · rfl
      · rw [List.getElem?_eq_none (by omega)]; simp
    | cons v l =>
      simp only [putL, Nat.not_lt_zero, if_false, Nat.zero_add, Nat.sub_zero]
      rw [List.getElem?_append]
      split
      · rfl
      · rw [List.getElem?_drop]; congr 1; omega
  | [], o + 1, d, j, h => by simp at h
  | v :: l, o + 1, d, j, h => by
    simp only [putL]
    cases j with
    | zero => simp
    | succ j =>
      simp only [List.getElem?_cons_succ, Nat.add_lt_add_iff_right]
      rw [bC2 l o d j (by simpa using h)]
      have e1 : j + 1 < o + 1 + d.length ↔ j < o + d.length := by omega
      simp only [e1, show j + 1 - (o + 1) = j - o by omega]
theorem aM3 : ∀ (l : List AV) (o : Nat) (d : List AV), o ≤ l.length → (putL l o d).length = max l.length (o + d.length)
  | l, 0, d, _ => by
    cases l <;> simp [putL] <;> omega
  | [], o + 1, d, h => by simp at h
  | v :: l, o + 1, d, h => by
    simp only [putL, List.length_cons]
    rw [aM3 l o d (by simpa using h)]; omega
theorem dE8 (n m k o len j : Nat) (ho : o ≤ len) (hn : n < 2 ^ (8 * len)) (hm : m < 2 ^ (8 * k)) :
    byteAt (low n o + (m * 2 ^ (8 * o) + (n >>> (8 * (o + k))) * 2 ^ (8 * (o + k)))) j = if j < o then byteAt n j else if j < o + k then byteAt m (j - o) else byteAt n j := by
  have e : low n o + (m * 2 ^ (8 * o) + (n >>> (8 * (o + k))) * 2 ^ (8 * (o + k))) = low n o + (m + (n >>> (8 * (o + k))) * 2 ^ (8 * k)) * 2 ^ (8 * o) := by
    rw [Nat.add_mul, Nat.mul_assoc, ← Nat.pow_add]; congr 4; omega
  rw [e, aK2 _ _ _ _ (dE2 _ _)]
  split
  · rename_i h; exact bF8 _ _ _ h
  · rename_i h
    rw [aK2 _ _ _ _ hm]
    by_cases h2 : j < o + k
    · rw [if_pos (by omega), if_pos h2]
    · rw [if_neg (by omega), if_neg h2, aQ0]; congr 1; omega
theorem lay_lt (n m k o len : Nat) (ho : o ≤ len) (hn : n < 2 ^ (8 * len)) (hm : m < 2 ^ (8 * k)) :
    low n o + (m * 2 ^ (8 * o) + (n >>> (8 * (o + k))) * 2 ^ (8 * (o + k))) < 2 ^ (8 * max len (o + k)) := by
  have e : low n o + (m * 2 ^ (8 * o) + (n >>> (8 * (o + k))) * 2 ^ (8 * (o + k))) = (low n o + m * 2 ^ (8 * o)) + (n >>> (8 * (o + k))) * 2 ^ (8 * (o + k)) := by omega
  rw [e]
  have h1 := add_lt o k (low n o) m (dE2 _ _) hm
  by_cases hc : len ≤ o + k
  · rw [Nat.shiftRight_eq_div_pow, Nat.div_eq_of_lt (Nat.lt_of_lt_of_le hn (Nat.pow_le_pow_right (by omega) (by omega))), Nat.zero_mul, Nat.add_zero, Nat.max_eq_right hc]
    exact h1
  · have h2 : n >>> (8 * (o + k)) < 2 ^ (8 * (len - (o + k))) := by
      rw [Nat.shiftRight_eq_div_pow]
      apply Nat.div_lt_of_lt_mul
      rw [← Nat.pow_add, show 8 * (o + k) + 8 * (len - (o + k)) = 8 * len by omega]; exact hn
    have := add_lt (o + k) (len - (o + k)) _ _ h1 h2
    rw [show o + k + (len - (o + k)) = max len (o + k) by omega] at this
    exact this
theorem Cells.bJ3 {c d c' : Cells} {o : Nat} (hc : CW c) (hd : CW d) (h : c.put o d = some c') : o ≤ c.len ∧ c'.toL = putL c.toL o d.toL ∧ CW c' := by
  have gen : (cond (Nat.ble o c.len) (some (Cells.l (putL c.toL o d.toL))) none) = some c' → o ≤ c.len ∧ c'.toL = putL c.toL o d.toL ∧ CW c' := by
    intro h
    by_cases hcl : o ≤ c.len
    · rw [show Nat.ble o c.len = true from Nat.ble_eq_true_of_le hcl] at h
      injection h with h; subst h; exact ⟨hcl, rfl, trivial⟩
    · rw [aK7 hcl] at h; cases h
  cases c with
  | l vs => exact gen h
  | y len n =>
    cases d with
    | l ws => exact gen h
    | y k m =>
      simp only [Cells.put] at h
      by_cases hcl : o ≤ len
      · rw [show Nat.ble o len = true from Nat.ble_eq_true_of_le hcl] at h
        injection h with h; subst h
        refine ⟨hcl, ?_, ?_⟩
        · show unp (max len (o + k)) (low n o + (m <<< (8 * o) + (n >>> (8 * (o + k))) <<< (8 * (o + k)))) = _
          simp only [Nat.shiftLeft_eq]
          refine bE0 (by rw [aM3 _ _ _ (by simpa [Cells.toL, aD9] using hcl)]; simp [Cells.toL, aD9]) fun j hj => ?_
          rw [bC2 _ _ _ _ (by simpa [Cells.toL, aD9] using hcl), dE8 n m k o len j hcl hc hd]
          simp only [Cells.toL, aD9]
          by_cases h1 : j < o
          · rw [if_pos h1, if_pos h1, aI6, if_pos (by omega)]
          · rw [if_neg h1, if_neg h1]
            by_cases h2 : j < o + k
            · rw [if_pos h2, if_pos h2, aI6, if_pos (by omega)]
            · rw [if_neg h2, if_neg h2, aI6, if_pos (by omega)]
        · show low n o + (m <<< (8 * o) + (n >>> (8 * (o + k))) <<< (8 * (o + k))) < _
          simp only [Nat.shiftLeft_eq]
          exact lay_lt n m k o len hcl hc hd
      · rw [aK7 hcl] at h; cases h
theorem Cells.cM3 {c d : Cells} (hc : CW c) (hd : CW d) : (c.app d).toL = c.toL ++ d.toL ∧ CW (c.app d) := by
  cases c with
  | l vs => exact ⟨rfl, trivial⟩
  | y len n =>
    cases d with
    | l ws => exact ⟨rfl, trivial⟩
    | y k m =>
      refine ⟨?_, ?_⟩
      · show unp (len + k) (n + m <<< (8 * len)) = _
        rw [Nat.shiftLeft_eq]
        refine bE0 (by simp [Cells.toL, aD9]) fun j hj => ?_
        rw [List.getElem?_append, aK2 _ _ _ _ hc]
        simp only [Cells.toL, aD9]
        by_cases h1 : j < len
        · rw [if_pos h1, if_pos h1, aI6, if_pos h1]
        · rw [if_neg h1, if_neg h1, aI6, if_pos (by omega)]
      · show n + m <<< (8 * len) < _
        rw [Nat.shiftLeft_eq]
        exact add_lt _ _ _ _ hc hd
theorem bH3 {v : AV} {x : Nat} (h : bT2 v = some x) : v = .i .u8 (.ofNat x) ∧ x < 256 := by
  unfold bT2 at h
  split at h
  · rename_i n
    by_cases hn : n < 256
    · rw [show Nat.blt n 256 = true from Nat.ble_eq_true_of_le hn] at h; injection h with h; subst h; exact ⟨rfl, hn⟩
    · rw [aT7 hn] at h; cases h
  · cases h
theorem Cells.set1_spec {c c' : Cells} {o : Nat} {v : AV} (hc : CW c) (h : c.set1 o v = some c') : o < c.len ∧ c'.toL = putL c.toL o [v] ∧ CW c' := by
  cases c with
  | l vs =>
    simp only [Cells.set1] at h
    by_cases hcl : o < vs.length
    · rw [show Nat.blt o vs.length = true from Nat.ble_eq_true_of_le hcl] at h
      injection h with h; subst h; exact ⟨hcl, rfl, trivial⟩
    · rw [aT7 hcl] at h; cases h
  | y len n =>
    simp only [Cells.set1] at h
    cases hb : bT2 v with
    | none =>
      rw [hb] at h
      by_cases hcl : o < len
      · simp only [show Nat.blt o len = true from Nat.ble_eq_true_of_le hcl, cond_true] at h
        injection h with h; subst h
        exact ⟨hcl, rfl, trivial⟩
      · simp only [aT7 hcl, cond_false] at h; cases h
    | some x =>
      rw [hb] at h
      obtain ⟨rfl, hx⟩ := bH3 hb
      by_cases hcl : o < len
      · simp only [show Nat.blt o len = true from Nat.ble_eq_true_of_le hcl, cond_true] at h
        injection h with h; subst h
        have e : ∀ j, (if j < o then byteAt n j else if j < o + 1 then byteAt x (j - o) else byteAt n j) = byteAt (low n o + (x <<< (8 * o) + (n >>> (8 * (o + 1))) <<< (8 * (o + 1)))) j := fun j => by
          simp only [Nat.shiftLeft_eq]
          exact (dE8 n x 1 o len j (by omega) hc hx).symm
        refine ⟨hcl, ?_, ?_⟩
        · show unp len (low n o + (x <<< (8 * o) + (n >>> (8 * (o + 1))) <<< (8 * (o + 1)))) = _
          refine bE0 (by rw [aM3 _ _ _ (by simp [Cells.toL, aD9]; omega)]; simp [Cells.toL, aD9]; omega) fun j hj => ?_
          rw [bC2 _ _ _ _ (by simp [Cells.toL, aD9]; omega), ← e j]
          simp only [Cells.toL, List.length_cons, List.length_nil, Nat.zero_add]
          by_cases h1 : j < o
          · rw [if_pos h1, if_pos h1, aI6, if_pos (by omega)]
          · rw [if_neg h1, if_neg h1]
            by_cases h2 : j < o + 1
            · rw [if_pos h2, if_pos h2, show j - o = 0 by omega]
              simp [aK6]; omega
            · rw [if_neg h2, if_neg h2, aI6, if_pos (by omega)]
        · have := lay_lt n x 1 o len (by omega) hc hx
          rw [Nat.max_eq_left (by omega)] at this
          show low n o + (x <<< (8 * o) + (n >>> (8 * (o + 1))) <<< (8 * (o + 1))) < _
          simp only [Nat.shiftLeft_eq]
          exact this
      · simp only [aT7 hcl, cond_false] at h; cases h
theorem aU9 : ∀ {l : List AV} {k n : Nat}, bP6 l = some (k, n) → k = l.length ∧ unp k n = l ∧ n < 2 ^ (8 * k)
  | [], k, n, h => by simp [bP6] at h; obtain ⟨rfl, rfl⟩ := h; exact ⟨rfl, rfl, by simp⟩
  | v :: l, k, n, h => by
    unfold bP6 at h
    split at h
    · rename_i x k' n' hx hl
      simp only [Option.some.injEq, Prod.mk.injEq] at h
      obtain ⟨rfl, rfl⟩ := h
      obtain ⟨h1, h2, h3⟩ := aU9 hl
      obtain ⟨rfl, hx'⟩ := bH3 hx
      have hb : x < 2 ^ (8 * 1) := hx'
      have e : Nat.add x (Nat.mul 256 n') = x + n' * 2 ^ (8 * 1) := by show x + 256 * n' = _; rw [Nat.mul_comm]
      refine ⟨by simp [h1], ?_, ?_⟩
      · rw [e, show Nat.succ k' = 1 + k' by omega]
        refine bE0 (by simp [h1]; omega) fun j hj => ?_
        rw [aK2 _ _ _ _ hb]
        cases j with
        | zero => simp [aK6]; omega
        | succ j =>
          rw [if_neg (by omega)]
          have := congrArg (fun l => l[j]?) h2
          simp only [aI6] at this
          rw [if_pos (by omega)] at this
          simp only [List.getElem?_cons_succ, Nat.add_sub_cancel]
          rw [← this]
      · rw [e, show Nat.succ k' = 1 + k' by omega]; exact add_lt 1 k' _ _ hb h3
    · cases h
theorem toCells_spec (u : Bool) (l : List AV) : (toCells u l).toL = l ∧ CW (toCells u l) := by
  cases u with
  | false => exact ⟨rfl, trivial⟩
  | true =>
    unfold toCells
    simp only [cond_true]
    cases h : bP6 l with
    | none => exact ⟨rfl, trivial⟩
    | some r => obtain ⟨k, n⟩ := r
                obtain ⟨h1, h2, h3⟩ := aU9 h
                exact ⟨h2, h3⟩
theorem dB9 {c : Cells} (hc : CW c) : ∀ n, (rep c n).toL = (List.replicate n c.toL).flatten ∧ CW (rep c n)
  | 0 => by cases c <;> simp [rep, Cells.toL, CW, unp]
  | n + 1 => by
    obtain ⟨h1, h2⟩ := dB9 hc n
    obtain ⟨h3, h4⟩ := Cells.cM3 hc h2
    exact ⟨by rw [rep, h3, h1]; simp [List.replicate_succ], h4⟩
theorem dA8 (len : Nat) : unp len 0 = List.replicate len (.i .u8 (.ofNat 0)) := by
  refine bE0 (by simp) fun j hj => ?_
  rw [aK6]; simp [hj]
theorem reps_spec {c : Cells} (hc : CW c) (n : Nat) : (reps c n).toL = (List.replicate n c.toL).flatten ∧ CW (reps c n) := by
  unfold reps
  split
  · rename_i len
    refine ⟨?_, Nat.two_pow_pos _⟩
    show unp (len * n) 0 = (List.replicate n (unp len 0)).flatten
    rw [dA8, dA8, List.flatten_replicate_replicate, Nat.mul_comm]
  · exact dB9 hc n
end Go.AX
end
section
namespace Go.AX
def layV (l : List Value) (o : Nat) (d : List Value) : List Value := l.take o ++ d ++ l.drop (o + d.length)
theorem aH7 (l : List Value) (o : Nat) (d : List Value) (h : o + d.length ≤ l.length) : (layV l o d).length = l.length := by
  simp [layV]; omega
theorem aI3 (l : List Value) (o : Nat) (d : List Value) (j : Nat) (h : o + d.length ≤ l.length) :
    (layV l o d)[j]? = if j < o then l[j]? else if j < o + d.length then d[j - o]? else l[j]? := by
  unfold layV
  rw [List.getElem?_append, List.getElem?_append]
  simp only [List.length_append, List.length_take, Nat.min_eq_left (show o ≤ l.length by omega)]
  by_cases h1 : j < o
  · rw [if_pos (by omega), if_pos h1, if_pos h1, List.getElem?_take, if_pos h1]
  · rw [if_neg h1]
    by_cases h2 : j < o + d.length
    · rw [if_pos h2, if_pos h2, if_neg h1]
    · rw [if_neg h2, if_neg h2, List.getElem?_drop, show o + d.length + (j - (o + d.length)) = j by omega, if_neg h1]
theorem aZ7 (P : Program) (g : Nat) (t : TypeId) (fz : Nat × Nat) (o : Nat) : ∀ (vs : List Value) (i : Nat) (cur : Array Value) (w : World),
    w.heap[g]? = some (.cells cur t fz) → (∀ x, o + i ≤ x → x < cur.size → ¬ (fz.1 ≤ x ∧ x < fz.2)) → o + i + vs.length ≤ cur.size → (∀ v ∈ vs, v.oneCell' = true) →
    (storeCells ⟨g, o, none⟩ vs i).run P w = .ok () (w.setRow g (layV cur.toList (o + i) vs).toArray) := by
  intro vs
  induction vs with
  | nil =>
    intro i cur w hg _ _ _
    have : (layV cur.toList (o + i) []).toArray = cur := by simp [layV]
    rw [this, setRow_self w g cur t fz hg]; rfl
  | cons v rest ih =>
    intro i cur w hg hc hl h1
    have hi : o + i < cur.size := by simp at hl; omega
    have hcell : w.cell? ⟨g, o + i, none⟩ = some cur[o + i] := by simp [World.cell?, hg, hi]
    have hfro : w.frozen? ⟨g, o + i, none⟩ = false := by
      have := hc (o + i) (Nat.le_refl _) hi
      simp only [World.frozen?, hg, Bool.and_eq_false_iff, decide_eq_false_iff_not]
      exact Classical.not_and_iff_not_or_not.1 this
    have hst : (Go.store ((⟨g, o, none⟩ : Addr).add i) v).run P w = .ok () (w.setRow g (cur.setIfInBounds (o + i) v)) := by
      rw [Addr.add_lit, run_store P w _ v _ (h1 v (by simp)), hcell]
      simp [hfro, setCell_eq_setRow w g (o + i) cur t fz v hg]
    have ih' := ih (i + 1) (cur.setIfInBounds (o + i) v) (w.setRow g (cur.setIfInBounds (o + i) v)) (setRow_heap w g cur _ t _ hg)
      (fun x hx hxs => hc x (by omega) (by simpa using hxs)) (by simp at hl ⊢; omega) (fun x hx => h1 x (by simp [hx]))
    simp only [storeCells, Sem.run_bind, hst, Result.andThen_ok]
    rw [ih', setRow_setRow]
    congr 2
    apply Array.ext'
    simp only []
    apply List.ext_getElem?
    intro j
    simp only [List.length_cons] at hl
    rw [aI3 _ _ _ _ (by simp; omega), aI3 _ _ _ _ (by simp; omega)]
    simp only [Array.toList_setIfInBounds, List.getElem?_set, Array.length_toList, List.length_cons]
    by_cases e1 : j < o + i
    · rw [if_pos (by omega), if_pos e1, if_neg (by omega)]
    · rw [if_neg e1]
      by_cases e2 : j = o + i
      · subst e2; simp [hi]
      · rw [if_neg (by omega)]
        by_cases e3 : j < o + i + (rest.length + 1)
        · rw [if_pos (by omega), if_pos e3, show j - (o + i) = (j - (o + (i + 1))) + 1 by omega, List.getElem?_cons_succ]
        · rw [if_neg (by omega), if_neg e3, if_neg (by omega)]
section
variable {C : Cx} {ng : Nat} {B : Fz} {ρ : Rho} {H : T Ent} {w : World}
theorem Below.row {g : Nat} {cs cs0 : Array Value} {t : TypeId} {fz : Nat × Nat} (hg : w.heap[g]? = some (.cells cs0 t fz)) (h : ¬ B g) : Below B w (w.setRow g cs) :=
  ⟨rfl, rfl, rfl, by simp, fun k hk => setRow_other w g k cs (fun e => h (e ▸ hk)), cA0 hg fun b hb => setRow_other w g b cs hb⟩
theorem bE8 {k : Blk} {r : R} {arr : Array Value} {fz : Nat × Nat} {t : TypeId} (hw : w.heap[r.blk]? = some (.cells arr t fz)) (hk : bB3 C ρ k.c arr r.base) {o n : Nat} (h : o + n ≤ k.c.len) :
    ∃ vs : List Value, vs.length = n ∧ RelL C ρ ((k.c.toL.drop o).take n) vs ∧ (∀ x ∈ vs, x.oneCell' = true) ∧ (∀ (j : Nat) v, vs[j]? = some v → w.cell? ((⟨r.blk, r.base + o, none⟩ : Addr).add j) = some v) := by
  rw [Cells.len_eq] at h
  have hget : ∀ j, j < n → ∃ a x, k.c.toL[o + j]? = some a ∧ arr[r.base + (o + j)]? = some x ∧ Rel C ρ a x ∧ x.oneCell' = true := fun j hj => by
    obtain ⟨x, h1, h2, h3⟩ := hk.2 (o + j) (k.c.toL[o + j]'(by omega)) (List.getElem?_eq_getElem _)
    exact ⟨_, x, List.getElem?_eq_getElem _, h1, h2, h3⟩
  have hsz : ∀ j, j < n → r.base + o + j < arr.size := fun j hj => by
    obtain ⟨a, x, _, h1, _⟩ := hget j hj
    rcases Nat.lt_or_ge (r.base + (o + j)) arr.size with h | h
    · omega
    · rw [Array.getElem?_eq_none h] at h1; cases h1
  have hlen : ((arr.toList.drop (r.base + o)).take n).length = n := by
    rw [List.length_take, List.length_drop, Array.length_toList]
    rcases Nat.eq_zero_or_pos n with h0 | h0
    · omega
    · have := hsz (n - 1) (by omega); omega
  have hat : ∀ j, j < n → ((arr.toList.drop (r.base + o)).take n)[j]? = arr[r.base + (o + j)]? := fun j hj => by
    rw [List.getElem?_take, if_pos hj, List.getElem?_drop]; simp [Nat.add_assoc]
  refine ⟨(arr.toList.drop (r.base + o)).take n, hlen, (RelL.iff _ _).2 ⟨by rw [hlen]; simp; omega, fun j a hj => ?_⟩, fun x hx => ?_, fun j v hj => ?_⟩
  · rw [List.getElem?_take] at hj
    split at hj
    · rename_i hlt
      rw [List.getElem?_drop] at hj
      obtain ⟨a', x, h1, h2, h3, h4⟩ := hget j hlt
      rw [hj] at h1; injection h1 with h1; subst h1
      exact ⟨x, by rw [hat j hlt]; exact h2, h3⟩
    · cases hj
  · obtain ⟨j, hj, he⟩ := List.mem_iff_getElem.1 hx
    have hlt : j < n := by omega
    obtain ⟨a', x', h1, h2, h3, h4⟩ := hget j hlt
    have := hat j hlt
    rw [List.getElem?_eq_getElem hj, he, h2] at this
    injection this with this; subst this; exact h4
  · have hlt : j < n := by
      rcases Nat.lt_or_ge j n with h | h
      · exact h
      · rw [List.getElem?_eq_none (by omega)] at hj; cases hj
    rw [hat j hlt] at hj
    rw [Addr.add_lit]
    simp only [World.cell?, hw]
    simpa [Nat.add_assoc] using hj
theorem bJ1 (hF : Fits C ng B ρ H w) {v : Nat} {k : Blk} (hv : H.get v = some (.b k)) (hn : v ≤ 16777213) {r : R} (hr : ρ v = some r) {arr : Array Value} {fz : Nat × Nat}
    (hb : w.heap[r.blk]? = some (.cells arr k.e fz)) (hk : aU6 C ρ B k r arr fz) {o : Nat} {ds : List AV} {vs : List Value} (hrel : RelL C ρ ds vs) (h1 : ∀ x ∈ vs, x.oneCell' = true)
    (hfr : k.fr ≤ o) (hin : o ≤ k.c.len) (hfit : r.base + o + vs.length ≤ arr.size) (hg : k.g = true → o + vs.length ≤ k.m) (hold : B r.blk → vs = [])
    {c' : Cells} (hc' : c'.toL = putL k.c.toL o ds) (hcw : CW c') :
    ∃ w', (storeCells ⟨r.blk, r.base + o, none⟩ vs).run C.P w = .ok () w' ∧ Fits C ng B ρ (H.set v (.b { k with c := c' })) w' ∧ Below B w w' := by
  have hlen := hrel.len
  have hrun := aZ7 C.P r.blk k.e fz (r.base + o) vs 0 arr w hb (fun x hx hxs => hk.cold x (by omega) hxs) (by omega) h1
  simp only [Nat.add_zero] at hrun
  have hbel : Below B w (w.setRow r.blk (layV arr.toList (r.base + o) vs).toArray) := by
    by_cases h : B r.blk
    · have := hold h
      subst this
      have e : (layV arr.toList (r.base + o) []).toArray = arr := by simp [layV]
      rw [e, setRow_self w _ _ _ _ hb]
      exact Below.refl _ _
    · exact Below.row hb h
  refine ⟨_, hrun, ?_, hbel⟩
  · have hsz : (layV arr.toList (r.base + o) vs).toArray.size = arr.size := by
      simp only [List.size_toArray]; rw [aH7 _ _ _ (by simpa using hfit)]; simp
    have hcl : c'.len = max k.c.len (o + vs.length) := by
      rw [Cells.len_eq, hc', aM3 _ _ _ (by rw [← Cells.len_eq]; exact hin), ← Cells.len_eq, hlen]
    refine hF.upd hn hv hr (k' := .b { k with c := c' }) (o := .cells (layV arr.toList (r.base + o) vs).toArray k.e fz) ⟨rfl, ?_⟩ (setRow_heap w _ _ _ _ _ hb) (fun b hb' => setRow_other w _ _ _ hb') (by simp) hbel.block
    refine ⟨⟨hcw, fun j a hj => ?_⟩, fun h => ?_, fun x hx hxs => hk.cold x hx (by rw [hsz] at hxs; exact hxs), hk.plain, fun h => ?_, by have := hk.room; rw [hsz]; show r.base + c'.len ≤ _; omega, hk.base0⟩
    · simp only [] at hj
      rw [hc', bC2 _ _ _ _ (by rw [← Cells.len_eq]; exact hin)] at hj
      have hgetA : (layV arr.toList (r.base + o) vs).toArray[r.base + j]? = if j < o then arr[r.base + j]? else if j < o + vs.length then vs[j - o]? else arr[r.base + j]? := by
        rw [List.getElem?_toArray, aI3 _ _ _ _ (by simpa using hfit)]
        simp only [Array.getElem?_toList]
        by_cases e1 : j < o
        · rw [if_pos e1, if_pos (by omega)]
        · rw [if_neg e1, if_neg (by omega)]
          by_cases e2 : j < o + vs.length
          · rw [if_pos e2, if_pos (by omega)]; congr 1; omega
          · rw [if_neg e2, if_neg (by omega)]
      rw [hgetA]
      rw [← hlen] at hj
      split at hj
      · rename_i e; rw [if_pos e]; exact hk.cells.2 j a hj
      · rename_i e
        rw [if_neg e]
        split at hj
        · rename_i e2
          rw [if_pos e2]
          obtain ⟨x, hx, hr'⟩ := hrel.get hj
          exact ⟨x, hx, hr', h1 x (List.mem_of_getElem? hx)⟩
        · rename_i e2; rw [if_neg e2]; exact hk.cells.2 j a hj
    · obtain ⟨g1, g2, g3, g4⟩ := hk.grown h
      refine ⟨by rw [hsz]; exact g1, g2, ?_, g4⟩
      show c'.len ≤ k.m
      have := hg h
      rw [hcl]; omega
    · have := hold h
      subst this
      obtain ⟨o1, o2, o3⟩ := hk.old h
      refine ⟨?_, o2, o3⟩
      show c'.len ≤ k.fr
      rw [hcl]; simp; omega
end
end Go.AX
end
section
namespace Go.AX
theorem aB2 {α β : Type} {m : M α} {f : α → M β} {S S' : St} {x : β} (h : bnd m f S = some (x, S')) : ∃ a S1, m S = some (a, S1) ∧ f a S1 = some (x, S') := by
  unfold bnd at h
  cases hm : m S with
  | none => rw [hm] at h; cases h
  | some r => obtain ⟨a, S1⟩ := r; rw [hm] at h; exact ⟨a, S1, rfl, h⟩
theorem aD4 {α : Type} {o : Option α} {S S' : St} {a : α} (h : lft o S = some (a, S')) : o = some a ∧ S' = S := by
  unfold lft at h
  cases o with
  | none => cases h
  | some b => injection h with h; injection h with h1 h2; subst h1; exact ⟨rfl, h2.symm⟩
theorem aA3 {α : Type} {a x : α} {S S' : St} (h : ret a S = some (x, S')) : x = a ∧ S' = S := by
  injection h with h; injection h with h1 h2; exact ⟨h1.symm, h2.symm⟩
theorem aA2 {α : Type} {S S' : St} {x : α} (h : (fail : M α) S = some (x, S')) : False := by cases h
theorem bU9 {v : Nat} {S S' : St} {k : Blk} (h : rd v S = some (k, S')) : S.heap.get v = some (.b k) ∧ S'.heap = S.heap ∧ S'.next = S.next := by
  unfold rd at h
  cases hg : S.heap.get v with
  | none => rw [hg] at h; cases h
  | some e =>
    rw [hg] at h
    cases e with
    | b k' => injection h with h; injection h with h1 h2; subst h1; subst h2; exact ⟨rfl, rfl, rfl⟩
    | _ => cases h
theorem dK4 {v : Nat} {S S' : St} {k : List ME × Nat} (h : rdM v S = some (k, S')) : S.heap.get v = some (.m k.1 k.2) ∧ S'.heap = S.heap ∧ S'.next = S.next := by
  unfold rdM at h
  cases hg : S.heap.get v with
  | none => rw [hg] at h; cases h
  | some e =>
    rw [hg] at h
    cases e with
    | m es c => injection h with h; injection h with h1 h2; subst h1; subst h2; exact ⟨rfl, rfl, rfl⟩
    | _ => cases h
theorem dK5 {v : Nat} {S S' : St} {k : Nat × Nat × List Nat × Nat} (h : rdI v S = some (k, S')) : S.heap.get v = some (.it k.1 k.2.1 k.2.2.1 k.2.2.2) ∧ S'.heap = S.heap ∧ S'.next = S.next := by
  unfold rdI at h
  cases hg : S.heap.get v with
  | none => rw [hg] at h; cases h
  | some e =>
    rw [hg] at h
    cases e with
    | it m a b c => injection h with h; injection h with h1 h2; subst h1; subst h2; exact ⟨rfl, rfl, rfl⟩
    | _ => cases h
theorem cV9 {v : Nat} {S S' : St} {k : Nat × Nat} (h : rdT v S = some (k, S')) : S.heap.get v = some (.t k.1 k.2) ∧ S'.heap = S.heap ∧ S'.next = S.next := by
  unfold rdT at h
  cases hg : S.heap.get v with
  | none => rw [hg] at h; cases h
  | some e =>
    rw [hg] at h
    cases e with
    | t id e => simp only [Option.some.injEq, Prod.mk.injEq] at h; obtain ⟨rfl, rfl⟩ := h; exact ⟨rfl, rfl, rfl⟩
    | _ => cases h
theorem aU7 {v : Nat} {S S' : St} {k : Ent} {u : Unit} (h : updE v k S = some (u, S')) : v < S.next ∧ v ≤ 16777213 ∧ S'.heap = S.heap.set v k ∧ S'.next = S.next := by
  unfold updE at h
  cases hc : (Nat.blt v S.next && Nat.ble v 16777213) with
  | false => rw [hc] at h; cases h
  | true =>
    rw [hc] at h; injection h with h; injection h with h1 h2; subst h2
    rw [Bool.and_eq_true] at hc
    exact ⟨Nat.le_of_ble_eq_true hc.1, Nat.le_of_ble_eq_true hc.2, rfl, rfl⟩
theorem aZ4 {v : Nat} {S S' : St} {k : Blk} {u : Unit} (h : upd v k S = some (u, S')) : v < S.next ∧ v ≤ 16777213 ∧ S'.heap = S.heap.set v (.b k) ∧ S'.next = S.next := aU7 h
theorem aL3 {v : Nat} {S S' : St} {u : Unit} (h : kill v S = some (u, S')) : v < S.next ∧ v ≤ 16777213 ∧ S'.heap = S.heap.del v ∧ S'.next = S.next := by
  unfold kill at h
  cases hc : (Nat.blt v S.next && Nat.ble v 16777213) with
  | false => rw [hc] at h; cases h
  | true =>
    rw [hc] at h; injection h with h; injection h with h1 h2; subst h2
    rw [Bool.and_eq_true] at hc
    exact ⟨Nat.le_of_ble_eq_true hc.1, Nat.le_of_ble_eq_true hc.2, rfl, rfl⟩
theorem aG2 {S S' : St} {k : Ent} {v : Nat} (h : newE k S = some (v, S')) : v = S.next ∧ S.next ≤ 16777213 ∧ S'.heap = S.heap.set S.next k ∧ S'.next = S.next + 1 := by
  unfold newE at h
  cases hc : Nat.ble S.next 16777213 with
  | false => rw [hc] at h; cases h
  | true =>
    rw [hc] at h; injection h with h; injection h with h1 h2; subst h2
    exact ⟨h1.symm, Nat.le_of_ble_eq_true hc, rfl, rfl⟩
theorem dM5 {S S' : St} {k : Blk} {v : Nat} (h : new k S = some (v, S')) : v = S.next ∧ S.next ≤ 16777213 ∧ S'.heap = S.heap.set S.next (.b k) ∧ S'.next = S.next + 1 := aG2 h
theorem rbT {β : Type} {v : Nat} {f : Nat × Nat → M β} {S S' : St} {x : β} (h : bnd (rdT v) f S = some (x, S')) : ∃ id e S1, S.heap.get v = some (.t id e) ∧ S1.heap = S.heap ∧ S1.next = S.next ∧ f (id, e) S1 = some (x, S') := by
  obtain ⟨k, S1, h1, h2⟩ := aB2 h
  obtain ⟨a, b, c⟩ := cV9 h1
  exact ⟨k.1, k.2, S1, a, b, c, h2⟩
theorem lb {α β : Type} {o : Option α} {f : α → M β} {S S' : St} {x : β} (h : bnd (lft o) f S = some (x, S')) : ∃ a, o = some a ∧ f a S = some (x, S') := by
  obtain ⟨a, S1, h1, h2⟩ := aB2 h
  obtain ⟨e1, e2⟩ := aD4 h1
  exact ⟨a, e1, by rw [← e2]; exact h2⟩
theorem rbA {β : Type} {v : Nat} {f : Ent → M β} {S S' : St} {x : β} (h : bnd (rdA v) f S = some (x, S')) : ∃ k S1, S.heap.get v = some k ∧ S1.heap = S.heap ∧ S1.next = S.next ∧ f k S1 = some (x, S') := by
  obtain ⟨k, S1, h1, h2⟩ := aB2 h
  unfold rdA at h1
  cases hg : S.heap.get v with
  | none => rw [hg] at h1; cases h1
  | some j =>
    rw [hg] at h1
    simp only [Option.some.injEq, Prod.mk.injEq] at h1
    obtain ⟨rfl, rfl⟩ := h1
    exact ⟨j, ⟨S.heap, S.next, Nat.lor S.acc (bit v), S.wr⟩, by rw [← hg], rfl, rfl, h2⟩
theorem rb {β : Type} {v : Nat} {f : Blk → M β} {S S' : St} {x : β} (h : bnd (rd v) f S = some (x, S')) : ∃ k S1, S.heap.get v = some (.b k) ∧ S1.heap = S.heap ∧ S1.next = S.next ∧ f k S1 = some (x, S') := by
  obtain ⟨k, S1, h1, h2⟩ := aB2 h
  obtain ⟨e1, e2, e3⟩ := bU9 h1
  exact ⟨k, S1, e1, e2, e3, h2⟩
theorem rdR_inv {tb : Tab} {v : Nat} {S S' : St} {x : Ent × LRec} (h : rdR tb v S = some (x, S')) : S.heap.get v = some x.1 ∧ bE7 tb x.1 = some x.2 ∧ S'.heap = S.heap ∧ S'.next = S.next := by
  unfold rdR at h
  obtain ⟨e, S1, h1, h2, h3, h4⟩ := rbA h
  obtain ⟨r, h5, h6⟩ := lb h4
  obtain ⟨rfl, rfl⟩ := aA3 h6
  exact ⟨h1, h5, h2, h3⟩
theorem rbR {tb : Tab} {β : Type} {v : Nat} {f : Ent × LRec → M β} {S S' : St} {x : β} (h : bnd (rdR tb v) f S = some (x, S')) : ∃ e k S1, S.heap.get v = some e ∧ bE7 tb e = some k ∧ S1.heap = S.heap ∧ S1.next = S.next ∧ f (e, k) S1 = some (x, S') := by
  obtain ⟨k, S1, h1, h2⟩ := aB2 h
  obtain ⟨a, b, c, d⟩ := rdR_inv h1
  exact ⟨k.1, k.2, S1, a, b, c, d, h2⟩
theorem aA4 {α : Type} {c : Bool} {S S' : St} {m : M α} {x : α} (h : (cond c m fail) S = some (x, S')) : c = true ∧ m S = some (x, S') := by
  cases c with
  | false => cases h
  | true => exact ⟨rfl, h⟩
theorem cond_inv' {α : Type} {c : Bool} {S S' : St} {m : M α} {x : α} (h : (cond c fail m) S = some (x, S')) : c = false ∧ m S = some (x, S') := by
  cases c with
  | true => cases h
  | false => exact ⟨rfl, h⟩
theorem dQ6 {a b c d : Nat} (h : (Nat.ble a b && Nat.ble c d) = true) : a ≤ b ∧ c ≤ d := by
  rw [Bool.and_eq_true] at h; exact ⟨Nat.le_of_ble_eq_true h.1, Nat.le_of_ble_eq_true h.2⟩
theorem aD1 {a b : Nat} (h : Nat.beq a b = true) : a = b := Nat.eq_of_beq_eq_true h
theorem aD3 {a b : Nat} (h : Nat.beq a b = false) : a ≠ b := Nat.ne_of_beq_eq_false h

structure TyOk (P : Program) (tb : Tab) : Prop where
  ty : ∀ t ti, tb.ty.get t = some ti → ∃ i, P.info? t = some i ∧ ti = mkTI P t i
section
variable {P : Program} {tb : Tab}
theorem bR0 {t : Nat} {k : IntKind} (h : kOf P t = .int k) : P.underlying t = some (.int k) := by
  unfold kOf at h; split at h <;> first | (cases h; done) | (injection h with h; subst h; assumption) | (revert h; cases (List.all _ _) <;> intro h <;> cases h)
theorem dF0 {t : Nat} (h : kOf P t = .bool) : P.underlying t = some .bool := by
  unfold kOf at h; split at h <;> first | (cases h; done) | assumption | (revert h; cases (List.all _ _) <;> intro h <;> cases h)
theorem aR3 {t : Nat} (h : kOf P t = .str) : P.underlying t = some .string := by
  unfold kOf at h; split at h <;> first | (cases h; done) | assumption | (revert h; cases (List.all _ _) <;> intro h <;> cases h)
theorem dE9 {t : Nat} (h : kOf P t = .uptr) : P.underlying t = some .unsafePointer := by
  unfold kOf at h; split at h <;> first | (cases h; done) | assumption | (revert h; cases (List.all _ _) <;> intro h <;> cases h)
theorem aC8 {t e : Nat} (h : kOf P t = .slice e) : P.underlying t = some (.slice e) := by
  unfold kOf at h; split at h <;> first | (cases h; done) | (injection h with h; subst h; assumption) | (revert h; cases (List.all _ _) <;> intro h <;> cases h)
theorem bQ9 {t e : Nat} (h : kOf P t = .ptr e) : P.underlying t = some (.pointer e) := by
  unfold kOf at h; split at h <;> first | (cases h; done) | (injection h with h; subst h; assumption) | (revert h; cases (List.all _ _) <;> intro h <;> cases h)
theorem bF4 {t n e : Nat} (h : kOf P t = .arr n e) : P.underlying t = some (.array n e) := by
  unfold kOf at h; split at h <;> first | (cases h; done) | (injection h with h1 h2; subst h1; subst h2; assumption) | (revert h; cases (List.all _ _) <;> intro h <;> cases h)
theorem bX9 {t : Nat} (h : kOf P t = .struct) : ∃ fs, P.underlying t = some (.struct fs) ∧ aM5 P t = fs.toList ∧ P.fieldsOf t = fs ∧ ∀ f ∈ fs.toList, ∃ i, P.info? f.type = some i := by
  unfold kOf at h; split at h <;> first
    | (cases h; done)
    | (rename_i fs hu
       cases hc : (fs.toList.all fun f => (P.info? f.type).isSome) with
       | false => rw [hc] at h; cases h
       | true => exact ⟨fs, hu, by simp [aM5, hu], by simp [Program.fieldsOf, hu], fun f hf => Option.isSome_iff_exists.1 (List.all_eq_true.1 hc f hf)⟩)
theorem cS4 {t : Nat} {b : Bool} (h : kOf P t = .iface b) : ∃ ms, P.underlying t = some (.interface ms) := by
  unfold kOf at h; split at h <;> first | (cases h; done) | exact ⟨_, by assumption⟩ | (revert h; cases (List.all _ _) <;> intro h <;> cases h)
theorem kOf_func {t : Nat} (h : kOf P t = .func) : ∃ a b c, P.underlying t = some (.func a b c) := by
  unfold kOf at h; split at h <;> first | (cases h; done) | exact ⟨_, _, _, by assumption⟩ | (revert h; cases (List.all _ _) <;> intro h <;> cases h)
theorem aE1 {t : Nat} {i : TypeInfo} (h : P.info? t = some i) (w : World) : (typeInfo t).run P w = .ok i w := by simp [typeInfo, h]
theorem aB7 {t : Nat} {i : TypeInfo} (h : P.info? t = some i) (w : World) : (sizeOf t).run P w = .ok i.size w := by simp [sizeOf, aE1 h]
theorem aO0 {t : Nat} (hk : isAgg (kOf P t) = true) (w : World) : (Go.isAgg t).run P w = .ok true w := by
  unfold kOf at hk; split at hk <;> first | (cases hk; done) | (rename_i hu; simp [Go.isAgg, run_underlying hu])
end
theorem cQ1 (C : Cx) (ρ : Rho) (v : Value) : Rel C ρ (ofV v) v := by
  unfold ofV
  split <;> simp only [Rel, RelL]
  · rename_i s
    obtain ⟨h1, h2⟩ := dC7 s.data.toList
    exact ⟨by rw [h2], h1⟩
  · exact ⟨[], [], rfl, rfl, rfl⟩
  · exact ⟨[], rfl, rfl⟩
theorem dQ3 (C : Cx) (ρ : Rho) (v : Value) : Rel C ρ (avZ v) v := by
  unfold avZ
  split
  · rename_i cs
    simp only [Rel]
    exact ⟨cs.toList, rfl, by simpa using RelL.map ofV id (fun x => cQ1 C ρ x) cs.toList⟩
  · exact cQ1 C ρ v
theorem cells_ok (C : Cx) (ρ : Rho) (v : Value) : RelL C ρ (v.cells.toList.map ofV) v.cells.toList := by
  simpa using RelL.map ofV id (fun x => cQ1 C ρ x) v.cells.toList
def Out (C : Cx) (ng : Nat) (B : Fz) (ρ : Rho) (w : World) (S S' : St) (v : AV) (r : Result Value) : Prop :=
  ∃ ρ' x w', r = .ok x w' ∧ Rel C ρ' v x ∧ Fits C ng B ρ' S'.heap w' ∧ Ext ρ ρ' S.next S'.next ∧ Below B w w'
theorem Out.same {C : Cx} {ng : Nat} {B : Fz} {ρ : Rho} {w : World} {S S' : St} {v : AV} {x : Value} {r : Result Value} (hF : Fits C ng B ρ S.heap w) (hh : S'.heap = S.heap) (hr : r = .ok x w) (hx : Rel C ρ v x) : Out C ng B ρ w S S' v r :=
  ⟨ρ, x, w, hr, hx, by rw [hh]; exact hF, Ext.refl _ _ _, Below.refl _ _⟩
section
variable {C : Cx} {tb : Tab} {B : Fz} {ρ : Rho} {w : World} {S S' : St}
theorem aH6 {P : Program} {t : Nat} {i : TypeInfo} (hi : P.info? t = some i) (hd : isBad (kOf P t) = false) (hk : isAgg (kOf P t) = false) (w : World) : (Go.isAgg t).run P w = .ok false w := by
  cases hu : P.underlying t with
  | none => unfold kOf at hd; rw [hu] at hd; cases hd
  | some d =>
    simp only [Go.isAgg, Sem.run_bind, run_underlying hu, Result.andThen_ok]
    unfold kOf at hk hd; rw [hu] at hk hd
    cases d <;> first | rfl | (cases hk; done) | (revert hk hd; simp only []; cases (List.all _ _) <;> intro h1 h2 <;> first | (cases h1; done) | (cases h2; done))
theorem cD9 (hF : Fits C tb.ng B ρ S.heap w) (hng : tb.ng ≤ S.next) {k : Blk} {v : Nat} (h : new k S = some (v, S')) (hfree : Free ρ S.next S'.next) {arr : Array Value} {r : R} {fz : Nat × Nat} {w' : World}
    (hr : r.blk = w.heap.size) (hk : aU6 C ρ B k r arr fz) (hw' : w'.heap = w.heap.push (.cells arr k.e fz)) (h1 : w'.os = w.os) (h2 : w'.tape = w.tape) (h3 : w'.output = w.output) :
    Fits C tb.ng B (put1 ρ S.next r) S'.heap w' ∧ Ext ρ (put1 ρ S.next r) S.next S'.next ∧ Below B w w' ∧ (put1 ρ S.next r) v = some r ∧ Sub ρ (put1 ρ S.next r) := by
  obtain ⟨rfl, q1, q2, q3⟩ := dM5 h
  have hf : ρ S.next = none := hfree _ (Nat.le_refl _) (by omega)
  refine ⟨by rw [q2]; exact hF.new q1 hng hf hr (o := .cells arr k.e fz) ⟨rfl, hk⟩ hw', ?_, ⟨h1, h2, h3, by rw [hw']; simp, fun b hb => ?_, fun b o hb _ => ?_⟩, by simp [put1], aU8 hf⟩
  · rw [q3]; exact aE2 _ _ _
  · have := hF.size b (by assumption)
    rw [hw', Array.getElem?_push, if_neg (by omega)]
  · have hlt : b < w.heap.size := by
      rcases Nat.lt_or_ge b w.heap.size with h | h
      · exact h
      · rw [Array.getElem?_eq_none h] at hb; cases hb
    rw [hw', Array.getElem?_push, if_neg (by omega)]; exact hb
theorem new_ok (hF : Fits C tb.ng B ρ S.heap w) (hng : tb.ng ≤ S.next) {k : Blk} {v : Nat} (h : new k S = some (v, S')) (hfree : Free ρ S.next S'.next) {arr : Array Value} {r : R}
    (hr : r.blk = w.heap.size) (hk : aU6 C ρ B k r arr (0, 0)) :
    Fits C tb.ng B (put1 ρ S.next r) S'.heap { w with heap := w.heap.push (.cells arr k.e) } ∧ Ext ρ (put1 ρ S.next r) S.next S'.next ∧ Below B w { w with heap := w.heap.push (.cells arr k.e) } ∧ (put1 ρ S.next r) v = some r ∧ Sub ρ (put1 ρ S.next r) :=
  cD9 hF hng h hfree hr hk rfl rfl rfl rfl
theorem aU6.fresh {ρ : Rho} {e : Nat} {c : Cells} {vs : List Value} (hcw : CW c) (hrel : RelL C ρ c.toL vs) (h1 : ∀ x ∈ vs, x.oneCell' = true) (b : Nat) (hb : ¬ B b) :
    aU6 C ρ B (cQ4 e c) ⟨b, 0, 0, 0⟩ vs.toArray (0, 0) := by
  refine ⟨⟨hcw, fun j a hj => ?_⟩, fun h => (by cases h), fun x _ _ h => by simp at h, fun _ => .inl rfl, fun h => absurd h hb, by show 0 + c.len ≤ _; rw [Cells.len_eq, ← hrel.len]; simp, fun _ => rfl⟩
  obtain ⟨x, hx, hr⟩ := hrel.get hj
  exact ⟨x, by simpa using hx, hr, h1 x (List.mem_of_getElem? hx)⟩
theorem bN4 (hF : Fits C tb.ng B ρ S.heap w) (hng : tb.ng ≤ S.next) {e : Nat} {c : Cells} {v : Nat} (h : new (cQ4 e c) S = some (v, S')) (hfree : Free ρ S.next S'.next)
    (hcw : CW c) {vs : List Value} (hrel : RelL C ρ c.toL vs) (h1 : ∀ x ∈ vs, x.oneCell' = true) :
    ∃ ρ' w', (newRow e vs.toArray).run C.P w = .ok ⟨w.heap.size, 0, none⟩ w' ∧ Fits C tb.ng B ρ' S'.heap w' ∧ Ext ρ ρ' S.next S'.next ∧ Below B w w' ∧ ρ' v = some ⟨w.heap.size, 0, 0, 0⟩ ∧ Sub ρ ρ' := by
  obtain ⟨a, b, c', d, f⟩ := new_ok hF hng h hfree (r := ⟨w.heap.size, 0, 0, 0⟩) rfl (aU6.fresh (e := e) hcw hrel h1 _ (hF.fresh (Nat.le_refl _)))
  exact ⟨_, _, by simp [newRow, cQ4], a, b, c', d, f⟩
theorem bZ5 {a : AV} {l : List AV} {v : Value} (h : cellsOf a = some l) (hr : Rel C ρ a v) : RelL C ρ l v.cells.toList := by
  cases a with
  | und => cases h
  | tu _ => cases h
  | ag m => simp only [cellsOf, Option.some.injEq] at h; subst h; simp only [Rel] at hr; obtain ⟨cs, rfl, h2⟩ := hr; exact h2
  | sl b o n c r =>
    simp only [cellsOf, Option.some.injEq] at h; subst h
    have h1 := aR0 (a := .sl b o n c r) rfl hr
    have : v.cells = #[v] := by cases v <;> first | rfl | (cases h1; done)
    rw [this]; simp only [RelL]; exact ⟨v, [], rfl, hr, rfl⟩
  | x id =>
    simp only [cellsOf] at h
    cases hb : Nat.blt id 1000000 with
    | false => rw [hb] at h; cases h
    | true =>
      rw [hb] at h
      simp only [cond_true, Option.some.injEq] at h; subst h
      have h1 := aR0 (a := .x id) hb hr
      have : v.cells = #[v] := by cases v <;> first | rfl | (cases h1; done)
      rw [this]; simp only [RelL]; exact ⟨v, [], rfl, hr, rfl⟩
  | _ =>
    simp only [cellsOf, Option.some.injEq] at h; subst h
    have h1 := aR0 rfl hr
    have : v.cells = #[v] := by cases v <;> first | rfl | (cases h1; done)
    rw [this]; simp only [RelL]; exact ⟨v, [], rfl, hr, rfl⟩
end
end Go.AX
end
section
namespace Go.AX
section
variable {C : Cx} {tb : Tab} {B : Fz} {ρ : Rho} {w : World} {S S' : St}
theorem aD5 {P : Program} {t : Nat} {i : TypeInfo} : (mkTI P t i).k = kOf P t := rfl
theorem aE6 {P : Program} {t : Nat} {i : TypeInfo} : (mkTI P t i).size = i.size := rfl
theorem aI5 {P : Program} {t : Nat} {i : TypeInfo} (h : (mkTI P t i).zs = true) : ∃ z, i.zero = some z ∧ (∀ x ∈ z.cells.toList, x.oneCell' = true) ∧ z.cells.toList.length = i.size := by
  cases hz : i.zero with
  | none => simp [mkTI, zsOf, hz] at h
  | some z =>
    simp only [mkTI, zsOf, hz, Bool.and_eq_true] at h
    refine ⟨z, rfl, fun x hx => ?_, aD1 h.2⟩
    have := List.all_eq_true.1 h.1 x hx
    cases x <;> first | rfl | (cases this; done)
theorem bZ9 {P : Program} {t : Nat} {i : TypeInfo} {z : Value} (hz : i.zero = some z) (ρ : Rho) (C : Cx) : RelL C ρ (mkTI P t i).zc.toL z.cells.toList ∧ CW (mkTI P t i).zc := by
  have := toCells_spec (u8ish P t) (zlist i)
  refine ⟨?_, this.2⟩
  show RelL C ρ (toCells _ _).toL _
  rw [this.1]
  simp only [zlist, hz]
  exact cells_ok C ρ z
theorem aF1 (hF : Fits C tb.ng B ρ S.heap w) {v : Nat} {k : Blk} (hg : S.heap.get v = some (.b k)) {r : R} (hr : ρ v = some r) : ∃ arr fz, w.heap[r.blk]? = some (.cells arr k.e fz) ∧ aU6 C ρ B k r arr fz := by
  obtain ⟨r', h1, h2⟩ := hF.blk v (.b k) hg
  rw [hr] at h1; injection h1 with h1; subst h1
  obtain ⟨o, h3, h4⟩ := h2
  cases o with
  | cells arr t fz =>
    obtain ⟨rfl, h5⟩ := h4
    exact ⟨arr, fz, h3, h5⟩
  | _ => exact h4.elim
theorem dN5 (ht : TyOk C.P tb) (hF : Fits C tb.ng B ρ S.heap w) {t : Nat} {x v : AV} {xv : Value} (hx : Rel C ρ x xv) (h : load tb t x S = some (v, S')) :
    S'.heap = S.heap ∧ S'.next = S.next ∧ ∃ y, (Instr.loadAt t xv).run C.P w = .ok y w ∧ Rel C ρ v y := by
  cases x <;> simp only [load] at h <;> try exact (aA2 h).elim
  rename_i b o
  obtain ⟨ti, e1, h1⟩ := lb h
  obtain ⟨k, S2, e2, h3, h4, h5⟩ := rb h1
  obtain ⟨i, hi, rfl⟩ := ht.ty _ _ e1
  simp only [Rel] at hx
  obtain ⟨r, hr, rfl⟩ := hx
  obtain ⟨arr, fz, hb, hk⟩ := aF1 hF e2 hr
  simp only [aD5, aE6] at h5
  have hla : ∀ w', (Instr.loadAt t (.pointer (some ⟨r.blk, r.base + o, none⟩))).run C.P w' = (loadVar t ⟨r.blk, r.base + o, none⟩).run C.P w' := fun _ => rfl
  rw [hla]
  cases hagg : isAgg (kOf C.P t) with
  | true =>
    rw [hagg] at h5
    obtain ⟨c, h6, h7⟩ := lb h5
    obtain ⟨rfl, rfl⟩ := aA3 h7
    obtain ⟨hle, htoL, _⟩ := Cells.aQ8 h6
    obtain ⟨vs, hv1, hv2, hv3, hv4⟩ := bE8 hb hk.cells hle
    refine ⟨h3, h4, .agg vs.toArray, ?_, ?_⟩
    · have := run_loadCells_list (P := C.P) w ⟨r.blk, r.base + o, none⟩ vs hv4
      rw [hv1] at this
      simp only [loadVar, Sem.run_bind, aO0 hagg, Result.andThen_ok, if_true, aB7 hi, this, Sem.run_pure]
    · simp only [Rel]; exact ⟨vs, rfl, by rw [htoL]; exact hv2⟩
  | false =>
    rw [hagg] at h5
    obtain ⟨hbad, h6⟩ := cond_inv' h5
    obtain ⟨h7, rfl⟩ := aD4 h6
    rw [Cells.get_eq] at h7
    obtain ⟨y, hy1, hy2, hy3⟩ := hk.cells.2 o v h7
    refine ⟨h3, h4, y, ?_, hy2⟩
    have hcell : w.cell? ⟨r.blk, r.base + o, none⟩ = some y := by
      simp only [World.cell?, hb]; simpa using hy1
    simp only [loadVar, Sem.run_bind, aH6 hi hbad hagg, Result.andThen_ok, Bool.false_eq_true, if_false, run_load, hcell]
theorem aS4 {P : Program} {t : Nat} {i : TypeInfo} (hi : P.info? t = some i) (a : Addr) (y : Value) (hy : y.cells.toList.length = i.size) (w : World) :
    (storeVar t a y).run P w = (storeCells a y.cells.toList).run P w := by
  have : y.cells.size = i.size := by simpa using hy
  simp [storeVar, aB7 hi, this]
theorem bP8 {y : Value} (h : y.oneCell' = true) : y.cells.toList = [y] := by
  cases y <;> first | rfl | (cases h; done)
theorem store_ok (ht : TyOk C.P tb) (hF : Fits C tb.ng B ρ S.heap w) {t : Nat} {x y : AV} {xv yv : Value} (hx : Rel C ρ x xv) (hy : Rel C ρ y yv) {u : Unit} (h : store tb t x y S = some (u, S')) :
    S'.next = S.next ∧ ∃ w', (Instr.storeAt t xv yv).run C.P w = .ok () w' ∧ Fits C tb.ng B ρ S'.heap w' ∧ Below B w w' := by
  cases x <;> simp only [store] at h <;> try exact (aA2 h).elim
  rename_i b o
  obtain ⟨ti, e1, h1⟩ := lb h
  obtain ⟨k, S2, e2, h3, h4, h5⟩ := rb h1
  obtain ⟨hfr, h6⟩ := aA4 h5
  obtain ⟨i, hi, rfl⟩ := ht.ty _ _ e1
  simp only [Rel] at hx
  obtain ⟨r, hr, rfl⟩ := hx
  obtain ⟨arr, fz, hb, hk⟩ := aF1 hF e2 hr
  have hfr' := Nat.le_of_ble_eq_true hfr
  have hla : (Instr.storeAt t (.pointer (some ⟨r.blk, r.base + o, none⟩)) yv).run C.P w = (storeVar t ⟨r.blk, r.base + o, none⟩ yv).run C.P w := rfl
  rw [hla]
  -- both ways come to this
  have fin : ∀ (ds : List AV) (c' : Cells), RelL C ρ ds yv.cells.toList → (∀ x ∈ yv.cells.toList, x.oneCell' = true) → yv.cells.toList.length = i.size → o + ds.length ≤ k.c.len → c'.toL = putL k.c.toL o ds → CW c' → upd b { k with c := c' } S2 = some (u, S') →
      S'.next = S.next ∧ ∃ w', (storeVar t ⟨r.blk, r.base + o, none⟩ yv).run C.P w = .ok () w' ∧ Fits C tb.ng B ρ S'.heap w' ∧ Below B w w' := by
    intro ds c' hrel h1c hlen hle hto hcw hu
    obtain ⟨u1, u2, u3, u4⟩ := aZ4 hu
    have hdl := hrel.len
    have hroom := hk.room
    rw [h3] at u3
    obtain ⟨w', g1, g2, g3⟩ := bJ1 hF e2 u2 hr hb hk hrel h1c hfr' (by omega) (by rw [hdl]; omega) (fun hg => by have := (hk.grown hg).2.2.1; rw [hdl]; omega)
      (fun hB => by have := (hk.old hB).1; exact List.eq_nil_of_length_eq_zero (by rw [hdl]; omega)) hto hcw
    exact ⟨by rw [u4, h4], w', by rw [aS4 hi _ _ hlen]; exact g1, by rw [u3]; exact g2, g3⟩
  have one : ∀ (hs : scal y = true) (h7 : (cond (scal y && Nat.beq (mkTI C.P t i).size 1) (bnd (lft (k.c.set1 o y)) fun c => upd b { k with c := c }) fail) S2 = some (u, S')),
      S'.next = S.next ∧ ∃ w', (storeVar t ⟨r.blk, r.base + o, none⟩ yv).run C.P w = .ok () w' ∧ Fits C tb.ng B ρ S'.heap w' ∧ Below B w w' := by
    intro hs h7
    obtain ⟨hc, h8⟩ := aA4 h7
    obtain ⟨c', h9, h10⟩ := lb h8
    rw [hs, Bool.true_and, aE6] at hc
    have hsz := aD1 hc
    have h1c := aR0 hs hy
    obtain ⟨s1, s2, s3⟩ := Cells.set1_spec hk.cells.1 h9
    refine fin [y] c' (by rw [bP8 h1c]; simp only [RelL]; exact ⟨yv, [], rfl, hy, rfl⟩) (by rw [bP8 h1c]; simpa using h1c) (by rw [bP8 h1c, hsz]; rfl) (by simp; omega) s2 s3 h10
  cases y with
  | ag l =>
    simp only [] at h6
    obtain ⟨hc, h7⟩ := aA4 h6
    obtain ⟨c', h8, h9⟩ := lb h7
    rw [Bool.and_eq_true, Bool.and_eq_true] at hc
    obtain ⟨⟨c1, c2⟩, c3⟩ := hc
    have c1 := aD1 c1
    have c2 := Nat.le_of_ble_eq_true c2
    rw [aE6] at c1 c2
    simp only [Rel] at hy
    obtain ⟨vs, rfl, hvs⟩ := hy
    obtain ⟨s1, s2, s3⟩ := Cells.bJ3 hk.cells.1 (d := .l l) trivial h8
    refine fin l c' hvs (fun x hx => ?_) (by show vs.length = _; rw [hvs.len]; exact c1) (by rw [c1]; exact c2) s2 s3 h9
    obtain ⟨j, hj, he⟩ := List.mem_iff_getElem.1 hx
    have hj' : j < l.length := by rw [← hvs.len]; exact hj
    obtain ⟨x', hx', hr'⟩ := hvs.get (List.getElem?_eq_getElem hj')
    have hx2 : vs[j]? = some x := by rw [← he]; exact List.getElem?_eq_getElem hj
    rw [hx2] at hx'; injection hx' with hx'; subst hx'
    exact aR0 (List.all_eq_true.1 c3 _ (List.getElem_mem hj')) hr'
  | und => obtain ⟨hc, _⟩ := aA4 h6; cases hc
  | tu l => obtain ⟨hc, _⟩ := aA4 h6; cases hc
  | x id => exact one (by have hc := (aA4 h6).1; rw [Bool.and_eq_true] at hc; exact hc.1) h6
  | _ => exact one rfl h6
end
end Go.AX
end
section
namespace Go.AX
def SOut (C : Cx) (ng : Nat) (B : Fz) (ρ : Rho) (w : World) (S S' : St) (v : AV) (r : Result Next) : Prop :=
  ∃ ρ' x w', (r = .ok (.value x) w' ∨ (r = .ok .skip w' ∧ x = undef)) ∧ Rel C ρ' v x ∧ Fits C ng B ρ' S'.heap w' ∧ Ext ρ ρ' S.next S'.next ∧ Below B w w'
section
variable {C : Cx} {tb : Tab} {B : Fz} {ρ : Rho} {w : World} {S S' : St}
theorem SOut.of {ng : Nat} {v : AV} {s : Sem Value} (h : Out C ng B ρ w S S' v (s.run C.P w)) : SOut C ng B ρ w S S' v ((do let x ← s; pure (Next.value x) : Sem Next).run C.P w) := by
  obtain ⟨ρ', x, w', h1, h2⟩ := h
  exact ⟨ρ', x, w', .inl (by simp [h1]), h2⟩
theorem SOut.same {ng : Nat} {v : AV} {x : Value} {r : Result Next} (hF : Fits C ng B ρ S.heap w) (hh : S'.heap = S.heap) (hr : r = .ok (.value x) w) (hx : Rel C ρ v x) : SOut C ng B ρ w S S' v r :=
  ⟨ρ, x, w, .inl hr, hx, by rw [hh]; exact hF, Ext.refl _ _ _, Below.refl _ _⟩
variable {f : Operand → AV} {g : Operand → Value}
theorem s_alloc (ht : TyOk C.P tb) (hF : Fits C tb.ng B ρ S.heap w) (hng : tb.ng ≤ S.next) {e : Nat} {o : Oper} (ho : o.op = .alloc e) {v : AV} (h : simple tb f (.alloc e) S = some (v, S')) (hfree : Free ρ S.next S'.next) :
    SOut C tb.ng B ρ w S S' v ((execOp g o).run C.P w) := by
  simp only [simple] at h
  obtain ⟨ti, e1, h1⟩ := lb h
  obtain ⟨i, hi, rfl⟩ := ht.ty _ _ e1
  cases hzz : (mkTI C.P e i).zero with
  | none => rw [hzz] at h1; exact (aA2 h1).elim
  | some zz =>
    rw [hzz] at h1
    obtain ⟨hzs, h2⟩ := aA4 h1
    obtain ⟨b, S1, h3, h4⟩ := aB2 h2
    obtain ⟨rfl, rfl⟩ := aA3 h4
    obtain ⟨z, hz, hone, hsz⟩ := aI5 hzs
    obtain ⟨hrel, hcw⟩ := bZ9 (P := C.P) (t := e) hz ρ C
    obtain ⟨ρ', w', r1, r2, r3, r4, r5, r6⟩ := bN4 hF hng h3 hfree hcw hrel hone
    refine ⟨ρ', .pointer (some ⟨w.heap.size, 0, none⟩), w', .inl ?_, ?_, r2, r3, r4⟩
    · have : (newRow e z.cells).run C.P w = .ok ⟨w.heap.size, 0, none⟩ w' := by simpa using r1
      simp [execOp, ho, Instr.alloc, zeroValue, aE1 hi, hz, newVar, this]
    · simp only [Rel]; exact ⟨_, r5, rfl⟩
theorem s_box (hF : Fits C tb.ng B ρ S.heap w) (hng : tb.ng ≤ S.next) (hf : ∀ x, Rel C ρ (f x) (g x)) {e : Nat} {x : Operand} {o : Oper} (ho : o.op = .box e x) {v : AV} (h : simple tb f (.box e x) S = some (v, S')) (hfree : Free ρ S.next S'.next) :
    SOut C tb.ng B ρ w S S' v ((execOp g o).run C.P w) := by
  simp only [simple] at h
  obtain ⟨l, e1, h1⟩ := lb h
  obtain ⟨hs, h2⟩ := aA4 h1
  obtain ⟨b, S1, h3, h4⟩ := aB2 h2
  obtain ⟨rfl, rfl⟩ := aA3 h4
  have hrel := bZ5 e1 (hf x)
  have hone : ∀ y ∈ (g x).cells.toList, y.oneCell' = true := fun y hy => by
    obtain ⟨j, hj, he⟩ := List.mem_iff_getElem.1 hy
    have hj' : j < l.length := by rw [← hrel.len]; exact hj
    obtain ⟨x', hx', hr'⟩ := hrel.get (List.getElem?_eq_getElem hj')
    rw [List.getElem?_eq_getElem hj, he] at hx'; injection hx' with hx'; subst hx'
    exact aR0 (List.all_eq_true.1 hs _ (List.getElem_mem hj')) hr'
  obtain ⟨ρ', w', r1, r2, r3, r4, r5, r6⟩ := bN4 hF hng h3 hfree (c := .l l) trivial hrel hone
  refine ⟨ρ', .pointer (some ⟨w.heap.size, 0, none⟩), w', .inl ?_, ?_, r2, r3, r4⟩
  · have : (newRow e (g x).cells).run C.P w = .ok ⟨w.heap.size, 0, none⟩ w' := by simpa using r1
    simp [execOp, ho, Instr.box, newVar, this]
  · simp only [Rel]; exact ⟨_, r5, rfl⟩
/- laying parts -/
theorem foldl_lay (off : Nat) : ∀ (vs : List Value) (i : Nat) (cs : Array Value), off + i + vs.length ≤ cs.size →
    ((vs.zipIdx i).foldl (fun cs (x : Value × Nat) => cs.setIfInBounds (off + x.2) x.1) cs).toList = layV cs.toList (off + i) vs := by
  intro vs
  induction vs with
  | nil => intro i cs h; simp [layV]
  | cons v vs ih =>
    intro i cs h
    simp only [List.length_cons] at h
    simp only [List.zipIdx_cons, List.foldl_cons]
    rw [ih (i + 1) _ (by simp; omega)]
    apply List.ext_getElem?
    intro j
    rw [aI3 _ _ _ _ (by simp; omega), aI3 _ _ _ _ (by simp; omega)]
    simp only [Array.toList_setIfInBounds, List.getElem?_set, Array.length_toList, List.length_cons]
    by_cases e1 : j < off + i
    · rw [if_pos (by omega), if_pos e1, if_neg (by omega)]
    · rw [if_neg e1]
      by_cases e2 : j = off + i
      · subst e2
        rw [if_pos (by omega), if_pos rfl, if_pos (by omega), if_pos (by omega)]; simp
      · rw [if_neg (by omega)]
        by_cases e3 : j < off + i + (vs.length + 1)
        · rw [if_pos (by omega), if_pos e3, show j - (off + i) = (j - (off + (i + 1))) + 1 by omega, List.getElem?_cons_succ]
        · rw [if_neg (by omega), if_neg e3, if_neg (by omega)]
theorem RelL.lay {l m : List AV} {vs us : List Value} (h : RelL C ρ l vs) (h' : RelL C ρ m us) {o : Nat} (ho : o + m.length ≤ l.length) : RelL C ρ (putL l o m) (layV vs o us) := by
  have e1 := h.len
  have e2 := h'.len
  rw [RelL.iff]
  refine ⟨by rw [aM3 _ _ _ (by omega), aH7 _ _ _ (by omega)]; omega, fun j a hj => ?_⟩
  rw [bC2 _ _ _ _ (by omega)] at hj
  rw [aI3 _ _ _ _ (by omega), e2]
  split at hj
  · rename_i h1; rw [if_pos h1]; exact h.get hj
  · rename_i h1; rw [if_neg h1]
    split at hj
    · rename_i h2; rw [if_pos h2]; exact h'.get hj
    · rename_i h2; rw [if_neg h2]; exact h.get hj
theorem cZ4 (hf : ∀ x, Rel C ρ (f x) (g x)) {pl : Nat → Option (Nat × Nat)} : ∀ (ps : List (Nat × Operand)) (c l : List AV) (cs : Array Value), RelL C ρ c cs.toList → bI6 pl f c ps = some l →
    ∃ out : Array Value, Instr.fill pl cs (ps.map fun p => (p.1, g p.2)) = some out ∧ RelL C ρ l out.toList := by
  intro ps
  induction ps with
  | nil => intro c l cs hr h; simp only [bI6, Option.some.injEq] at h; subst h; exact ⟨cs, rfl, hr⟩
  | cons p ps ih =>
    obtain ⟨i, x⟩ := p
    intro c l cs hr h
    simp only [bI6] at h
    split at h
    · rename_i off sz m hp hm
      cases hc : (Nat.beq m.length sz && Nat.ble (Nat.add off sz) c.length) with
      | false => rw [hc] at h; cases h
      | true =>
        rw [hc] at h
        rw [Bool.and_eq_true] at hc
        have c1 := aD1 hc.1
        have c2 := Nat.le_of_ble_eq_true hc.2
        have hrel := bZ5 hm (hf x)
        have e1 := hrel.len
        have e2 := hr.len
        have c2 : off + sz ≤ c.length := c2
        have hsz : (g x).cells.size = m.length := by simpa using e1
        have hcs : cs.size = c.length := by simpa using e2
        have hlay := foldl_lay off (g x).cells.toList 0 cs (by simp only [Array.length_toList]; omega)
        obtain ⟨out, o1, o2⟩ := ih (putL c off m) l (((g x).cells.toList.zipIdx 0).foldl (fun cs (x : Value × Nat) => cs.setIfInBounds (off + x.2) x.1) cs)
          (by rw [hlay]; exact hr.lay hrel (by omega)) h
        refine ⟨out, ?_, o2⟩
        simp only [List.map_cons, Instr.fill, hp]
        have hif : (decide ((g x).cells.size ≠ sz) || decide (off + (g x).cells.size > cs.size)) = false := by
          simp only [Bool.or_eq_false_iff, decide_eq_false_iff_not]; omega
        rw [if_neg (by rw [hif]; simp)]
        rw [← o1]
        congr 1
        rw [← Array.foldl_toList]
        simp
    · cases h
end
end Go.AX
end
section
namespace Go.AX
section
variable {C : Cx} {tb : Tab} {B : Fz} {ρ : Rho} {w : World} {S S' : St}
variable {f : Operand → AV} {g : Operand → Value}
theorem cK5 : ∀ (l : List Fl) (n : Nat), fget l n = l[n]?
  | [], n => by simp [fget]
  | a :: l, n => by
    unfold fget
    cases n with
    | zero => rfl
    | succ n => show fget l n = _; rw [cK5 l n]; simp
theorem run_places {P : Program} : ∀ (fs : List Field), (∀ f ∈ fs, ∃ i, P.info? f.type = some i) → ∀ w : World,
    (fs.mapM fun f => Prod.mk f.offset <$> sizeOf f.type).run P w = .ok (fs.map fun f => (f.offset, P.cellsOf f.type)) w
  | [], _, w => by simp
  | f :: fs, h, w => by
    obtain ⟨i, hi⟩ := h f (by simp)
    have ih := run_places fs (fun x hx => h x (by simp [hx])) w
    simp only [List.mapM_cons, Sem.run_bind, Sem.run_map, aB7 hi, Result.andThen_ok, Sem.run_pure, ih, List.map_cons]
    simp [Program.cellsOf, hi]
theorem s_build (ht : TyOk C.P tb) (hF : Fits C tb.ng B ρ S.heap w) (hf : ∀ x, Rel C ρ (f x) (g x)) {t : Nat} {ps : Array (Nat × Operand)} {o : Oper} (ho : o.op = .build t ps) {v : AV} (h : simple tb f (.build t ps) S = some (v, S')) :
    SOut C tb.ng B ρ w S S' v ((execOp g o).run C.P w) := by
  simp only [simple] at h
  obtain ⟨ti, e1, h1⟩ := lb h
  obtain ⟨i, hi, rfl⟩ := ht.ty _ _ e1
  have hps : (ps.map fun p => (p.1, g p.2)).toList = ps.toList.map fun p => (p.1, g p.2) := by simp
  have zz : ∀ l, bI6 (fun i => (fget (mkTI C.P t ‹_›).fs i).map fun x => (x.off, x.sz)) f (mkTI C.P t ‹_›).zc.toL ps.toList = some l → True := fun _ _ => trivial
  cases hk : (mkTI C.P t i).k <;> rw [hk] at h1 <;> try exact (aA2 h1).elim
  · -- an array
    rename_i n e
    obtain ⟨te, e2, h2⟩ := lb h1
    obtain ⟨ie, hie, rfl⟩ := ht.ty _ _ e2
    obtain ⟨l, h3, h4⟩ := lb h2
    obtain ⟨hz, h5⟩ := aA4 h4
    obtain ⟨rfl, rfl⟩ := aA3 h5
    have hu := bF4 hk
    cases hzz : i.zero with
    | none => simp [mkTI, hzz] at hz
    | some z =>
      obtain ⟨hrel, hcw⟩ := bZ9 (P := C.P) (t := t) hzz ρ C
      obtain ⟨out, o1, o2⟩ := cZ4 (cs := z.cells) hf ps.toList _ _ (by simpa using hrel) h3
      refine .same hF rfl (x := .agg out) ?_ (by simp only [Rel]; exact ⟨out.toList, rfl, o2⟩)
      have : Instr.fill (fun i => some (i * ie.size, ie.size)) z.cells (ps.toList.map fun p => (p.1, g p.2)) = some out := o1
      simp [execOp, ho, Instr.build, zeroValue, aE1 hi, hzz, run_underlying hu, aB7 hie, this]
  · obtain ⟨l, h3, h4⟩ := lb h1
    obtain ⟨hz, h5⟩ := aA4 h4
    obtain ⟨rfl, rfl⟩ := aA3 h5
    obtain ⟨fs, hu, hfl, hfo, hin⟩ := bX9 hk
    cases hzz : i.zero with
    | none => simp [mkTI, hzz] at hz
    | some z =>
      obtain ⟨hrel, hcw⟩ := bZ9 (P := C.P) (t := t) hzz ρ C
      obtain ⟨out, o1, o2⟩ := cZ4 (cs := z.cells) hf ps.toList _ _ (by simpa using hrel) h3
      refine .same hF rfl (x := .agg out) ?_ (by simp only [Rel]; exact ⟨out.toList, rfl, o2⟩)
      have hpl : (fun i => (fget (mkTI C.P t ‹_›).fs i).map fun x => (x.off, x.sz)) = fun i => (fs.map fun f => (f.offset, C.P.cellsOf f.type))[i]? := by
        funext j
        rw [cK5]
        show (((aM5 C.P t).map (mkFl C.P))[j]?).map _ = _
        rw [hfl]
        simp [mkFl]
        cases fs[j]? <;> rfl
      rw [hpl] at o1
      have hm : (fs.mapM fun f => Prod.mk f.offset <$> sizeOf f.type).run C.P w = .ok (fs.map fun f => (f.offset, C.P.cellsOf f.type)) w := by
        rw [← Array.toArray_toList (xs := fs)]
        rw [List.mapM_toArray]
        simp only [Sem.run_map, run_places _ hin w, Result.andThen_ok]
        rw [← List.map_toArray, Array.toArray_toList]
      have o1' : Instr.fill (fun x => Option.map (fun f : Field => (f.offset, C.P.cellsOf f.type)) fs[x]?) z.cells (List.map (fun x => (x.fst, g x.snd)) ps.toList) = some out := by
        rw [← o1]; congr 1; funext x; simp
      simp [execOp, ho, Instr.build, zeroValue, aE1 hi, hzz, run_underlying hu, hm, o1']
theorem s_nilCheck (hF : Fits C tb.ng B ρ S.heap w) (hf : ∀ x, Rel C ρ (f x) (g x)) {x : Operand} {o : Oper} (ho : o.op = .nilCheck x) {v : AV} (h : simple tb f (.nilCheck x) S = some (v, S')) :
    SOut C tb.ng B ρ w S S' v ((execOp g o).run C.P w) := by
  have hx := hf x
  simp only [simple] at h
  cases hfx : f x <;> rw [hfx] at h hx <;> try exact (aA2 h).elim
  · obtain ⟨rfl, rfl⟩ := aA3 h
    refine .same hF rfl (x := g x) ?_ hx
    simp only [Rel] at hx; obtain ⟨r, _, e⟩ := hx
    simp [execOp, ho, e]
  · obtain ⟨rfl, rfl⟩ := aA3 h
    refine .same hF rfl (x := g x) ?_ hx
    simp only [Rel] at hx; obtain ⟨r, e, _⟩ := hx
    simp [execOp, ho, e]
  · obtain ⟨rfl, rfl⟩ := aA3 h
    refine .same hF rfl (x := g x) ?_ hx
    simp only [Rel] at hx; obtain ⟨r, _, e, _⟩ := hx
    simp [execOp, ho, e]
  · obtain ⟨rfl, rfl⟩ := aA3 h
    refine .same hF rfl (x := g x) ?_ hx
    simp only [Rel] at hx; obtain ⟨r, _, e⟩ := hx
    simp [execOp, ho, e]
  · obtain ⟨rfl, rfl⟩ := aA3 h
    refine .same hF rfl (x := g x) ?_ hx
    simp only [Rel] at hx
    simp [execOp, ho, hx, typeHandle]
  · obtain ⟨rfl, rfl⟩ := aA3 h
    refine .same hF rfl (x := g x) ?_ hx
    simp only [Rel] at hx; obtain ⟨r, k, j, _, _, e⟩ := hx
    simp [execOp, ho, e]
  · obtain ⟨rfl, rfl⟩ := aA3 h
    refine .same hF rfl (x := g x) ?_ hx
    simp only [Rel] at hx; obtain ⟨r, _, _, _, _, e⟩ := hx
    simp [execOp, ho, e]
theorem s_makeInterface (ht : TyOk C.P tb) (hF : Fits C tb.ng B ρ S.heap w) (hf : ∀ x, Rel C ρ (f x) (g x)) {t : Nat} {x : Operand} {o : Oper} (ho : o.op = .makeInterface t x) {v : AV} (h : simple tb f (.makeInterface t x) S = some (v, S')) :
    SOut C tb.ng B ρ w S S' v ((execOp g o).run C.P w) := by
  have hx := hf x
  simp only [simple] at h
  obtain ⟨ti, e1, h1⟩ := lb h
  obtain ⟨i, hi, rfl⟩ := ht.ty _ _ e1
  have key : ∀ d, C.P.underlying t = some d → (∀ ms, d ≠ .interface ms) → ret (AV.ifc t (f x)) S = some (v, S') → SOut C tb.ng B ρ w S S' v ((execOp g o).run C.P w) := by
    intro d hd hne h2
    obtain ⟨rfl, rfl⟩ := aA3 h2
    refine .same hF rfl (x := .iface t (g x)) ?_ (by simp only [Rel]; exact ⟨_, rfl, hx⟩)
    cases d <;> first | (simp [execOp, ho, Instr.makeInterface, run_underlying hd]; done) | (exact absurd rfl (hne _))
  rw [aD5] at h1
  cases hu : C.P.underlying t with
  | none => have : kOf C.P t = .bad := by simp [kOf, hu]
            rw [this] at h1; exact (aA2 h1).elim
  | some d =>
    by_cases hif : ∃ ms, d = .interface ms
    · obtain ⟨ms, rfl⟩ := hif
      have : kOf C.P t = .iface ms.isEmpty := by simp [kOf, hu]
      rw [this] at h1; exact (aA2 h1).elim
    · have hne : ∀ ms, d ≠ .interface ms := fun ms e => hif ⟨ms, e⟩
      cases hk : kOf C.P t <;> rw [hk] at h1 <;> first | exact (aA2 h1).elim | exact key d hu hne h1
theorem s_makeFunc (hF : Fits C tb.ng B ρ S.heap w) (hf : ∀ x, Rel C ρ (f x) (g x)) {fn : Fn} {fi ca : Array Operand} {o : Oper} (ho : o.op = .makeFunc fn fi ca) {v : AV} (h : simple tb f (.makeFunc fn fi ca) S = some (v, S')) :
    SOut C tb.ng B ρ w S S' v ((execOp g o).run C.P w) := by
  simp only [simple] at h
  cases fn <;> try exact (aA2 h).elim
  rename_i u
  obtain ⟨rfl, rfl⟩ := aA3 h
  refine .same hF rfl (x := .func (.func u) (fi.map g) (ca.map g)) ?_ ?_
  · simp [execOp, ho, Instr.makeFunc]
  · simp only [Rel]
    exact ⟨(fi.map g).toList, (ca.map g).toList, rfl, by simpa using RelL.map f g hf fi.toList, by simpa using RelL.map f g hf ca.toList⟩
theorem s_extract (hF : Fits C tb.ng B ρ S.heap w) (hf : ∀ x, Rel C ρ (f x) (g x)) {x : Operand} {k : Nat} {o : Oper} (ho : o.op = .extract x k) {v : AV} (h : simple tb f (.extract x k) S = some (v, S')) :
    SOut C tb.ng B ρ w S S' v ((execOp g o).run C.P w) := by
  have hx := hf x
  simp only [simple] at h
  cases hfx : f x <;> rw [hfx] at h hx <;> try exact (aA2 h).elim
  obtain ⟨h1, rfl⟩ := aD4 h
  rw [bQ0] at h1
  simp only [Rel] at hx
  obtain ⟨cs, e, hrel⟩ := hx
  obtain ⟨y, hy1, hy2⟩ := hrel.get h1
  exact .same hF rfl (x := y) (by simp [execOp, ho, e, Instr.extract, hy1]) hy2
theorem s_fieldAddr (ht : TyOk C.P tb) (hF : Fits C tb.ng B ρ S.heap w) (hf : ∀ x, Rel C ρ (f x) (g x)) {t : Nat} {x : Operand} {k : Nat} {o : Oper} (ho : o.op = .fieldAddr t x k) {v : AV} (h : simple tb f (.fieldAddr t x k) S = some (v, S')) :
    SOut C tb.ng B ρ w S S' v ((execOp g o).run C.P w) := by
  have hx := hf x
  simp only [simple] at h
  obtain ⟨ti, e1, h1⟩ := lb h
  obtain ⟨i, hi, rfl⟩ := ht.ty _ _ e1
  obtain ⟨fl, e2, h2⟩ := lb h1
  rw [cK5] at e2
  have main : ∀ (blk co : Nat), g x = .pointer (some ⟨blk, co, none⟩) → Nat.beq fl.sz 0 = false → S' = S → Rel C ρ v (.pointer (some ⟨blk, co + fl.off, none⟩)) → SOut C tb.ng B ρ w S S' v ((execOp g o).run C.P w) := by
    intro blk co e hsz hS hv
    subst hS
    have e2 : ((aM5 C.P t).map (mkFl C.P))[k]? = some fl := e2
    rw [List.getElem?_map] at e2
    cases hfk : (aM5 C.P t)[k]? with
    | none => rw [hfk] at e2; cases e2
    | some fd =>
      rw [hfk] at e2
      simp only [Option.map_some, Option.some.injEq] at e2
      subst e2
      have hsz : C.P.cellsOf fd.type ≠ 0 := aD3 hsz
      cases hu : C.P.underlying t with
      | none => simp [aM5, hu] at hfk
      | some d =>
        cases d <;> try (simp [aM5, hu] at hfk; done)
        rename_i fs
        have hfk' : fs[k]? = some fd := by simpa [aM5, hu] using hfk
        cases hit : C.P.info? fd.type with
        | none => simp [Program.cellsOf, hit] at hsz
        | some it =>
          have hsz' : it.size ≠ 0 := by simpa [Program.cellsOf, hit] using hsz
          refine .same hF rfl (x := .pointer (some ⟨blk, co + fd.offset, none⟩)) ?_ hv
          simp [execOp, ho, e, Instr.fieldAt, run_underlying hu, hfk', Instr.sureAddr, fieldPlace, aB7 hit, hsz', Addr.add_lit, Nat.add_assoc]
  cases hfx : f x <;> rw [hfx] at h2 hx <;> try exact (aA2 h2).elim
  · rename_i b off
    obtain ⟨hsz, h3⟩ := cond_inv' h2
    obtain ⟨rfl, rfl⟩ := aA3 h3
    simp only [Rel] at hx
    obtain ⟨r, hr, e⟩ := hx
    exact main r.blk (r.base + off) e hsz rfl (by simp only [Rel]; exact ⟨r, hr, by rw [Nat.add_assoc]; rfl⟩)
  · rename_i b i' s off
    obtain ⟨hsz, h3⟩ := cond_inv' h2
    obtain ⟨rfl, rfl⟩ := aA3 h3
    simp only [Rel] at hx
    obtain ⟨r, kk, j, hr, hi, e⟩ := hx
    exact main r.blk (r.base + (j * s + off)) e hsz rfl (by simp only [Rel]; exact ⟨r, kk, j, hr, hi, by rw [Nat.add_assoc, Nat.add_assoc]; rfl⟩)
theorem bP4 {l : List AV} {cs : List Value} {fd : Fl} {v : AV} (hrel : RelL C ρ l cs) (h : part l fd = some v) {i : TypeInfo} (hi : C.P.info? fd.t = some i) (hsz : fd.sz = i.size) (hag : fd.agg = isAgg (kOf C.P fd.t)) (hbd : fd.bad = isBad (kOf C.P fd.t)) (w : World) :
    ∃ y, (Go.part fd.t ⟨cs⟩ fd.off).run C.P w = .ok y w ∧ Rel C ρ v y := by
  unfold part at h
  cases hb2 : fd.bad with
  | true => rw [hb2] at h; cases h
  | false =>
  rw [hb2, cond_false] at h
  have hbad : isBad (kOf C.P fd.t) = false := by rw [← hbd, hb2]
  cases hagg : fd.agg with
  | true =>
    rw [hagg] at h hag
    simp only [cond_true, lsub] at h
    by_cases hc : fd.off + fd.sz ≤ l.length
    · rw [show Nat.ble (Nat.add fd.off fd.sz) l.length = true from aW4 hc] at h
      simp only [cond_true, Option.map_some, Option.some.injEq] at h
      subst h
      refine ⟨.agg ((⟨cs⟩ : Array Value).extract fd.off (fd.off + fd.sz)), ?_, ?_⟩
      · simp only [Go.part, Sem.run_bind, aO0 hag.symm, Result.andThen_ok, if_true, aB7 hi, Sem.run_pure, hsz]
      · simp only [Rel]
        refine ⟨(cs.drop fd.off).take fd.sz, ?_, hrel.sub _ _⟩
        congr 1
        apply Array.ext'
        simp [List.extract_eq_take_drop]
    · rw [show Nat.ble (Nat.add fd.off fd.sz) l.length = false from aK7 hc] at h; cases h
  | false =>
    rw [hagg] at h hag
    simp only [cond_false] at h
    rw [bQ0] at h
    obtain ⟨y, hy1, hy2⟩ := hrel.get h
    refine ⟨y, ?_, hy2⟩
    have : (⟨cs⟩ : Array Value)[fd.off]? = some y := by simpa using hy1
    simp only [Go.part, Sem.run_bind, aH6 hi hbad hag.symm, Result.andThen_ok, Bool.false_eq_true, if_false, this, Sem.run_pure]
end
end Go.AX
end
section
namespace Go.AX
section
variable {C : Cx} {tb : Tab} {B : Fz} {ρ : Rho} {w : World} {S S' : St}
variable {f : Operand → AV} {g : Operand → Value}
theorem aY9 {a : AV} {n : Nat} {v : Value} (h : asN a = some n) (hr : Rel C ρ a v) : ∃ k, v = .int k (n : Int) := by
  unfold asN at h
  split at h
  · rename_i k m
    simp only [Option.some.injEq] at h; subst h
    simp only [Rel] at hr; exact ⟨k, hr⟩
  · cases h
theorem asNo_ok (hf : ∀ x, Rel C ρ (f x) (g x)) {o : Option Operand} {d n : Nat} (h : asNo f o d = some n) : (o = none ∧ n = d) ∨ ∃ x k, o = some x ∧ g x = .int k (n : Int) := by
  cases o with
  | none => simp only [asNo, Option.some.injEq] at h; exact .inl ⟨rfl, h.symm⟩
  | some x => obtain ⟨k, hk⟩ := aY9 h (hf x); exact .inr ⟨x, k, rfl, hk⟩
theorem s_field (ht : TyOk C.P tb) (hF : Fits C tb.ng B ρ S.heap w) (hf : ∀ x, Rel C ρ (f x) (g x)) {t : Nat} {x : Operand} {k : Nat} {o : Oper} (ho : o.op = .field t x k) {v : AV} (h : simple tb f (.field t x k) S = some (v, S')) :
    SOut C tb.ng B ρ w S S' v ((execOp g o).run C.P w) := by
  have hx := hf x
  simp only [simple] at h
  obtain ⟨ti, e1, h1⟩ := lb h
  obtain ⟨i, hi, rfl⟩ := ht.ty _ _ e1
  obtain ⟨fl, e2, h2⟩ := lb h1
  rw [cK5] at e2
  cases hfx : f x <;> rw [hfx] at h2 hx <;> try exact (aA2 h2).elim
  rename_i l
  obtain ⟨h3, rfl⟩ := aD4 h2
  have e2 : ((aM5 C.P t).map (mkFl C.P))[k]? = some fl := e2
  rw [List.getElem?_map] at e2
  cases hfk : (aM5 C.P t)[k]? with
  | none => rw [hfk] at e2; cases e2
  | some fd =>
    rw [hfk] at e2
    simp only [Option.map_some, Option.some.injEq] at e2
    subst e2
    cases hu : C.P.underlying t with
    | none => simp [aM5, hu] at hfk
    | some d =>
      cases d <;> try (simp [aM5, hu] at hfk; done)
      rename_i fs
      have hfk' : fs[k]? = some fd := by simpa [aM5, hu] using hfk
      simp only [Rel] at hx
      obtain ⟨cs, e, hrel⟩ := hx
      have hinf : ∃ it, C.P.info? fd.type = some it := by
        cases hb : isBad (kOf C.P fd.type) with
        | true => simp [part, mkFl, hb] at h3
        | false =>
          cases hit : C.P.info? fd.type with
          | some it => exact ⟨it, rfl⟩
          | none => simp [kOf, Program.underlying, hit, isBad] at hb
      obtain ⟨it, hit⟩ := hinf
      obtain ⟨y, hy1, hy2⟩ := bP4 (w := w) hrel h3 (i := it) hit (by simp [mkFl, Program.cellsOf, hit]) rfl rfl
      refine .same hF rfl (x := y) ?_ hy2
      have hy1 : (Go.part fd.type ⟨cs⟩ fd.offset).run C.P w = .ok y w := hy1
      simp [execOp, ho, e, Instr.field, run_underlying hu, hfk', asAgg, hy1]
theorem s_indexAddr (ht : TyOk C.P tb) (hF : Fits C tb.ng B ρ S.heap w) (hf : ∀ x, Rel C ρ (f x) (g x)) {t : Nat} {x ix : Operand} {o : Oper} (ho : o.op = .indexAddr t x ix) {v : AV} (hsy : syN (f x) = none) (hsr : srN (f x) = none) (hpn : dL0 (f x) (f ix) = none) (h : simple tb f (.indexAddr t x ix) S = some (v, S')) :
    SOut C tb.ng B ρ w S S' v ((execOp g o).run C.P w) := by
  have hx := hf x
  simp only [simple, hsy, hsr, hpn] at h
  obtain ⟨ti, e1, h1⟩ := lb h
  obtain ⟨i, hi, rfl⟩ := ht.ty _ _ e1
  rw [aD5] at h1
  cases hn : asN (f ix) with
  | none => rw [hn] at h1; cases hk : kOf C.P t <;> cases hfx : f x <;> rw [hk, hfx] at h1 <;> exact (aA2 h1).elim
  | some n =>
    obtain ⟨kk, hg⟩ := aY9 hn (hf ix)
    rw [hn] at h1
    cases hk : kOf C.P t <;> rw [hk] at h1 <;> try (cases hfx : f x <;> rw [hfx] at h1 <;> exact (aA2 h1).elim)
    · rename_i e
      have hu := aC8 hk
      cases hfx : f x <;> rw [hfx] at h1 hx <;> try exact (aA2 h1).elim
      rename_i b off len cap rest
      obtain ⟨hlt, h2⟩ := aA4 h1
      have hlt : n < len := Nat.le_of_ble_eq_true hlt
      obtain ⟨te, e2, h3⟩ := lb h2
      obtain ⟨ie, hie, rfl⟩ := ht.ty _ _ e2
      obtain ⟨rfl, rfl⟩ := aA3 h3
      have : ∃ r cap', ρ b = some r ∧ g x = .slice (some ⟨r.blk, r.base + off, none⟩) len cap' := by
        cases rest
        · simp only [Rel] at hx; obtain ⟨r, hr, _, e⟩ := hx; exact ⟨r, _, hr, e⟩
        · simp only [Rel] at hx; obtain ⟨r, a, hr, _, e, ha⟩ := hx
          rcases ha with rfl | ha
          · exact ⟨r, _, hr, e⟩
          · omega
      obtain ⟨r, cap', hr, e'⟩ := this
      refine .same hF rfl (x := .pointer (some ⟨r.blk, r.base + (off + n * ie.size), none⟩)) ?_ (by simp only [Rel]; exact ⟨r, hr, rfl⟩)
      have h0 : (0 : Int) ≤ n ∧ (n : Int) < len := by omega
      simp [execOp, ho, hg, e', Instr.indexAt, asIntOf, run_underlying hu, h0, aB7 hie, Addr.add_lit, Nat.add_assoc, hlt]
    · rename_i m e
      have hu := bF4 hk
      cases hfx : f x <;> rw [hfx] at h1 hx <;> try exact (aA2 h1).elim
      rename_i b off
      obtain ⟨hlt, h2⟩ := aA4 h1
      have hlt : n < m := Nat.le_of_ble_eq_true hlt
      obtain ⟨te, e2, h3⟩ := lb h2
      obtain ⟨ie, hie, rfl⟩ := ht.ty _ _ e2
      obtain ⟨rfl, rfl⟩ := aA3 h3
      simp only [Rel] at hx; obtain ⟨r, hr, e'⟩ := hx
      refine .same hF rfl (x := .pointer (some ⟨r.blk, r.base + (off + n * ie.size), none⟩)) ?_ (by simp only [Rel]; exact ⟨r, hr, rfl⟩)
      have h0 : (0 : Int) ≤ n ∧ (n : Int) < m := by omega
      simp [execOp, ho, hg, e', Instr.indexAt, asIntOf, run_underlying hu, h0, aB7 hie, Addr.add_lit, Nat.add_assoc, hlt, Instr.sureAddr]
end
end Go.AX
end
section
namespace Go.AX
theorem same_eq {a b : AV} (h : same a b = true) : a = b := by
  cases a <;> cases b <;> simp only [same] at h <;> try (cases h; done)
  · simp at h; rw [h]
  · simp only [Bool.and_eq_true, beq_iff_eq, aT5, decide_eq_true_eq] at h; rw [h.1, h.2]
  · simp only [Bool.and_eq_true] at h; rw [aD1 h.1, aD1 h.2]
  · rw [aD1 h]
theorem cA2 : ∀ {a b : List AV}, dK1 a b = true → a = b
  | [], [], _ => rfl
  | [], _ :: _, h => by cases h
  | _ :: _, [], h => by cases h
  | a :: l, b :: m, h => by simp only [dK1, Bool.and_eq_true] at h; rw [same_eq h.1, cA2 h.2]
theorem binOp_beq {a b : BinOp} (h : (a == b) = true) : a = b := by simpa using h
theorem unOp_beq {a b : UnOp} (h : (a == b) = true) : a = b := by simpa using h
theorem aK9 {s : AV → AV → Bool} (hs : ∀ a b, s a b = true → a = b) : ∀ {l m : List AV}, allS s l m = true → l = m
  | [], [], _ => rfl
  | [], _ :: _, h => by cases h
  | _ :: _, [], h => by cases h
  | a :: l, b :: m, h => by simp only [allS, Bool.and_eq_true] at h; rw [hs _ _ h.1, aK9 hs h.2]
theorem aI1 : ∀ (d : Nat) (a b : AV), aW8 d a b = true → a = b
  | 0, a, b, h => same_eq h
  | d + 1, a, b, h => by
    have ih := aI1 d
    unfold aW8 at h
    split at h
    · rw [aK9 ih h]
    · rw [aK9 ih h]
    · simp only [Bool.and_eq_true] at h; rw [aD1 h.1, ih _ _ h.2]
    all_goals first | rfl | (rw [aD1 h]; done) | exact same_eq h
theorem bS5 : ∀ (d : Nat) (a b : AV), eqA d a b = true → a = b
  | 0, a, b, h => by cases h
  | d + 1, a, b, h => by
    have ih := bS5 d
    unfold eqA at h
    split at h
    · simp only [Bool.and_eq_true] at h; rw [Nat.eq_of_beq_eq_true h.1, Nat.eq_of_beq_eq_true h.2]
    · simp only [Bool.and_eq_true, beq_iff_eq] at h; rw [Nat.eq_of_beq_eq_true h.1.1.1.1, Nat.eq_of_beq_eq_true h.1.1.1.2, Nat.eq_of_beq_eq_true h.1.1.2, Nat.eq_of_beq_eq_true h.1.2, h.2]
    · rw [Nat.eq_of_beq_eq_true h]
    · simp only [Bool.and_eq_true] at h; rw [Nat.eq_of_beq_eq_true h.1, ih _ _ h.2]
    · rw [Nat.eq_of_beq_eq_true h]
    · simp only [Bool.and_eq_true] at h; rw [Nat.eq_of_beq_eq_true h.1, ih _ _ h.2.1, Nat.eq_of_beq_eq_true h.2.2.1, Nat.eq_of_beq_eq_true h.2.2.2]
    · rw [Nat.eq_of_beq_eq_true h]
    · rw [Nat.eq_of_beq_eq_true h]
    · simp only [Bool.and_eq_true] at h; rw [Nat.eq_of_beq_eq_true h.1.1, aK9 ih h.1.2, aK9 ih h.2]
    · rw [aK9 ih h]
    · rw [aK9 ih h]
    · simp only [Bool.and_eq_true] at h; rw [Nat.eq_of_beq_eq_true h.1, ih _ _ h.2]
    all_goals first | rfl | (rw [Nat.eq_of_beq_eq_true h]; done) | exact same_eq h
theorem dB7 : ∀ {a b : Option AV}, sameO a b = true → a = b
  | none, none, _ => rfl
  | some a, some b, h => by rw [same_eq h]
  | none, some _, h => by cases h
  | some _, none, h => by cases h
theorem HK.same_eq {a b : HK} (h : a.same b = true) : a = b := by
  cases a <;> cases b <;> simp only [HK.same] at h <;> try (cases h; done)
  · simp only [Bool.and_eq_true] at h; rw [binOp_beq h.1.1, AX.same_eq h.1.2, AX.same_eq h.2]
  · simp only [Bool.and_eq_true] at h; rw [aD1 h.1, AX.same_eq h.2]
  · simp only [Bool.and_eq_true] at h; rw [unOp_beq h.1, AX.same_eq h.2]
  · simp only [Bool.and_eq_true] at h; rw [AX.same_eq h.1, AX.same_eq h.2]
  · rw [AX.same_eq h]
  · simp only [Bool.and_eq_true] at h; rw [AX.same_eq h.1.1, dB7 h.1.2, dB7 h.2]
  · rw [cA2 h]
  · simp only [Bool.and_eq_true] at h; rw [Nat.eq_of_beq_eq_true h.1.1, AX.same_eq h.1.2, AX.same_eq h.2]
  · simp only [Bool.and_eq_true] at h; rw [Nat.eq_of_beq_eq_true h.1, aK9 (aI1 8) h.2]
  · simp only [Bool.and_eq_true] at h; rw [eq_of_beq h.1.1, AX.same_eq h.1.2, AX.same_eq h.2]
  · simp only [Bool.and_eq_true] at h; rw [AX.same_eq h.1, AX.same_eq h.2]
  · simp only [Bool.and_eq_true] at h; rw [AX.same_eq h.1.1, AX.same_eq h.1.2, AX.same_eq h.2]
  · simp only [Bool.and_eq_true] at h; rw [AX.same_eq h.1, cA2 h.2]
  · rw [AX.same_eq h]
  · rw [AX.same_eq h]
  · simp only [Bool.and_eq_true] at h; rw [Nat.eq_of_beq_eq_true h.1, aK9 (aI1 8) h.2]
  · simp only [Bool.and_eq_true] at h; rw [AX.same_eq h.1, aK9 (bS5 8) h.2]
  · simp only [Bool.and_eq_true] at h; rw [AX.same_eq h.1, Nat.eq_of_beq_eq_true h.2]
  · simp only [Bool.and_eq_true] at h; rw [AX.same_eq h.1, AX.same_eq h.2.1, Nat.eq_of_beq_eq_true h.2.2.1, Nat.eq_of_beq_eq_true h.2.2.2]
  · simp only [Bool.and_eq_true] at h; rw [AX.same_eq h.1, aK9 (bS5 8) h.2]
  · rfl
  · simp only [Bool.and_eq_true] at h; rw [AX.same_eq h.1, Nat.eq_of_beq_eq_true h.2.1, Nat.eq_of_beq_eq_true h.2.2]
  · simp only [Bool.and_eq_true] at h; rw [AX.same_eq h.1, AX.same_eq h.2]
  · rw [AX.same_eq h]
  · simp only [Bool.and_eq_true] at h; rw [AX.same_eq h.1, AX.same_eq h.2]
  · simp only [Bool.and_eq_true] at h; rw [AX.same_eq h.1, AX.same_eq h.2.1, Nat.eq_of_beq_eq_true h.2.2]
  · rw [AX.same_eq h]
  · simp only [Bool.and_eq_true] at h; rw [AX.same_eq h.1.1, AX.same_eq h.1.2, AX.same_eq h.2]
  · simp only [Bool.and_eq_true] at h; rw [Nat.eq_of_beq_eq_true h.1, AX.same_eq h.2]
theorem cS7 : ∀ {l : List (HK × AV)} {k : HK} {r : AV}, hl l k = some r → (k, r) ∈ l
  | [], _, _, h => by cases h
  | (a, x) :: l, k, r, h => by
    simp only [hl] at h
    cases hs : a.same k with
    | true => rw [hs] at h; simp only [cond_true, Option.some.injEq] at h; rw [HK.same_eq hs, h]; simp
    | false => rw [hs] at h; exact List.mem_cons_of_mem _ (cS7 h)
def HOk (C : Cx) : HK → AV → Prop
  | .bin o x y, r => ∀ ρ vx vy, Rel C ρ x vx → Rel C ρ y vy →
      ((∃ k a b, vx = .int k a ∧ vy = .int k b) ∨ (∃ s u, vx = .string s ∧ vy = .string u) ∨ ((o = .shl ∨ o = .shr) ∧ ∃ k l a b, vx = .int k a ∧ vy = .int l b)) ∧
      ∃ v, Rel C ρ r v ∧ ∀ t w, (binOp o t vx vy).run C.P w = .ok v w
  | .conv t x, r => ∀ ρ vx, Rel C ρ x vx → ((∃ k n, vx = .int k n) ∨ ∃ s, vx = .string s) ∧ ∃ v, Rel C ρ r v ∧ ∀ src w, (C.P.underlying src).isSome = true → (convert src t vx).run C.P w = .ok v w
  | .un o x, r => ∀ ρ vx, Rel C ρ x vx → ∃ v, Rel C ρ r v ∧ ∀ w, (Op.unary o vx).run C.P w = .ok v w
  | .idx x y, r => ∀ ρ vx vy, Rel C ρ x vx → Rel C ρ y vy → ∃ v, Rel C ρ r v ∧ ∀ t w, C.P.underlying t = some .string → (Instr.index t vx vy).run C.P w = .ok v w
  | .len x, r => ∀ ρ vx, Rel C ρ x vx → ∃ v, Rel C ρ r v ∧ ∃ s, vx = .string s ∧ v = .int .i64 s.size
  | .sub x lo hi, r => ∀ ρ vx, Rel C ρ x vx → ∃ v, Rel C ρ r v ∧ ∀ vl vh, (match lo with | none => vl = none | some a => ∃ y, vl = some y ∧ Rel C ρ a y) → (match hi with | none => vh = none | some a => ∃ y, vh = some y ∧ Rel C ρ a y) →
      ∀ t w, C.P.underlying t = some .string → (Instr.slice t vx vl vh none).run C.P w = .ok v w
  | .bytes l, r => ∀ ρ vs, RelL C ρ l vs → ∃ (bs : List UInt8) (v : Value), vs = bs.map (fun b => .int .u8 (b.toNat : Int)) ∧ v = .string ⟨bs.toArray⟩ ∧ Rel C ρ r v
  | .slen x, r => ∀ ρ vx, Rel C ρ x vx → ∃ (a : Option Addr) (n c : Nat), vx = .slice a n c ∧ Rel C ρ r (.int .i64 (n : Int))
  | .eqb x y, r => ∃ b, r = .b b ∧ ∀ ρ vx vy, Rel C ρ x vx → Rel C ρ y vy → ∃ p q : Bool, vx = .bool p ∧ vy = .bool q ∧ b = (p == q)
  | .eq t x y, r => ∃ b, r = .b b ∧ ∀ ρ vx vy, Rel C ρ x vx → Rel C ρ y vy → ∀ D w, 1 ≤ D → (Op.equalIn D t vx vy).run C.P w = .ok b w
  | .call g l, r => ∀ ρ args, RelL C ρ l args → ∀ w : World, C.inv w → C.nst ≤ w.heap.size → Calls C.P g ⟨args⟩ w fun e w' => ∃ x, e = .returned x ∧ Rel C ρ r x ∧ Below (Fz.lt w.heap.size) w w'
  | .mm mx x y, r => ∀ ρ vx vy, Rel C ρ x vx → Rel C ρ y vy → ∃ v, Rel C ρ r v ∧ ∀ w, ((if mx then Builtin.max2 vx vy else Builtin.min2 vx vy)).run C.P w = .ok v w
  | .byt x i, r => ∀ ρ vx vi, Rel C ρ x vx → Rel C ρ i vi → ∃ (l : List UInt8) (k : IntKind) (j : Nat) (b : UInt8), vx = .string ⟨l.toArray⟩ ∧ vi = .int k (Int.ofNat j) ∧ l[j]? = some b ∧ Rel C ρ r (.int .u8 (b.toNat : Int))
  | .set x i y, r => ∀ ρ vx vi vy, Rel C ρ x vx → Rel C ρ i vi → Rel C ρ y vy → ∃ (l : List UInt8) (k : IntKind) (j : Nat) (b : UInt8), vx = .string ⟨l.toArray⟩ ∧ vi = .int k (Int.ofNat j) ∧ j < l.length ∧ vy = .int .u8 (b.toNat : Int) ∧ Rel C ρ r (.string ⟨(l.set j b).toArray⟩)
  | .app x ys, r => ∀ ρ vx vs, Rel C ρ x vx → RelL C ρ ys vs → ∃ (l bs : List UInt8), vx = .string ⟨l.toArray⟩ ∧ vs = bs.map (fun b => .int .u8 (b.toNat : Int)) ∧ Rel C ρ r (.string ⟨(l ++ bs).toArray⟩)
  | .fit x, _ => ∀ ρ vx, Rel C ρ x vx → ∃ l : List UInt8, vx = .string ⟨l.toArray⟩ ∧ l.length ≤ 140737488355328
  | .zer n, r => ∀ ρ vn, Rel C ρ n vn → ∃ (k : IntKind) (m : Nat), vn = .int k (Int.ofNat m) ∧ m ≤ 140737488355328 ∧ Rel C ρ r (.string ⟨(List.replicate m 0).toArray⟩)
  | .ext g l, r => ∀ ρ args, RelL C ρ l args → ∀ fn, C.P.funcs[g]? = some fn → ∃ rr, Extern.findNext fn = none ∧ Extern.find fn = some rr ∧ ∀ w : World, ∃ x, (rr ⟨args⟩).run C.P w = .ok x w ∧ Rel C ρ r x
  | .tab l x, r => ∀ ρ vx, Rel C ρ x vx → ∃ (k : IntKind) (j : Nat) (a : AV), vx = .int k (Int.ofNat j) ∧ l[j]? = some a ∧ ∀ ρ' v, Rel C ρ' a v → Rel C ρ' r v
  | .rl x sz, r => ∀ ρ vx, Rel C ρ x vx → ∃ (cs : List Value) (n : Nat), vx = .tuple ⟨cs⟩ ∧ cs.length = n * sz ∧ Rel C ρ r (.int .i64 (n : Int))
  | .el x i sz off, r => ∀ ρ vx vi, Rel C ρ x vx → Rel C ρ i vi → ∃ (cs : List Value) (k : IntKind) (j : Nat) (c : Value), vx = .tuple ⟨cs⟩ ∧ vi = .int k (Int.ofNat j) ∧ cs[j * sz + off]? = some c ∧ Rel C ρ r c
  | .ra x l, r => ∀ ρ vx vs, Rel C ρ x vx → RelL C ρ l vs → ∃ cs : List Value, vx = .tuple ⟨cs⟩ ∧ Rel C ρ r (.tuple ⟨cs ++ vs⟩)
  | .rn, r => ∀ ρ, Rel C ρ r (.tuple ⟨[]⟩)
  | .rr x y, r => ∀ ρ vx vy, Rel C ρ x vx → Rel C ρ y vy → ∃ cs ds : List Value, vx = .tuple ⟨cs⟩ ∧ vy = .tuple ⟨ds⟩ ∧ Rel C ρ r (.tuple ⟨cs ++ ds⟩)
  | .rt x h sz, r => ∀ ρ vx vh, Rel C ρ x vx → Rel C ρ h vh → ∃ (cs : List Value) (k : IntKind) (j : Nat), vx = .tuple ⟨cs⟩ ∧ vh = .int k (Int.ofNat j) ∧ j * sz ≤ cs.length ∧ Rel C ρ r (.tuple ⟨cs.take (j * sz)⟩)
  | .rz n, r => ∀ ρ vn, Rel C ρ n vn → ∃ (k : IntKind) (m : Nat), vn = .int k (Int.ofNat m) ∧ m * 16 ≤ 140737488355328 ∧ Rel C ρ r (.tuple ⟨List.replicate m (.string ⟨#[]⟩)⟩)
  | .rg e n, r => ∀ ρ vn, Rel C ρ n vn → ∃ (k : IntKind) (m : Nat) (i : TypeInfo) (z : Value), vn = .int k (Int.ofNat m) ∧ C.P.info? e = some i ∧ i.zero = some z ∧ z.cells.toList.length = i.size ∧ (∀ x, x ∈ z.cells.toList → x.oneCell' = true) ∧ m * i.bytes ≤ 140737488355328 ∧ m ≤ 140737488355328 ∧ Rel C ρ r (.tuple ⟨(List.replicate m z.cells.toList).flatten⟩)
  | .rs x i y, r => ∀ ρ vx vi vy, Rel C ρ x vx → Rel C ρ i vi → Rel C ρ y vy → ∃ (cs : List Value) (k : IntKind) (j : Nat) (s : ByteArray), vx = .tuple ⟨cs⟩ ∧ vi = .int k (Int.ofNat j) ∧ j < cs.length ∧ vy = .string s ∧ Rel C ρ r (.tuple ⟨cs.set j (.string s)⟩)
  | .rf x sz bytes, _ => ∀ ρ vx, Rel C ρ x vx → ∃ (cs : List Value) (n : Nat), vx = .tuple ⟨cs⟩ ∧ cs.length = n * sz ∧ n * bytes ≤ 140737488355328 ∧ n ≤ 140737488355328
structure HypOk (C : Cx) (tb : Tab) : Prop where
  hyp : ∀ k r, (k, r) ∈ tb.hyp → HOk C k r
section
variable {C : Cx} {tb : Tab} {B : Fz} {ρ : Rho} {w : World} {S S' : St}
variable {f : Operand → AV} {g : Operand → Value}
theorem aB8 (hh : HypOk C tb) {k : HK} {r : AV} (h : hl tb.hyp k = some r) : HOk C k r := hh.hyp k r (cS7 h)
theorem bY2 : ∀ {l : List (HK × AV)} {k : HK}, hlq l k = hl l k
  | [], k => rfl
  | (a, r) :: l, k => by unfold hlq hl; rw [bY2]
theorem nilStr_rel (hh : HypOk C tb) (ρ : Rho) : Rel C ρ (dM3 tb.hyp) (.string ⟨#[]⟩) := by
  unfold dM3
  rw [bY2]
  cases hq : hl tb.hyp (.bytes []) with
  | none => simp only [Rel]; exact ⟨rfl, by simp⟩
  | some r =>
    cases r <;> first | (simp only [Rel]; exact ⟨rfl, by simp⟩) | skip
    obtain ⟨bs, v, g1, g2, g3⟩ := aB8 hh hq ρ [] (by simp only [RelL])
    have : bs = [] := by cases bs with
      | nil => rfl
      | cons => cases g1
    subst this
    rw [g2] at g3; exact g3
theorem hypB_inv (hh : HypOk C tb) {k : HK} {r : Bool} (h : hypB tb k S = some (r, S')) : HOk C k (.b r) ∧ S' = S := by
  unfold hypB at h
  cases hl' : hl tb.hyp k with
  | none => rw [hl'] at h; exact (aA2 h).elim
  | some x =>
    rw [hl'] at h
    cases x <;> try exact (aA2 h).elim
    obtain ⟨rfl, rfl⟩ := aA3 h
    exact ⟨aB8 hh hl', rfl⟩
theorem strEq {k l a c : Nat} (ha : a < 2 ^ (8 * k)) (hc : c < 2 ^ (8 * l)) : (Nat.beq k l && Nat.beq a c) = ((⟨(strB k a).toArray⟩ : ByteArray).toList == (⟨(strB l c).toArray⟩ : ByteArray).toList) := by
  rw [ByteArray.toList_eq, ByteArray.toList_eq]
  simp only []
  rw [Bool.eq_iff_iff]
  simp only [Bool.and_eq_true, beq_iff_eq, Nat.beq_eq]
  constructor
  · rintro ⟨rfl, rfl⟩; rfl
  · intro h
    have h1 : k = l := by have := congrArg List.length h; simpa [aC9] using this
    subst h1
    exact ⟨rfl, strB_inj _ _ _ ha hc h⟩
theorem ptrEq_ok {a c o u : Nat} {ra rc : R} (ha : ρ a = some ra) (hc : ρ c = some rc) {r : Bool} (h : ptrEq a c o u S = some (r, S')) :
    S' = S ∧ (sameAddr ⟨ra.blk, ra.base + o, none⟩ ⟨rc.blk, rc.base + u, none⟩).run C.P w = .ok r w := by
  unfold ptrEq at h
  obtain ⟨hac, h1⟩ := aA4 h
  obtain ⟨rfl, rfl⟩ := aA3 h1
  have e := aD1 hac
  subst e
  rw [ha] at hc; injection hc with hc; subst hc
  refine ⟨rfl, ?_⟩
  simp only [sameAddr, beq_self_eq_true, if_true]
  show Result.ok _ w = _
  congr 1
  rw [Bool.eq_iff_iff]
  simp [beq_iff_eq]
def dH9 (C : Cx) (w : World) (d : Nat) (S S' : St) (t : Nat) (vx vy : Value) (r : Bool) : Prop :=
  S'.heap = S.heap ∧ S'.next = S.next ∧ ∀ D, d ≤ D → (Op.equalIn D t vx vy).run C.P w = .ok r w
theorem eqF_ok (ht : TyOk C.P tb) {eq : Nat → AV → AV → M Bool} {d : Nat} (heq : ∀ {S S' : St} {t : Nat} {x y : AV} {vx vy : Value} {r : Bool}, Rel C ρ x vx → Rel C ρ y vy → eq t x y S = some (r, S') → dH9 C w d S S' t vx vy r)
    {l m : List AV} {cs ds : List Value} (hl : RelL C ρ l cs) (hm : RelL C ρ m ds) : ∀ (fs : List Field) {S S' : St} {r : Bool}, eqF eq l m (fs.map (mkFl C.P)) S = some (r, S') →
    S'.heap = S.heap ∧ S'.next = S.next ∧ ∀ D, d ≤ D → (Op.eqFields D ⟨cs⟩ ⟨ds⟩ fs).run C.P w = .ok r w := by
  intro fs
  induction fs with
  | nil => intro S S' r h; obtain ⟨rfl, rfl⟩ := aA3 h; exact ⟨rfl, rfl, fun D _ => by simp [Op.eqFields]⟩
  | cons fd fs ih =>
    intro S S' r h
    simp only [List.map_cons, eqF] at h
    cases hnm : (mkFl C.P fd).nm with
    | false =>
      rw [hnm] at h
      obtain ⟨h1, h2, h3⟩ := ih h
      refine ⟨h1, h2, fun D hD => ?_⟩
      have : fd.name = "_" := by simpa [mkFl] using hnm
      simp only [Op.eqFields, this, ne_eq, not_true_eq_false, if_false]
      exact h3 D hD
    | true =>
      rw [hnm] at h
      have hne : fd.name ≠ "_" := by simpa [mkFl] using hnm
      obtain ⟨x, h1, h2⟩ := lb h
      obtain ⟨y, h3, h4⟩ := lb h2
      obtain ⟨q, S1, h5, h6⟩ := aB2 h4
      have hinf : ∃ it, C.P.info? fd.type = some it := by
        cases hb : isBad (kOf C.P fd.type) with
        | true => simp [part, mkFl, hb] at h1
        | false =>
          cases hit : C.P.info? fd.type with
          | some it => exact ⟨it, rfl⟩
          | none => simp [kOf, Program.underlying, hit, isBad] at hb
      obtain ⟨it, hit⟩ := hinf
      obtain ⟨vx, x1, x2⟩ := bP4 (w := w) hl h1 (i := it) hit (by simp [mkFl, Program.cellsOf, hit]) rfl rfl
      obtain ⟨vy, y1, y2⟩ := bP4 (w := w) hm h3 (i := it) hit (by simp [mkFl, Program.cellsOf, hit]) rfl rfl
      have x1 : (Go.part fd.type ⟨cs⟩ fd.offset).run C.P w = .ok vx w := x1
      have y1 : (Go.part fd.type ⟨ds⟩ fd.offset).run C.P w = .ok vy w := y1
      obtain ⟨q1, q2, q3⟩ := heq x2 y2 h5
      have q3 : ∀ D, d ≤ D → (Op.equalIn D fd.type vx vy).run C.P w = .ok q w := q3
      cases q with
      | true =>
        obtain ⟨r1, r2, r3⟩ := ih h6
        refine ⟨by rw [r1, q1], by rw [r2, q2], fun D hD => ?_⟩
        simp only [Op.eqFields, ne_eq, hne, not_false_eq_true, if_true, Sem.run_bind, x1, y1, q3 D hD, Result.andThen_ok, Bool.not_true, Bool.false_eq_true, if_false]
        exact r3 D hD
      | false =>
        obtain ⟨rfl, rfl⟩ := aA3 h6
        refine ⟨q1, q2, fun D hD => ?_⟩
        simp only [Op.eqFields, ne_eq, hne, not_false_eq_true, if_true, Sem.run_bind, x1, y1, q3 D hD, Result.andThen_ok, Bool.not_false, Sem.run_pure]
theorem eqI_ne {P : Program} {w : World} {t ta tc D : Nat} {xa xc : Value} {ms : Array (String × TypeId)} (hu : P.underlying t = some (.interface ms)) (h : ta ≠ tc) : (Op.equalIn (D + 1) t (.iface ta xa) (.iface tc xc)).run P w = .ok false w := by
  simp [Op.equalIn, run_underlying hu, h]
theorem eqI_eq {P : Program} {w : World} {t ta D : Nat} {xa xc : Value} {ms : Array (String × TypeId)} {i : TypeInfo} (hu : P.underlying t = some (.interface ms)) (hi : P.info? ta = some i) (hc : i.comparable = true) : (Op.equalIn (D + 1) t (.iface ta xa) (.iface ta xc)).run P w = (Op.equalIn D ta xa xc).run P w := by
  simp [Op.equalIn, run_underlying hu, aE1 hi, hc]
set_option maxHeartbeats 1000000 in
theorem eqT_ok (ht : TyOk C.P tb) (hh : HypOk C tb) : ∀ (d : Nat) {S S' : St} {t : Nat} {x y : AV} {vx vy : Value} {r : Bool}, Rel C ρ x vx → Rel C ρ y vy → eqT tb d t x y S = some (r, S') → dH9 C w d S S' t vx vy r := by
  intro d
  induction d with
  | zero => intro S S' t x y vx vy r hx hy h; exact (aA2 h).elim
  | succ d ih =>
    intro S S' t x y vx vy r hx hy h
    simp only [eqT] at h
    obtain ⟨ti, e1, h1⟩ := lb h
    obtain ⟨i, hi, rfl⟩ := ht.ty _ _ e1
    rw [aD5] at h1
    have hyp : ∀ {S S' : St} {x y : AV} {r : Bool}, Rel C ρ x vx → Rel C ρ y vy → hypB tb (.eq t x y) S = some (r, S') → dH9 C w (d + 1) S S' t vx vy r := by
      intro S S' x y r hx hy h
      obtain ⟨⟨b, hb, hrun⟩, rfl⟩ := hypB_inv hh h
      injection hb with hb; subst hb
      exact ⟨rfl, rfl, fun D hD => hrun ρ vx vy hx hy D w (by omega)⟩
    have done : ∀ {S' : St} {r : Bool}, S' = S → (∀ D, (Op.equalIn (D + 1) t vx vy).run C.P w = .ok r w) → dH9 C w (d + 1) S S' t vx vy r := by
      intro S' r e hrun
      subst e
      refine ⟨rfl, rfl, fun D hD => ?_⟩
      obtain ⟨D, rfl⟩ : ∃ D', D = D' + 1 := ⟨D - 1, by omega⟩
      exact hrun D
    cases hk : kOf C.P t <;> rw [hk] at h1
    case other => cases x <;> cases y <;> exact (aA2 h1).elim
    case bad => cases x <;> cases y <;> exact (aA2 h1).elim
    case uptr => cases x <;> cases y <;> exact (aA2 h1).elim
    case arr => cases x <;> cases y <;> exact (aA2 h1).elim
    case map => cases x <;> cases y <;> exact (aA2 h1).elim
    case bool =>
      have hu := dF0 hk
      cases x <;> cases y <;> try exact (aA2 h1).elim
      obtain ⟨rfl, rfl⟩ := aA3 h1
      simp only [Rel] at hx hy; subst hx; subst hy
      exact done rfl fun D => by simp [Op.equalIn, run_underlying hu]
    case int k =>
      have hu := bR0 hk
      cases x <;> cases y <;> first
        | exact (aA2 h1).elim
        | exact hyp hx hy h1
        | (obtain ⟨hke, h2⟩ := aA4 h1
           obtain ⟨rfl, rfl⟩ := aA3 h2
           have := dN9 hke
           subst this
           simp only [Rel] at hx hy; subst hx; subst hy
           exact done rfl fun D => by rw [run_equalIn_int w D t _ k _ _ hu, aT5]; congr 1)
    case str =>
      have hu := aR3 hk
      cases x <;> cases y <;> first
        | exact (aA2 h1).elim
        | exact hyp hx hy h1
        | (obtain ⟨rfl, rfl⟩ := aA3 h1
           simp only [Rel] at hx hy; obtain ⟨rfl, hx2⟩ := hx; obtain ⟨rfl, hy2⟩ := hy
           exact done rfl fun D => by rw [run_equalIn_string w D t _ _ hu, strEq hx2 hy2])
    case ptr e =>
      have hu := bQ9 hk
      cases x <;> cases y <;> first
        | exact (aA2 h1).elim
        | (obtain ⟨rfl, rfl⟩ := aA3 h1
           simp only [Rel] at hx hy
           first
             | (subst hx; subst hy; exact done rfl fun D => by simp [Op.equalIn, run_underlying hu]; done)
             | (subst hx; obtain ⟨r, _, rfl⟩ := hy; exact done rfl fun D => by simp [Op.equalIn, run_underlying hu]; done)
             | (subst hy; obtain ⟨r, _, rfl⟩ := hx; exact done rfl fun D => by simp [Op.equalIn, run_underlying hu]; done))
        | (obtain ⟨te, e2, h2⟩ := lb h1
           obtain ⟨ie, hie, rfl⟩ := ht.ty _ _ e2
           obtain ⟨hsz, h3⟩ := cond_inv' h2
           obtain ⟨rfl, rfl⟩ := aA3 h3
           simp only [Rel] at hx hy
           subst hx; subst hy
           have hsz' : ie.size ≠ 0 := aD3 hsz
           exact done rfl fun D => by
             simp [Op.equalIn, run_underlying hu, aB7 hie, hsz', typeHandle, sameAddr]
             rw [Bool.eq_iff_iff]; simp [Nat.beq_eq, beq_iff_eq])
        | (obtain ⟨te, e2, h2⟩ := lb h1
           obtain ⟨ie, hie, rfl⟩ := ht.ty _ _ e2
           obtain ⟨hsz, h3⟩ := cond_inv' h2
           simp only [Rel] at hx hy
           obtain ⟨ra, hra, rfl⟩ := hx
           obtain ⟨rc, hrc, rfl⟩ := hy
           obtain ⟨rfl, hrun⟩ := ptrEq_ok (C := C) (w := w) hra hrc h3
           have hsz' : ie.size ≠ 0 := aD3 hsz
           exact done rfl fun D => by simp [Op.equalIn, run_underlying hu, aB7 hie, hsz', hrun])
    case slice e =>
      have hu := aC8 hk
      have hsl : ∀ {b o n c : Nat} {q : Bool} {v : Value}, Rel C ρ (.sl b o n c q) v → ∃ a n c, v = .slice (some a) n c := by
        intro b o n c q v hv
        cases q <;> simp only [Rel] at hv
        · obtain ⟨r, _, _, rfl⟩ := hv; exact ⟨_, _, _, rfl⟩
        · obtain ⟨r, a, _, _, rfl, _⟩ := hv; exact ⟨_, _, _, rfl⟩
      cases x <;> cases y <;> first
        | exact (aA2 h1).elim
        | (obtain ⟨rfl, rfl⟩ := aA3 h1
           first
             | (simp only [Rel] at hx hy; subst hx; subst hy; exact done rfl fun D => by simp [Op.equalIn, run_underlying hu]; done)
             | (obtain ⟨a, n, c, rfl⟩ := hsl hx; simp only [Rel] at hy; subst hy; exact done rfl fun D => by simp [Op.equalIn, run_underlying hu]; done)
             | (obtain ⟨a, n, c, rfl⟩ := hsl hy; simp only [Rel] at hx; subst hx; exact done rfl fun D => by simp [Op.equalIn, run_underlying hu]; done))
    case func =>
      obtain ⟨a, b, c, hu⟩ := kOf_func hk
      cases x <;> cases y <;> first
        | exact (aA2 h1).elim
        | (obtain ⟨rfl, rfl⟩ := aA3 h1
           simp only [Rel] at hx hy
           first
             | (subst hx; subst hy; exact done rfl fun D => by simp [Op.equalIn, run_underlying hu]; done)
             | (subst hx; obtain ⟨p, q, rfl, _⟩ := hy; exact done rfl fun D => by simp [Op.equalIn, run_underlying hu]; done)
             | (subst hy; obtain ⟨p, q, rfl, _⟩ := hx; exact done rfl fun D => by simp [Op.equalIn, run_underlying hu]; done))
    case iface b =>
      obtain ⟨ms, hu⟩ := cS4 hk
      cases x <;> cases y <;> first
        | exact (aA2 h1).elim
        | (obtain ⟨rfl, rfl⟩ := aA3 h1
           simp only [Rel] at hx hy
           first
             | (subst hx; obtain ⟨p, rfl, _⟩ := hy; exact done rfl fun D => by simp [Op.equalIn, run_underlying hu]; done)
             | (subst hy; obtain ⟨p, rfl, _⟩ := hx; exact done rfl fun D => by simp [Op.equalIn, run_underlying hu]; done))
        | (rename_i ta va tc vc
           simp only [Rel] at hx hy
           obtain ⟨xa, rfl, hxa⟩ := hx
           obtain ⟨xc, rfl, hxc⟩ := hy
           change (cond (Nat.beq ta tc) (bnd (lft (tb.ty.get ta)) fun tA => cond tA.cmp (eqT tb d ta va vc) fail) (ret false)) S = some (r, S') at h1
           cases hac : Nat.beq ta tc with
           | false =>
             rw [hac] at h1
             obtain ⟨rfl, rfl⟩ := aA3 h1
             have := aD3 hac
             exact done rfl fun D => eqI_ne hu this
           | true =>
             rw [hac] at h1
             have e := aD1 hac
             subst e
             obtain ⟨te, e2, h2⟩ := lb h1
             obtain ⟨ie, hie, rfl⟩ := ht.ty _ _ e2
             obtain ⟨hcmp, h3⟩ := aA4 h2
             obtain ⟨q1, q2, q3⟩ := ih hxa hxc h3
             refine ⟨q1, q2, fun D hD => ?_⟩
             obtain ⟨D, rfl⟩ : ∃ D', D = D' + 1 := ⟨D - 1, by omega⟩
             have hcmp : ie.comparable = true := hcmp
             rw [eqI_eq hu hie hcmp]; exact q3 D (by omega))
    case struct =>
      obtain ⟨fs, hu, hfl, hfo, hin⟩ := bX9 hk
      cases x <;> cases y <;> try exact (aA2 h1).elim
      simp only [Rel] at hx hy
      obtain ⟨cs, rfl, hl⟩ := hx
      obtain ⟨ds, rfl, hm⟩ := hy
      obtain ⟨hes, h2⟩ := aA4 h1
      have hes : dO9 C.P t = true := hes
      have hso : C.P.stoodInHeld t = false := by
        simp only [dO9, hk, Bool.and_eq_true, Bool.not_eq_true'] at hes; exact hes.1
      have h2 : eqF (eqT tb d) _ _ ((aM5 C.P t).map (mkFl C.P)) S = some (r, S') := h2
      rw [hfl] at h2
      obtain ⟨q1, q2, q3⟩ := eqF_ok ht (d := d) (fun hx hy h => ih hx hy h) hl hm fs.toList h2
      refine ⟨q1, q2, fun D hD => ?_⟩
      obtain ⟨D, rfl⟩ : ∃ D', D = D' + 1 := ⟨D - 1, by omega⟩
      rw [run_equalIn_struct w D t _ _ (by rw [hfo]; exact hu) hso, hfo]
      exact q3 D (by omega)
end
end Go.AX
end
