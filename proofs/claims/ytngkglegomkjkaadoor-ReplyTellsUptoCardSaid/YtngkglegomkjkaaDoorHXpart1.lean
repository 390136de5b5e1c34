/- A part of the proof: what an interpreter answers on partly known states is what the program answers. No condition. -/
import GoSem.Dispatch
import Derived.Laws.Sem
import Derived.Below
import Derived.Laws.Tables
import Derived.Laws.CopyRow
import Derived.Laws.Cells
import Derived.Laws.Entries
import Derived.Laws.StructEq
import Derived.Laws.IdiomStrings
import Derived.Laws.MakeOwn
import Derived.Laws.Slices
set_option linter.unusedSimpArgs false
set_option linter.unusedVariables false
section
namespace Go.AX
noncomputable section

inductive AV where
 | und
 | b (x : Bool)
 | i (k : IntKind) (n : Int)
 | s (len n : Nat)
 | bg
 | p (v off : Nat)
 | bO
 | sl (v off len cap : Nat) (rest : Bool)
 | ni
 | cU (t : Nat) (v : AV)
 | ag (l : List AV)
 | tu (l : List AV)
 | fn (f : Nat) (first cap : List AV)
 | eR
 | yl (n : Nat)
 | mp (v : Nat)
 | ik
 | h (t : Nat)
 | x (id : Nat)
 | sy (v : Nat)                 -- a slice of bytes: all of the row v, whose bytes are a symbol's
 | px (v : Nat) (i : AV)        -- a pointer to a byte of such a row
 | sr (v : Nat)                 -- a slice: all of the row v, whose cells are a symbol's
 | pr (v : Nat) (i : AV) (sz off : Nat)        -- a pointer to a cell of such a row: that at off of the element i
 | es                            -- an empty slice, wherever it lies
 | tl (v : Nat) (i : AV) (sz : Nat)     -- a slice: such a row from the element i on
 deriving Inhabited

inductive T (α : Type) where
 | leaf
 | node (v : Option α) (l r : T α)
 deriving Inhabited

def gB {α : Type} (gl gr : Nat → Option α) (k : Nat) : Option α := Nat.rec (motive := fun _ => Option α) (gl (Nat.div k 2)) (fun _ _ => gr (Nat.div k 2)) (Nat.mod k 2)
def T.get {α : Type} (t : T α) : Nat → Option α := T.rec (motive := fun _ => Nat → Option α) (fun _ => none)
 (fun v _ _ gl gr n => Nat.rec (motive := fun _ => Option α) v (fun k _ => gB gl gr k) n) t
def sB {α : Type} (ih : T α → Nat → T α) (v : Option α) (l r : T α) (k : Nat) : T α := Nat.rec (motive := fun _ => T α) (.node v (ih l (Nat.div k 2)) r) (fun _ _ => .node v l (ih r (Nat.div k 2))) (Nat.mod k 2)
def sN {α : Type} (x : Option α) (ih : T α → Nat → T α) (n : Nat) (v : Option α) (l r : T α) : T α := Nat.rec (motive := fun _ => T α) (.node x l r) (fun k _ => sB ih v l r k) n
def T.setG {α : Type} (x : Option α) (f : Nat) : T α → Nat → T α := Nat.rec (motive := fun _ => T α → Nat → T α) (fun t _ => t)
 (fun _ ih t n => T.rec (motive := fun _ => T α) (sN x ih n none .leaf .leaf) (fun v l r _ _ => sN x ih n v l r) t) f
def T.jR {α : Type} (f : Nat) (t : T α) (n : Nat) (x : Option α) : T α := T.setG x f t n
theorem zo {k : Nat} (h : k % 2 = 0) : Nat.beq (Nat.mod (k + 1) 2) 1 = true ∧ Nat.div (k + 1) 2 = Nat.div k 2 := by
 have e1 : (k + 1) % 2 = 1 := by omega
 have e2 : (k + 1) / 2 = k / 2 := by omega
 exact ⟨by show Nat.beq ((k + 1) % 2) 1 = true; rw [e1]; rfl, e2⟩
theorem zn {k q : Nat} (h : k % 2 = q + 1) : Nat.beq (Nat.mod (k + 1) 2) 1 = false ∧ Nat.sub (Nat.div (k + 1) 2) 1 = Nat.div k 2 := by
 have e1 : (k + 1) % 2 = 0 := by omega
 have e2 : (k + 1) / 2 - 1 = k / 2 := by omega
 exact ⟨by show Nat.beq ((k + 1) % 2) 1 = false; rw [e1]; rfl, e2⟩
theorem sN_eq {α : Type} (x : Option α) (ih : T α → Nat → T α) (n : Nat) (v : Option α) (l r : T α) : sN x ih n v l r = cond (Nat.beq n 0) (.node x l r) (cond (Nat.beq (Nat.mod n 2) 1) (.node v (ih l (Nat.div n 2)) r) (.node v l (ih r (Nat.sub (Nat.div n 2) 1)))) := by
 cases n with
 | zero => rfl
 | succ k =>
  show sB ih v l r k = cond (Nat.beq (Nat.mod (k + 1) 2) 1) _ _
  unfold sB
  cases h : k % 2 with
  | zero =>
   rw [(zo h).1, (zo h).2]
   have : Nat.mod k 2 = 0 := h
   rw [this]; rfl
  | succ q =>
   rw [(zn h).1, (zn h).2]
   have : Nat.mod k 2 = q + 1 := h
   rw [this]; rfl
theorem T.cy {α : Type} (n : Nat) : (T.leaf : T α).get n = none := rfl
theorem T.jn {α : Type} (v : Option α) (l r : T α) (n : Nat) : (T.node v l r).get n = cond (Nat.beq n 0) v (cond (Nat.beq (Nat.mod n 2) 1) (l.get (Nat.div n 2)) (r.get (Nat.sub (Nat.div n 2) 1))) := by
 cases n with
 | zero => rfl
 | succ k =>
  show gB l.get r.get k = cond (Nat.beq (Nat.mod (k + 1) 2) 1) _ _
  unfold gB
  cases h : k % 2 with
  | zero =>
   rw [(zo h).1, (zo h).2]
   have : Nat.mod k 2 = 0 := h
   rw [this]; rfl
  | succ q =>
   rw [(zn h).1, (zn h).2]
   have : Nat.mod k 2 = q + 1 := h
   rw [this]; rfl
theorem T.setF_leaf {α : Type} (f n : Nat) (x : Option α) : T.jR (f + 1) .leaf n x = cond (Nat.beq n 0) (.node x .leaf .leaf) (cond (Nat.beq (Nat.mod n 2) 1) (.node none (T.jR f .leaf (Nat.div n 2) x) .leaf) (.node none .leaf (T.jR f .leaf (Nat.sub (Nat.div n 2) 1) x))) := sN_eq x (T.setG x f) n none .leaf .leaf
theorem T.setF_node {α : Type} (f n : Nat) (v : Option α) (l r : T α) (x : Option α) : T.jR (f + 1) (.node v l r) n x = cond (Nat.beq n 0) (.node x l r) (cond (Nat.beq (Nat.mod n 2) 1) (.node v (T.jR f l (Nat.div n 2) x) r) (.node v l (T.jR f r (Nat.sub (Nat.div n 2) 1) x))) := sN_eq x (T.setG x f) n v l r
def T.set {α} (t : T α) (n : Nat) (x : α) : T α := T.jR 24 t n (some x)
def T.del {α} (t : T α) (n : Nat) : T α := T.jR 24 t n none

inductive Cells where
 | l (vs : List AV)
 | y (len n : Nat)
 deriving Inhabited

structure eB where
 e : Nat
 c : Cells
 m : Nat
 es : Nat
 fr : Nat
 st : Bool
 g : Bool
 deriving Inhabited

inductive Ex where
 | normal | exit (id : Nat) | goto (l : Nat) | ret
 deriving Inhabited
structure gO where
 ps : List Nat
 fB : Code
 body : Code
 tm : T AV
 nt : Nat
 st : Nat     -- 0: ready, 1: busy, 2: done
 pend : Ex
structure ME where
 k : AV
 v : AV
 b : Nat
 deriving Inhabited
inductive aZ where
 | b (k : eB)
 | j (r : gO)
 | m (es : List ME) (clock : Nat)
 | it (m since : Nat) (seen : List Nat) (last : Nat)     -- an iterator over the map m
 | r (id e sz : Nat) (ro : Bool)     -- a row of cells: those of the tuple that the symbol id stands for; the elements' type, its cells; is it only read
 | t (id e : Nat)     -- a row of bytes: those of the string that the symbol id stands for; the elements' type
 | k (g : Nat) (tm : List (Nat × AV)) (nt st : Nat) (pend : Ex)     -- a loop's record: that of the first range over a function of the function g

structure St where
 heap : T aZ
 next : Nat
 acc : Nat
 wr : Nat
 deriving Inhabited

abbrev M (α : Type) := St → Option (α × St)
def ret {α} (a : α) : M α := fun S => some (a, S)
def fail {α} : M α := fun _ => none
def bnd {α β} (m : M α) (f : α → M β) : M β := fun S => match m S with
 | none => none
 | some (a, S') => f a S'
def aK {α} (o : Option α) : M α := fun S => match o with
 | none => none
 | some a => some (a, S)

def bit (v : Nat) : Nat := Nat.shiftLeft 1 v
def rd (v : Nat) : M eB := fun S => match S.heap.get v with
 | some (.b k) => some (k, ⟨S.heap, S.next, Nat.lor S.acc (bit v), S.wr⟩)
 | _ => none
def kX (v : Nat) : M (List ME × Nat) := fun S => match S.heap.get v with
 | some (.m es c) => some ((es, c), ⟨S.heap, S.next, Nat.lor S.acc (bit v), S.wr⟩)
 | _ => none
def kY (v : Nat) : M (Nat × Nat × List Nat × Nat) := fun S => match S.heap.get v with
 | some (.it m since seen last) => some ((m, since, seen, last), ⟨S.heap, S.next, Nat.lor S.acc (bit v), S.wr⟩)
 | _ => none
def dL (v : Nat) : M (Nat × Nat) := fun S => match S.heap.get v with
 | some (.t id e) => some ((id, e), ⟨S.heap, S.next, Nat.lor S.acc (bit v), S.wr⟩)
 | _ => none
def rdA (v : Nat) : M aZ := fun S => match S.heap.get v with
 | some k => some (k, ⟨S.heap, S.next, Nat.lor S.acc (bit v), S.wr⟩)
 | none => none
def eE (v : Nat) (k : aZ) : M Unit := fun S => cond (Nat.blt v S.next && Nat.ble v 16777213) (some ((), ⟨S.heap.set v k, S.next, Nat.lor S.acc (bit v), Nat.lor S.wr (bit v)⟩)) none
abbrev upd (v : Nat) (k : eB) : M Unit := eE v (.b k)
def kill (v : Nat) : M Unit := fun S => cond (Nat.blt v S.next && Nat.ble v 16777213) (some ((), ⟨S.heap.del v, S.next, Nat.lor S.acc (bit v), Nat.lor S.wr (bit v)⟩)) none
def newE (k : aZ) : M Nat := fun S => cond (Nat.ble S.next 16777213) (some (S.next, ⟨S.heap.set S.next k, Nat.succ S.next, Nat.lor S.acc (bit S.next), Nat.lor S.wr (bit S.next)⟩)) none
abbrev new (k : eB) : M Nat := newE (.b k)

/- numbers -/
def ile : Int → Int → Bool
 | .ofNat a, .ofNat b => Nat.ble a b
 | .negSucc _, .ofNat _ => true
 | .ofNat _, .negSucc _ => false
 | .negSucc a, .negSucc b => Nat.ble b a
def ilt (a b : Int) : Bool := !(ile b a)
def ieq : Int → Int → Bool
 | .ofNat a, .ofNat b => Nat.beq a b
 | .negSucc a, .negSucc b => Nat.beq a b
 | _, _ => false
def kEq : IntKind → IntKind → Bool
 | .i64, .i64 => true
 | .u8, .u8 => true
 | .u16, .u16 => true
 | .u32, .u32 => true
 | .u64, .u64 => true
 | .i32, .i32 => true
 | .i8, .i8 => true
 | .i16, .i16 => true
 | _, _ => false
def fits : IntKind → Int → Bool
 | .i64, .ofNat a => Nat.ble a 9223372036854775807
 | .i64, .negSucc a => Nat.ble a 9223372036854775807
 | .u8, .ofNat a => Nat.ble a 255
 | .u16, .ofNat a => Nat.ble a 65535
 | .u32, .ofNat a => Nat.ble a 4294967295
 | .u64, .ofNat a => Nat.ble a 18446744073709551615
 | .i32, .ofNat a => Nat.ble a 2147483647
 | .i32, .negSucc a => Nat.ble a 2147483647
 | _, _ => false
def wrp (k : IntKind) (n : Int) : Int := cond (fits k n) n (k.wrap n)
def tn (k : IntKind) (x : Int) : Nat := match x with
 | .ofNat n => cond (fits k (.ofNat n)) n ((x % (2 ^ k.bits : Int)).toNat)
 | _ => (x % (2 ^ k.bits : Int)).toNat
def dM (k : IntKind) (n : Int) : AV := .i k (wrp k n)

/- cells -/
def byteAt (n j : Nat) : Nat := Nat.mod (Nat.shiftRight n (Nat.mul 8 j)) 256
def cv (len n : Nat) : List AV := (List.range len).map fun j => AV.i .u8 (.ofNat (byteAt n j))
def Cells.toL : Cells → List AV
 | .l vs => vs
 | .y len n => cv len n
def Cells.len : Cells → Nat
 | .l vs => vs.length
 | .y len _ => len
def kf : List AV → Nat → Option AV
 | [], _ => none
 | a :: r, n => cond (Nat.beq n 0) (some a) (kf r (Nat.sub n 1))
def Cells.get (c : Cells) (j : Nat) : Option AV := match c with
 | .l vs => kf vs j
 | .y len n => cond (Nat.blt j len) (some (.i .u8 (.ofNat (byteAt n j)))) none
def low (n len : Nat) : Nat := Nat.mod n (Nat.shiftLeft 1 (Nat.mul 8 len))
def Cells.sub (c : Cells) (off n : Nat) : Option Cells := match c with
 | .l vs => cond (Nat.ble (Nat.add off n) vs.length) (some (.l ((vs.drop off).take n))) none
 | .y len m => cond (Nat.ble (Nat.add off n) len) (some (.y n (low (Nat.shiftRight m (Nat.mul 8 off)) n))) none
def dj : List AV → Nat → List AV → List AV
 | vs, 0, d => d ++ vs.drop d.length
 | [], _ + 1, d => d
 | v :: vs, n + 1, d => v :: dj vs n d
def Cells.put (c : Cells) (off : Nat) (d : Cells) : Option Cells := match c, d with
 | .y len n, .y k m => cond (Nat.ble off len)
  (some (.y (max len (Nat.add off k)) (Nat.add (low n off) (Nat.add (Nat.shiftLeft m (Nat.mul 8 off)) (Nat.shiftLeft (Nat.shiftRight n (Nat.mul 8 (Nat.add off k))) (Nat.mul 8 (Nat.add off k))))))) none
 | c, d => cond (Nat.ble off c.len) (some (.l (dj c.toL off d.toL))) none
def Cells.app (c d : Cells) : Cells := match c, d with
 | .y len n, .y k m => .y (Nat.add len k) (Nat.add n (Nat.shiftLeft m (Nat.mul 8 len)))
 | c, d => .l (c.toL ++ d.toL)
def jS : AV → Bool
 | .und | .ag _ | .tu _ => false
 | .x id => Nat.blt id 1000000
 | _ => true
def cellsOf : AV → Option (List AV)
 | .und => none
 | .tu _ => none
 | .ag l => some l
 | .x id => cond (Nat.blt id 1000000) (some [.x id]) none
 | v => some [v]
def rW : AV → Option Nat
 | .i .u8 (.ofNat n) => cond (Nat.blt n 256) (some n) none
 | _ => none
def Cells.set1 (c : Cells) (off : Nat) (v : AV) : Option Cells := match c with
 | .y len n => match rW v with
  | some x => cond (Nat.blt off len) (some (.y len (Nat.add (low n off) (Nat.add (Nat.shiftLeft x (Nat.mul 8 off)) (Nat.shiftLeft (Nat.shiftRight n (Nat.mul 8 (Nat.succ off))) (Nat.mul 8 (Nat.succ off))))))) none
  | none => cond (Nat.blt off len) (some (.l (dj (cv len n) off [v]))) none
 | .l vs => cond (Nat.blt off vs.length) (some (.l (dj vs off [v]))) none
def rep (c : Cells) : Nat → Cells
 | 0 => match c with | .y _ _ => .y 0 0 | .l _ => .l []
 | n + 1 => c.app (rep c n)
def jT (c : Cells) (n : Nat) : Cells := match c with
 | .y len 0 => .y (Nat.mul len n) 0
 | c => rep c n

/- types and functions, told by tables -/
inductive K where
 | bool | int (k : IntKind) | str | slice (e : Nat) | arr (n e : Nat) | struct | ptr (e : Nat) | iface (empty : Bool) | lq | func | map (k e : Nat) | other | bad
 deriving Inhabited
structure Fl where
 off : Nat
 t : Nat
 sz : Nat
 agg : Bool
 bad : Bool
 nm : Bool     -- is its name not '_'
 deriving Inhabited
structure TI where
 k : K
 size : Nat
 bytes : Nat
 zero : Option AV
 zc : Cells
 fs : List Fl
 cmp : Bool
 eqs : Bool
 zs : Bool
 deriving Inhabited
structure LH where
 ng : Nat
 n0 : Nat
 n1 : Nat
 pre : List (Nat × aZ)
 post : List (Nat × aZ)
 deriving Inhabited
structure LF where
 key : Nat
 nt : Nat
 pre : List (Nat × AV)
 keep : List Nat
 ex : Ex
 post : List (Nat × AV)
 hp : Option LH
 deriving Inhabited
structure FI where
 body : Option Code
 ntmps : Nat
 res : List ResultVar
 ext : Nat
 sum : Option AV
 lps : List LF
 deriving Inhabited
inductive HK where
 | bin (o : BinOp) (x y : AV)
 | conv (t : Nat) (x : AV)
 | un (o : UnOp) (x : AV)
 | idx (x y : AV)
 | len (x : AV)
 | sub (x : AV) (lo hi : Option AV)
 | bytes (l : List AV)
 | eq (t : Nat) (x y : AV)
 | call (g : Nat) (l : List AV)
 | mm (mx : Bool) (x y : AV)
 | cW (x i : AV)           -- the byte at i
 | set (x i b : AV)         -- with the byte b at i
 | app (x : AV) (l : List AV)     -- with these bytes behind it
 | fit (x : AV)             -- is it as short as a row may be
 | zer (n : AV)             -- as many zeros
 | ext (g : Nat) (l : List AV)     -- what a function that has no code gives
 | tab (l : List AV) (x : AV)      -- the one at x in the row
 | rl (x : AV) (sz : Nat)          -- how many elements a row has
 | el (x i : AV) (sz off : Nat)    -- a cell of a row
 | ra (x : AV) (l : List AV)       -- a row with cells behind it
 | rn                              -- the row of nothing
 | rf (x : AV) (sz bytes : Nat)    -- is it as short as a row may be
 | bI (x y : AV)                  -- are two truths the same
 | slen (x : AV)                   -- how long a slice is
 | rr (x y : AV)                   -- a row with another one behind it
 | rt (x h : AV) (sz : Nat)        -- a row's first elements
 | rz (n : AV)                     -- a row of so many texts of nothing
 | rs (x i y : AV)                 -- a row of texts with the text y at i
 | rg (e : Nat) (n : AV)           -- a row of so many zero values of a type
 | rp (x i : AV) (l : List AV)     -- a row with an element, these cells, put at i
 | rc (e : Nat) (x i : AV)         -- a row of which all from i on is the type's zero value
def same : AV → AV → Bool
 | .x a, .x b => Nat.beq a b
 | .i k a, .i l b => k == l && ieq a b
 | .b a, .b b => a == b
 | .s k a, .s l b => Nat.beq k l && Nat.beq a b
 | _, _ => false
def n6 : List AV → List AV → Bool
 | [], [] => true
 | a :: l, b :: m => same a b && n6 l m
 | _, _ => false
def cz (s : AV → AV → Bool) : List AV → List AV → Bool
 | [], [] => true
 | a :: l, b :: m => s a b && cz s l m
 | _, _ => false
def eu : Nat → AV → AV → Bool
 | 0, a, b => same a b
 | d + 1, a, b => match a, b with
  | .ag l, .ag m => cz (eu d) l m
  | .tu l, .tu m => cz (eu d) l m
  | .cU t x, .cU u y => Nat.beq t u && eu d x y
  | .bO, .bO => true
  | .sr v, .sr w => Nat.beq v w
  | .es, .es => true
  | .ni, .ni => true
  | .bg, .bg => true
  | .eR, .eR => true
  | .ik, .ik => true
  | .h a, .h b => Nat.beq a b
  | a, b => same a b
def fP : Nat → AV → AV → Bool
 | 0, _, _ => false
 | d + 1, a, b => match a, b with
  | .p v o, .p w u => Nat.beq v w && Nat.beq o u
  | .sl v o n c r, .sl w u m e s => Nat.beq v w && Nat.beq o u && Nat.beq n m && Nat.beq c e && (r == s)
  | .sy v, .sy w => Nat.beq v w
  | .px v i, .px w j => Nat.beq v w && fP d i j
  | .sr v, .sr w => Nat.beq v w
  | .pr v i s o, .pr w j t u => Nat.beq v w && (fP d i j && (Nat.beq s t && Nat.beq o u))
  | .mp v, .mp w => Nat.beq v w
  | .yl v, .yl w => Nat.beq v w
  | .fn f a c, .fn g b e => Nat.beq f g && cz (fP d) a b && cz (fP d) c e
  | .ag l, .ag m => cz (fP d) l m
  | .tu l, .tu m => cz (fP d) l m
  | .cU t x, .cU u y => Nat.beq t u && fP d x y
  | .bO, .bO => true
  | .es, .es => true
  | .ni, .ni => true
  | .bg, .bg => true
  | .eR, .eR => true
  | .ik, .ik => true
  | .h a, .h b => Nat.beq a b
  | a, b => same a b
def B9 : Option AV → Option AV → Bool
 | none, none => true
 | some a, some b => same a b
 | _, _ => false
def HK.same : HK → HK → Bool
 | .bin o x y, .bin p u v => o == p && AX.same x u && AX.same y v
 | .conv t x, .conv u y => Nat.beq t u && AX.same x y
 | .un o x, .un p y => o == p && AX.same x y
 | .idx x y, .idx u v => AX.same x u && AX.same y v
 | .len x, .len y => AX.same x y
 | .sub x l h, .sub y m i => AX.same x y && B9 l m && B9 h i
 | .bytes l, .bytes m => n6 l m
 | .eq t x y, .eq u v w => Nat.beq t u && AX.same x v && AX.same y w
 | .call g l, .call h m => Nat.beq g h && cz (eu 8) l m
 | .mm a x y, .mm b u v => a == b && AX.same x u && AX.same y v
 | .cW x i, .cW y j => AX.same x y && AX.same i j
 | .set x i b, .set y j c => AX.same x y && AX.same i j && AX.same b c
 | .app x l, .app y m => AX.same x y && n6 l m
 | .fit x, .fit y => AX.same x y
 | .zer x, .zer y => AX.same x y
 | .ext g l, .ext h m => Nat.beq g h && cz (eu 8) l m
 | .tab l x, .tab m y => AX.same x y && cz (fP 8) l m
 | .rl x s, .rl y t => AX.same x y && Nat.beq s t
 | .el x i s o, .el y j t p => AX.same x y && (AX.same i j && (Nat.beq s t && Nat.beq o p))
 | .ra x l, .ra y m => AX.same x y && cz (fP 8) l m
 | .rn, .rn => true
 | .rf x s b, .rf y t c => AX.same x y && (Nat.beq s t && Nat.beq b c)
 | .bI x y, .bI u v => AX.same x u && AX.same y v
 | .slen x, .slen y => AX.same x y
 | .rr x y, .rr u v => AX.same x u && AX.same y v
 | .rt x h s, .rt y g t => AX.same x y && (AX.same h g && Nat.beq s t)
 | .rz x, .rz y => AX.same x y
 | .rs x i b, .rs y j c => AX.same x y && AX.same i j && AX.same b c
 | .rg e x, .rg f y => Nat.beq e f && AX.same x y
 | .rp x i l, .rp y j m => AX.same x y && AX.same i j && n6 l m
 | .rc e x i, .rc f y j => Nat.beq e f && AX.same x y && AX.same i j
 | _, _ => false
def hl : List (HK × AV) → HK → Option AV
 | [], _ => none
 | (a, r) :: l, k => cond (a.same k) (some r) (hl l k)
structure Tab where
 ng : Nat
 hyp : List (HK × AV)
 u8 : Nat
 ty : T TI
 fn : T FI
 imp : List (Nat × Nat × Bool)       -- interface type, dynamic type: does it implement it
 met : List (Nat × String × Nat × Bool)     -- dynamic type, method: the function; the receiver is the value itself, or (true) its first field
 rty : Nat
 kd : List (Nat × Nat)                       -- of a type reflectlite's kind
 el : List (Nat × Nat)                       -- of a type what it points to
 fB : List (Nat × Nat × Bool)               -- is the second one assignable to the first
 im2 : List (Nat × Nat × Bool)               -- does the second one implement the first
 deriving Inhabited

def impl : List (Nat × Nat × Bool) → Nat → Nat → Option Bool
 | [], _, _ => none
 | (a, b, r) :: l, x, y => cond (Nat.beq a x && Nat.beq b y) (some r) (impl l x y)
def mC : List (Nat × String × Nat × Bool) → Nat → String → Option (Nat × Bool)
 | [], _, _ => none
 | (a, b, r) :: l, x, y => cond (Nat.beq a x && b == y) (some r) (mC l x y)
def recv (d : Bool) (v : AV) : Option AV := cond d (match v with | .ag [x] => some x | _ => none) (some v)

def isAgg : K → Bool
 | .struct | .arr .. => true
 | _ => false
def isIf : K → Bool
 | .iface _ => true
 | _ => false
def isBad : K → Bool
 | .bad => true
 | _ => false

def kZ : List UInt8 → Nat
 | [] => 0
 | a :: l => Nat.add a.toNat (Nat.mul 256 (kZ l))
def jV : Value → AV
 | .bool b => .b b
 | .int k n => .i k n
 | .string s => .s s.data.toList.length (kZ s.data.toList)
 | .pointer none => .bg
 | .slice none 0 0 => .bO
 | .nilIface => .ni
 | .nilFunc => .eR
 | .map none => .ik
 | .func (.func f) ⟨[]⟩ ⟨[]⟩ => .fn f [] []
 | .tuple ⟨[]⟩ => .tu []
 | _ => .und

def iI : List AV → Option (Nat × Nat)
 | [] => some (0, 0)
 | v :: l => match rW v, iI l with
  | some x, some (k, n) => some (Nat.succ k, Nat.add x (Nat.mul 256 n))
  | _, _ => none
def toCells (u8 : Bool) (l : List AV) : Cells := cond u8 (match iI l with
 | some (k, n) => .y k n
 | none => .l l) (.l l)

def a6 (p : Program) (t : Nat) : K := match p.underlying t with
 | some .bool => .bool
 | some (.int k) => .int k
 | some .string => .str
 | some (.slice e) => .slice e
 | some (.array n e) => .arr n e
 | some (.struct fs) => cond (fs.toList.all fun f => (p.info? f.type).isSome) .struct .bad
 | some (.pointer e) => .ptr e
 | some (.interface ms) => .iface ms.isEmpty
 | some .unsafePointer => .lq
 | some (.func ..) => .func
 | some (.map k e) => .map k e
 | some _ => .other
 | none => .bad
def avZ (v : Value) : AV := match v with
 | .agg cs => .ag (cs.toList.map jV)
 | v => jV v
def fN (p : Program) (t : Nat) : List Field := match p.underlying t with
 | some (.struct fs) => fs.toList
 | _ => []
def fJ (p : Program) (f : Field) : Fl := ⟨f.offset, f.type, p.cellsOf f.type, isAgg (a6 p f.type), isBad (a6 p f.type), f.name != "_"⟩
def oneC : Value → Bool
 | .agg _ | .tuple _ => false
 | _ => true
def mH : K → Bool
 | .int .u8 => true
 | _ => false
def u8ish (p : Program) (t : Nat) : Bool := match a6 p t with
 | .arr _ e => mH (a6 p e)
 | k => mH k
def Bd (i : TypeInfo) : List AV := match i.zero with
 | some v => v.cells.toList.map jV
 | none => []
def zsOf (i : TypeInfo) : Bool := match i.zero with
 | some v => v.cells.toList.all oneC && Nat.beq v.cells.toList.length i.size
 | none => false
def rE (p : Program) (t : Nat) : Bool := match a6 p t with
 | .struct => !p.stoodInHeld t && !p.eqGuardType p.depth t
 | _ => false
def cw (p : Program) (t : Nat) (i : TypeInfo) : TI :=
 { k := a6 p t, size := i.size, bytes := i.bytes, zero := i.zero.map avZ,
   zc := toCells (u8ish p t) (Bd i),
   fs := (fN p t).map (fJ p), cmp := i.comparable, eqs := rE p t, zs := zsOf i }
def op (ng : Nat) (tm : T AV) : Operand → AV
 | .tmp t => match tm.get t with | some v => v | none => .und
 | .const v => jV v
 | .global g => cond (Nat.blt g ng) (.p g 0) .und
 | .func f => .fn f [] []

def dy : AV → Option Nat
 | .i _ (.ofNat n) => some n
 | _ => none
def jJ (f : Operand → AV) (o : Option Operand) (d : Nat) : Option Nat := match o with
 | none => some d
 | some o => dy (f o)

/- equality, by the type -/
def ptrEq (a c : Nat) (o u : Nat) : M Bool := cond (Nat.beq a c) (ret (Nat.beq o u)) fail
def lsub (l : List AV) (off n : Nat) : Option (List AV) := cond (Nat.ble (Nat.add off n) l.length) (some ((l.drop off).take n)) none
def part (l : List AV) (f : Fl) : Option AV := cond f.bad none <| cond f.agg ((lsub l f.off f.sz).map .ag) (kf l f.off)
def eqF (eq : Nat → AV → AV → M Bool) (l m : List AV) : List Fl → M Bool
 | [] => ret true
 | f :: fs => cond f.nm
  (bnd (aK (part l f)) fun x => bnd (aK (part m f)) fun y => bnd (eq f.t x y) fun r => cond r (eqF eq l m fs) (ret false))
  (eqF eq l m fs)
def eS (tb : Tab) (k : HK) : M Bool := match hl tb.hyp k with
 | some (.b r) => ret r
 | _ => fail
def eU (tb : Tab) : Nat → Nat → AV → AV → M Bool
 | 0, _, _, _ => fail
 | d + 1, t, x, y => bnd (aK (tb.ty.get t)) fun ti =>
  match ti.k, x, y with
  | .bool, .b a, .b c => ret (a == c)
  | .int _, .i k a, .i l c => cond (kEq k l) (ret (ieq a c)) fail
  | .str, .s k a, .s l c => ret (Nat.beq k l && Nat.beq a c)
  | .int _, .x a, y => eS tb (.eq t (.x a) y)
  | .int _, .i k a, .x c => eS tb (.eq t (.i k a) (.x c))
  | .str, .x a, y => eS tb (.eq t (.x a) y)
  | .str, .s k a, .x c => eS tb (.eq t (.s k a) (.x c))
  | .ptr _, .bg, .bg => ret true
  | .ptr _, .bg, .p _ _ => ret false
  | .ptr _, .p _ _, .bg => ret false
  | .ptr e, .p a o, .p c u => bnd (aK (tb.ty.get e)) fun te => cond (Nat.beq te.size 0) fail (ptrEq a c o u)
  | .ptr e, .h a, .h c => bnd (aK (tb.ty.get e)) fun te => cond (Nat.beq te.size 0) fail (ret (Nat.beq a c))
  | .iface _, .ni, .cU _ _ => ret false
  | .iface _, .cU _ _, .ni => ret false
  | .iface _, .cU a v, .cU c w => cond (Nat.beq a c) (bnd (aK (tb.ty.get a)) fun ta => cond ta.cmp (eU tb d a v w) fail) (ret false)
  | .struct, .ag l, .ag m => cond ti.eqs (eqF (eU tb d) l m ti.fs) fail
  | .slice _, .bO, .bO => ret true
  | .slice _, .bO, .sl .. => ret false
  | .slice _, .sl .., .bO => ret false
  | .slice _, .sr _, .bO => ret false
  | .func, .eR, .eR => ret true
  | .func, .eR, .fn .. => ret false
  | .func, .fn .., .eR => ret false
  | _, _, _ => fail
def isC : Operand → Bool
 | .const _ => true
 | _ => false
def okE : AV → Bool
 | .und | .i _ _ | .s _ _ | .x _ | .tu _ | .sy _ | .px _ _ | .pr _ _ _ _ | .tl _ _ _ => false
 | _ => true
def oY : AV → Bool
 | .ni => true
 | _ => false
def isAg : AV → Bool
 | .ag _ => true
 | _ => false
def lR (tb : Tab) (t : Nat) (cx : Bool) (x y : AV) : M Bool :=
 cond (okE x) (cond (oY x && oY y) (cond cx (bnd (aK (tb.ty.get t)) fun ti => match ti.k with | .iface _ => ret true | _ => fail) fail) (eU tb 12 t x y)) fail

def bytesLess : List Nat → List Nat → Bool
 | _, [] => false
 | [], _ :: _ => true
 | a :: x, b :: y => Nat.blt a b || (Nat.beq a b && bytesLess x y)
def tQ (len n : Nat) : List Nat := (List.range len).map (byteAt n)
def nq (k a l c : Nat) : Bool := bytesLess (tQ k a) (tQ l c)

def ml (o : BinOp) (k : IntKind) (a c : Int) : M AV := match o with
 | .add => ret (dM k (a + c))
 | .sub => ret (dM k (a - c))
 | .mul => ret (dM k (a * c))
 | .quo => cond (ieq c 0) fail (ret (dM k (a.tdiv c)))
 | .rem => cond (ieq c 0) fail (ret (.i k (a.tmod c)))
 | .and => ret (dM k (.ofNat (Nat.land (tn k a) (tn k c))))
 | .or => ret (dM k (.ofNat (Nat.lor (tn k a) (tn k c))))
 | .xor => ret (dM k (.ofNat (Nat.xor (tn k a) (tn k c))))
 | .andNot => ret (dM k (.ofNat (Nat.land (tn k a) (Nat.sub (2 ^ k.bits - 1) (tn k c)))))
 | .lss => ret (.b (ilt a c))
 | .leq => ret (.b (ile a c))
 | .gtr => ret (.b (ilt c a))
 | .geq => ret (.b (ile c a))
 | .eql => ret (.b (ieq a c))
 | .neq => ret (.b (!(ieq a c)))
 | _ => fail
def aY1 : K → Bool
 | .bool => true
 | _ => false
def eqOp : BinOp → Bool
 | .eql => true
 | .neq => true
 | _ => false
def xS : BinOp → Bool
 | .eql => true
 | _ => false
def isSymV : AV → Bool
 | .x _ => true
 | _ => false
def FG (tb : Tab) (o : BinOp) (t : Nat) (x y : AV) : Bool := (eqOp o && (isSymV x || isSymV y)) && (match tb.ty.get t with | some ti => aY1 ti.k | none => false)
def mj (tb : Tab) (o : BinOp) (t : Nat) (cx : Bool) (x y : AV) : M AV :=
 match o, x, y with
 | .shl, .i k a, .i _ (.ofNat c) => ret (dM k (a * 2 ^ (Nat.min c k.bits)))
 | .shr, .i k (.ofNat a), .i _ (.ofNat c) => ret (.i k (.ofNat (Nat.shiftRight a (Nat.min c k.bits))))
 | o, .i k a, .i l c => cond (kEq k l) (ml o k a c) fail
 | .add, .s k a, .s l c => cond (Nat.ble (Nat.add k l) 9223372036854775807) (ret (.s (Nat.add k l) (Nat.add a (Nat.shiftLeft c (Nat.mul 8 k))))) fail
 | .eql, .s k a, .s l c => ret (.b (Nat.beq k l && Nat.beq a c))
 | .neq, .s k a, .s l c => ret (.b (!(Nat.beq k l && Nat.beq a c)))
 | .lss, .s k a, .s l c => ret (.b (nq k a l c))
 | .gtr, .s k a, .s l c => ret (.b (!(nq k a l c || (Nat.beq k l && Nat.beq a c))))
 | .leq, .s k a, .s l c => ret (.b (nq k a l c || (Nat.beq k l && Nat.beq a c)))
 | .geq, .s k a, .s l c => ret (.b (!(nq k a l c)))
 | o, .x a, y => aK (hl tb.hyp (.bin o (.x a) y))
 | o, x, .x c => aK (hl tb.hyp (.bin o x (.x c)))
 | .eql, x, y => bnd (lR tb t cx x y) fun r => ret (.b r)
 | .neq, x, y => bnd (lR tb t cx x y) fun r => ret (.b (!r))
 | _, _, _ => fail

def bin (tb : Tab) (o : BinOp) (t : Nat) (cx : Bool) (x y : AV) : M AV := cond (FG tb o t x y) (bnd (eS tb (.bI x y)) fun r => ret (.b (cond (xS o) r (!r)))) (mj tb o t cx x y)
def kz (tb : Tab) (t : Nat) : Bool := match tb.ty.get t with
 | some ti => (match ti.k with | .int .u8 => true | _ => false)
 | none => false
/- memory -/
def load (tb : Tab) (t : Nat) (x : AV) : M AV := match x with
 | .p v o => bnd (aK (tb.ty.get t)) fun ti => bnd (rd v) fun k =>
  cond (isAgg ti.k) (bnd (aK (k.c.sub o ti.size)) fun c => ret (.ag c.toL)) (cond (isBad ti.k) fail (aK (k.c.get o)))
 | _ => fail
def dK : AV → Option Nat
 | .x a => some a
 | _ => none
def store (tb : Tab) (t : Nat) (x y : AV) : M Unit := match x with
 | .p v o => bnd (aK (tb.ty.get t)) fun ti => bnd (rd v) fun k => cond (Nat.ble k.fr o)
  (match y with
   | .ag l => cond (Nat.beq l.length ti.size && Nat.ble (Nat.add o ti.size) k.c.len && l.all jS) (bnd (aK (k.c.put o (.l l))) fun c => upd v { k with c }) fail
   | y => cond (jS y && Nat.beq ti.size 1) (bnd (aK (k.c.set1 o y)) fun c => upd v { k with c }) fail) fail
 | _ => fail
def iF (tb : Tab) (t : Nat) : Bool := kz tb t && (match tb.ty.get t with | some ti => Nat.beq ti.size 1 | none => false)
def jY (tb : Tab) (t : Nat) (i : AV) (k : aZ) : M AV := match k with
 | .t id _ => cond (iF tb t) (aK (hl tb.hyp (.cW (.x id) i))) fail
 | .b k => bnd (aK (tb.ty.get t)) fun ti => cond (!isAgg ti.k && !isBad ti.k && !k.g) (aK (hl tb.hyp (.tab k.c.toL i))) fail
 | _ => fail
def elts (hy : List (HK × AV)) (x i : AV) (sz : Nat) : Nat → Nat → Option (List AV)
 | _, 0 => some []
 | o, n + 1 => match hl hy (.el x i sz o), elts hy x i sz (Nat.succ o) n with
  | some a, some l => some (a :: l)
  | _, _ => none
def w7 (tb : Tab) (t : Nat) (i : AV) (sz o : Nat) (k : aZ) : M AV := match k with
 | .r id _ s _ => bnd (aK (tb.ty.get t)) fun ti => cond (Nat.beq s sz && !isBad ti.k)
  (cond (isAgg ti.k) (bnd (aK (elts tb.hyp (.x id) i sz o ti.size)) fun l => ret (.ag l)) (aK (hl tb.hyp (.el (.x id) i sz o)))) fail
 | _ => fail
def ke (tb : Tab) (t : Nat) (x : AV) : M AV := match x with
 | .px v i => bnd (rdA v) fun k => jY tb t i k
 | .pr v i sz o => bnd (rdA v) fun k => w7 tb t i sz o k
 | x => load tb t x
def tR (tb : Tab) (t v : Nat) (i y : AV) (sz o : Nat) (k : aZ) : M Unit := fail
def np (tb : Tab) (t v : Nat) (i : AV) (l : List AV) (sz o : Nat) (k : aZ) : M Unit := match k with
 | .r id e' sz' false => bnd (aK (tb.ty.get t)) fun ti => cond (Nat.beq sz sz' && (Nat.beq o 0 && (Nat.beq ti.size sz && (Nat.beq l.length sz && l.all jS))))
  (bnd (aK (hl tb.hyp (.rp (.x id) i l))) fun z => bnd (aK (dK z)) fun a => eE v (.r a e' sz' false)) fail
 | _ => fail
def kT (tb : Tab) (t : Nat) (x y : AV) : M Unit := match x with
 | .pr v i sz o => bnd (rdA v) fun k => match y with
  | .ag l => np tb t v i l sz o k
  | y => tR tb t v i y sz o k
 | .px v i => cond (iF tb t) (bnd (dL v) fun r => bnd (aK (hl tb.hyp (.set (.x r.1) i y))) fun z => bnd (aK (dK z)) fun a => eE v (.t a r.2)) fail
 | x => store tb t x y
def jQ : AV → Option Nat
 | .sy v => some v
 | _ => none
def pe (tb : Tab) : K → Bool
 | .slice e => kz tb e
 | _ => false
def slT (tb : Tab) : K → Bool
 | .slice e => iF tb e
 | _ => false
def mK (tb : Tab) (t v : Nat) (ix : AV) : M AV := bnd (aK (tb.ty.get t)) fun ti => cond (slT tb ti.k) (bnd (dL v) fun r => bnd (aK (hl tb.hyp (.cW (.x r.1) ix))) fun _ => ret (.px v ix)) fail
def qJ : AV → AV → Option Nat
 | .p v 0, .x _ => some v
 | _, _ => none
def arE : K → Option (Nat × Nat)
 | .arr n e => some (n, e)
 | _ => none
def mM (tb : Tab) (t v : Nat) (ix : AV) : M AV := bnd (aK (tb.ty.get t)) fun ti => bnd (aK (arE ti.k)) fun q => bnd (aK (tb.ty.get q.2)) fun te => bnd (rd v) fun k =>
 cond (Nat.beq te.size 1 && !k.g && Nat.beq k.c.len q.1) (bnd (aK (hl tb.hyp (.tab k.c.toL ix))) fun _ => ret (.px v ix)) fail
def xP : K → Bool
 | .str => true
 | _ => false
def gY : K → Option Nat
 | .slice e => some e
 | _ => none
def gX : AV → Option Nat
 | .sr v => some v
 | _ => none
def mL (tb : Tab) (t v : Nat) (ix : AV) : M AV := bnd (aK (tb.ty.get t)) fun ti => bnd (aK (gY ti.k)) fun e => bnd (aK (tb.ty.get e)) fun te => bnd (rdA v) fun k => match k with
 | .r id _ sz _ => cond (Nat.beq te.size sz) (bnd (aK (hl tb.hyp (.el (.x id) ix sz 0))) fun _ => ret (.pr v ix sz 0)) fail
 | _ => fail
def js (tb : Tab) (src dst : Nat) : AV → Option (M AV)
 | .sy v => some (bnd (aK (tb.ty.get src)) fun ts => bnd (aK (tb.ty.get dst)) fun td => cond (slT tb ts.k && xP td.k) (bnd (dL v) fun r => ret (.x r.1)) fail)
 | .x a => match tb.ty.get dst with
  | some td => (match gY td.k with
   | some e => some (bnd (aK (tb.ty.get src)) fun ts => cond (xP ts.k && iF tb e) (bnd (aK (hl tb.hyp (.fit (.x a)))) fun _ => bnd (newE (.t a e)) fun v => ret (.sy v)) fail)
   | none => none)
  | none => none
 | _ => none
def mB (e : Nat) (c : Cells) : eB := ⟨e, c, 0, 0, 0, false, false⟩
def gu (pl : Nat → Option (Nat × Nat)) (f : Operand → AV) (c : List AV) : List (Nat × Operand) → Option (List AV)
 | [] => some c
 | (i, o) :: r => match pl i, cellsOf (f o) with
  | some (off, sz), some l => cond (Nat.beq l.length sz && Nat.ble (Nat.add off sz) c.length) (gu pl f (dj c off l) r) none
  | _, _ => none
def jH : List Fl → Nat → Option Fl
 | [], _ => none
 | a :: r, n => cond (Nat.beq n 0) (some a) (jH r (Nat.sub n 1))
def slc (v off len cap : Nat) (rest : Bool) (sz : Nat) (lo hi : Nat) : Option AV :=
 -- hi ≤ cap, where it is known
 cond (Nat.ble lo hi) (cond rest
  (cond (Nat.ble hi len) (some (.sl v (Nat.add off (Nat.mul lo sz)) (Nat.sub hi lo) (Nat.add cap lo) true)) none)
  (cond (Nat.ble hi cap) (some (.sl v (cond (Nat.beq cap lo) off (Nat.add off (Nat.mul lo sz))) (Nat.sub hi lo) (Nat.sub cap lo) false)) none)) none

def pd (v off cap sz lo hi : Nat) : M AV := bnd (rd v) fun k => cond (k.g && Nat.ble lo hi && Nat.ble 1 k.es && Nat.ble (Nat.mul (Nat.add cap hi) k.es) k.m) (ret (.sl v (Nat.add off (Nat.mul lo sz)) (Nat.sub hi lo) (Nat.add cap lo) true)) fail
def isStr : K → Bool
 | .str => true
 | _ => false
def sl2 (f : Operand → AV) (lo hi : Option Operand) (d : Nat) : Option (Nat × Nat) := match jJ f lo 0, jJ f hi d with
 | some a, some b => some (a, b)
 | _, _ => none
/- maps -/
def mW (tb : Tab) (t : Nat) (k : AV) : List ME → Nat → M (Option (Nat × ME))
 | [], _ => ret none
 | e :: es, i => bnd (eU tb 12 t k e.k) fun r => cond r (ret (some (i, e))) (mW tb t k es (Nat.succ i))
def modL (f : ME → ME) : List ME → Nat → List ME
 | [], _ => []
 | e :: es, 0 => f e :: es
 | e :: es, i + 1 => e :: modL f es i
def Ab : List ME → Nat → List ME
 | [], _ => []
 | _ :: es, 0 => es
 | e :: es, i + 1 => e :: Ab es i
def pW (tb : Tab) (t : Nat) : M AV := bnd (aK (tb.ty.get t)) fun te => aK te.zero
def jt (tb : Tab) (e v : Nat) (i : AV) (sz ts : Nat) (k : aZ) : M AV := match k with
 | .r id e' sz' false => cond (Nat.beq sz sz' && Nat.beq ts sz) (bnd (aK (hl tb.hyp (.rc e (.x id) i))) fun z => bnd (aK (dK z)) fun a => bnd (eE v (.r a e' sz' false)) fun _ => ret (.tu [])) fail
 | _ => fail
def mf (tb : Tab) (t : Nat) (x : AV) : M AV := bnd (aK (tb.ty.get t)) fun ti => match ti.k, x with
 | .slice _, .bO => ret (.tu [])
 | .slice e, .sl v o n _ _ => cond (Nat.beq n 0) (ret (.tu [])) (bnd (aK (tb.ty.get e)) fun te => bnd (rd v) fun k =>
  cond (te.zs && Nat.ble k.fr o && Nat.ble (Nat.add o (Nat.mul n te.size)) k.c.len) (bnd (aK (k.c.put o (jT te.zc n))) fun c => bnd (upd v { k with c := c }) fun _ => ret (.tu [])) fail)
 | .slice e, .tl v i sz => bnd (aK (tb.ty.get e)) fun te => bnd (rdA v) fun k => jt tb e v i sz te.size k
 | _, _ => fail
def tT (v off len cap : Nat) (rest : Bool) (sz lo hi mx : Nat) : Option AV :=
 cond (Nat.ble lo hi && Nat.ble hi mx && Nat.ble mx (cond rest len cap) && (!rest || Nat.ble 1 len)) (some (.sl v (cond (Nat.beq mx lo) off (Nat.add off (Nat.mul lo sz))) (Nat.sub hi lo) (Nat.sub mx lo) false)) none
def hlq : List (HK × AV) → HK → Option AV
 | [], _ => none
 | (a, r) :: l, k => cond (a.same k) (some r) (hlq l k)
def Ce (h : List (HK × AV)) : AV := match hlq h (.bytes []) with
 | some (.x a) => .x a
 | _ => .s 0 0
def slY0 (tb : Tab) (v e : Nat) : M AV := bnd (aK (hlq tb.hyp (.bytes []))) fun z => bnd (aK (dK z)) fun a => bnd (kill v) fun _ => bnd (newE (.t a e)) fun v' => ret (.sy v')
def ed : Option AV → Option AV → Bool
 | none, some (.i _ z) => ieq z 0
 | _, _ => false
def slY (tb : Tab) (e v : Nat) (lo hi : Option AV) : M AV := bnd (aK (tb.ty.get e)) fun _ => bnd (dL v) fun r => cond (ed lo hi) (slY0 tb v r.2)
 (bnd (aK (hl tb.hyp (.len (.x r.1)))) fun n => match lo, hi, n with
   | none, some (.x a), .x b => cond (Nat.beq a b) (ret (.sy v)) fail
   | some (.x a), none, .x b => cond (Nat.beq a b) (ret .es) fail
   | _, _, _ => fail)
def slR (tb : Tab) (e v : Nat) (lo hi : Option AV) : M AV := bnd (aK (tb.ty.get e)) fun te => bnd (rdA v) fun k => match k, lo, hi with
 | .r id e' sz false, none, some h => cond (Nat.beq te.size sz) (bnd (aK (hl tb.hyp (.rt (.x id) h sz))) fun z => bnd (aK (dK z)) fun a => bnd (kill v) fun _ => bnd (newE (.r a e' sz false)) fun v' => ret (.sr v')) fail
 | .r id _ sz false, some h, none => cond (Nat.beq te.size sz) (bnd (aK (hl tb.hyp (.rt (.x id) h sz))) fun _ => ret (.tl v h sz)) fail
 | _, _, _ => fail
def simple (tb : Tab) (f : Operand → AV) (o : Op) : M AV := match o with
 | .move x | .assign x => ret (f x)
 | .pick c a d => match f c with
  | .b true => ret (f a)
  | .b false => ret (f d)
  | .x i => bnd (eS tb (.bI (.x i) (.b true))) fun r => cond r (ret (f a)) (ret (f d))
  | _ => fail
 | .alloc e => bnd (aK (tb.ty.get e)) fun ti => match ti.zero with
  | none => fail
  | some _ => cond ti.zs (bnd (new (mB e ti.zc)) fun v => ret (.p v 0)) fail
 | .box e x => bnd (aK (cellsOf (f x))) fun l => cond (l.all jS) (bnd (new (mB e (.l l))) fun v => ret (.p v 0)) fail
 | .build t ps => bnd (aK (tb.ty.get t)) fun ti => match ti.k with
  | .struct => bnd (aK (gu (fun i => (jH ti.fs i).map fun x => (x.off, x.sz)) f ti.zc.toL ps.toList)) fun l => cond ti.zero.isSome (ret (.ag l)) fail
  | .arr _ e => bnd (aK (tb.ty.get e)) fun te => bnd (aK (gu (fun i => some (Nat.mul i te.size, te.size)) f ti.zc.toL ps.toList)) fun l => cond ti.zero.isSome (ret (.ag l)) fail
  | _ => fail
 | .buildSlice t n ps => bnd (aK (tb.ty.get t)) fun ti => match ti.k with
  | .slice e => bnd (aK (tb.ty.get e)) fun te => cond (Nat.ble (Nat.mul n te.size) 16777216)
   (bnd (aK (gu (fun i => some (Nat.mul i te.size, te.size)) f (jT te.zc n).toL ps.toList)) fun l =>
     cond (l.all jS && te.zs) (bnd (new (mB e (toCells (mH te.k) l))) fun v => ret (.sl v 0 n n false)) fail) fail
  | _ => fail
 | .load t a => ke tb t (f a)
 | .store t a x => bnd (kT tb t (f a) (f x)) fun _ => ret .und
 | .nilCheck x => match f x with
  | .p v o => ret (.p v o)
  | .px v i => ret (.px v i)
  | .pr v i s o => ret (.pr v i s o)
  | .h t => ret (.h t)
  | .cU t v => ret (.cU t v)
  | .fn g a c => ret (.fn g a c)
  | .yl n => ret (.yl n)
  | _ => fail
 | .binOp o t x y _ => bin tb o t (isC x || isC y) (f x) (f y)
 | .unOp o _ x => match o, f x with
  | .not, .b v => ret (.b (!v))
  | .neg, .i k v => ret (dM k (-v))
  | o, .x a => aK (hl tb.hyp (.un o (.x a)))
  | _, _ => fail
 | .convert src dst x => match js tb src dst (f x) with
  | some m => m
  | none => bnd (aK (tb.ty.get src)) fun ts => bnd (aK (tb.ty.get dst)) fun td => cond (isBad ts.k) fail <| match td.k, f x with
   | .int k, .i _ n => ret (dM k n)
   | .int _, .x a => aK (hl tb.hyp (.conv dst (.x a)))
   | .str, .x a => aK (hl tb.hyp (.conv dst (.x a)))
   | .str, .s k n => ret (.s k n)
   | .str, .bO => cond (pe tb ts.k) (ret (Ce tb.hyp)) fail
   | .str, .es => cond (pe tb ts.k) (ret (.s 0 0)) fail
   | .str, .sl v o n _ _ => cond (pe tb ts.k) (bnd (rd v) fun k => bnd (aK (k.c.sub o n)) fun c => match c with
    | .y l m => ret (.s l m)
    | .l vs => match iI vs with
     | some r => ret (.s r.1 r.2)
     | none => aK (hl tb.hyp (.bytes vs))) fail
   | .slice e, .sl v o n c r => cond (kz tb e && Nat.beq src dst && pe tb ts.k && Nat.ble 1 n) (bnd (rd v) fun k => cond (Nat.beq k.e e && !k.g && !k.st && Nat.beq k.fr 0) (bnd (upd v { k with st := true }) fun _ => ret (.sl v o n c r)) fail) fail
   | .slice e, .s k n => cond (kz tb e && isStr ts.k) (bnd (new ⟨e, .y k n, k, 1, 0, true, true⟩) fun v => ret (.sl v 0 k 0 true)) fail
   | .lq, .p v o => match ts.k with
    | .ptr e => bnd (aK (tb.ty.get e)) fun te => bnd (rd v) fun k => cond (Nat.beq te.size 0 || Nat.ble k.c.len o) fail (ret (.p v o))
    | _ => fail
   | .ptr e, .p v o => match ts.k with
    | .lq => bnd (aK (tb.ty.get e)) fun te => bnd (rd v) fun k => cond (Nat.beq k.e e && Nat.beq o 0 && !k.g && Nat.ble 1 te.size && Nat.ble te.size k.c.len) (ret (.p v o)) fail
    | _ => fail
   | _, _ => fail
 | .makeInterface t x => bnd (aK (tb.ty.get t)) fun ti => match ti.k with
  | .iface _ => fail
  | .bad => fail
  | _ => ret (.cU t (f x))
 | .makeFunc fn first cap => match fn with
  | .func g => ret (.fn g (first.toList.map f) (cap.toList.map f))
  | _ => fail
 | .slice t x lo hi mx => match mx with
  | some mx => bnd (aK (tb.ty.get t)) fun ti => bnd (aK (dy (f mx))) fun mx => match ti.k, f x with
   | .slice e, .sl v o n c r => bnd (aK (sl2 f lo hi n)) fun p => bnd (aK (tb.ty.get e)) fun te => cond hi.isSome (aK (tT v o n c r te.size p.1 p.2 mx)) fail
   | .slice e, .sr v => bnd (aK (sl2 f lo hi 0)) fun p => bnd (aK (tb.ty.get e)) fun _ => cond (hi.isSome && (Nat.beq p.1 0 && (Nat.beq p.2 0 && Nat.beq mx 0))) (ret (.sl v 0 0 0 false)) fail
   | .slice e, .es => bnd (aK (sl2 f lo hi 0)) fun p => bnd (aK (tb.ty.get e)) fun _ => cond (hi.isSome && (Nat.beq p.1 0 && (Nat.beq p.2 0 && Nat.beq mx 0))) (ret .es) fail
   | _, _ => fail
  | none => bnd (aK (tb.ty.get t)) fun ti => match ti.k, f x with
   | .str, .s k n => match sl2 f lo hi k with
    | some p => cond (Nat.ble p.1 p.2 && Nat.ble p.2 k) (ret (.s (Nat.sub p.2 p.1) (low (Nat.shiftRight n (Nat.mul 8 p.1)) (Nat.sub p.2 p.1)))) fail
    | none => aK (hl tb.hyp (.sub (.s k n) (lo.map f) (hi.map f)))
   | .str, .x a => aK (hl tb.hyp (.sub (.x a) (lo.map f) (hi.map f)))
   | .slice e, .sl v o n c r => bnd (aK (sl2 f lo hi n)) fun p => bnd (aK (tb.ty.get e)) fun te => cond (r && Nat.blt n p.2) (pd v o c te.size p.1 p.2) (aK (slc v o n c r te.size p.1 p.2))
   | .slice e, .bO => bnd (aK (sl2 f lo hi 0)) fun p => bnd (aK (tb.ty.get e)) fun _ => cond (Nat.beq p.1 0 && Nat.beq p.2 0) (ret .bO) fail
   | .slice e, .es => bnd (aK (sl2 f lo hi 0)) fun p => bnd (aK (tb.ty.get e)) fun _ => cond (Nat.beq p.1 0 && Nat.beq p.2 0) (ret .es) fail
   | .slice e, .sy v => slY tb e v (lo.map f) (hi.map f)
   | .slice e, .sr v => slR tb e v (lo.map f) (hi.map f)
   | .arr n e, .p v o => bnd (aK (sl2 f lo hi n)) fun p => bnd (aK (tb.ty.get e)) fun te => aK (slc v o n n false te.size p.1 p.2)
   | _, _ => fail
 | .fieldAddr t x i => bnd (aK (tb.ty.get t)) fun ti => bnd (aK (jH ti.fs i)) fun fl => match f x with
  | .p v o => cond (Nat.beq fl.sz 0) fail (ret (.p v (Nat.add o fl.off)))
  | .pr v j s o => cond (Nat.beq fl.sz 0) fail (ret (.pr v j s (Nat.add o fl.off)))
  | _ => fail
 | .field t x i => bnd (aK (tb.ty.get t)) fun ti => bnd (aK (jH ti.fs i)) fun fl => match f x with
  | .ag l => aK (part l fl)
  | _ => fail
 | .indexAddr t x ix => match jQ (f x) with
  | some v => mK tb t v (f ix)
  | none => match gX (f x) with
   | some v => mL tb t v (f ix)
   | none => match qJ (f x) (f ix) with
   | some v => mM tb t v (f ix)
   | none => bnd (aK (tb.ty.get t)) fun ti => match ti.k, f x, dy (f ix) with
   | .arr n e, .p v o, some i => cond (Nat.blt i n) (bnd (aK (tb.ty.get e)) fun te => ret (.p v (Nat.add o (Nat.mul i te.size)))) fail
   | .slice e, .sl v o n _ _, some i => cond (Nat.blt i n) (bnd (aK (tb.ty.get e)) fun te => ret (.p v (Nat.add o (Nat.mul i te.size)))) fail
   | _, _, _ => fail
 | .index t x ix => bnd (aK (tb.ty.get t)) fun ti => match ti.k, f x, dy (f ix) with
  | .str, .s k n, some i => cond (Nat.blt i k) (ret (.i .u8 (.ofNat (byteAt n i)))) fail
  | .str, .s k n, none => aK (hl tb.hyp (.idx (.s k n) (f ix)))
  | .str, .x a, _ => aK (hl tb.hyp (.idx (.x a) (f ix)))
  | .arr n e, .ag l, some i => cond (Nat.blt i n) (bnd (aK (tb.ty.get e)) fun te => aK (part l ⟨Nat.mul i te.size, e, te.size, isAgg te.k, isBad te.k, true⟩)) fail
  | .arr n e, .ag l, none => bnd (aK (tb.ty.get e)) fun te => cond (Nat.beq te.size 1 && !isAgg te.k && !isBad te.k && Nat.beq l.length n) (aK (hl tb.hyp (.tab l (f ix)))) fail
  | _, _, _ => fail
 | .typeAssert x _ t ok => match f x with
  | .cU d v => bnd (aK (tb.ty.get t)) fun ti => cond (isBad ti.k) fail <| cond (isIf ti.k)
   (bnd (aK (impl tb.imp t d)) fun r => cond r (ret (cond ok (.tu [.cU d v, .b true]) (.cU d v))) (cond ok (bnd (aK ti.zero) fun z => ret (.tu [z, .b false])) fail))
   (cond (Nat.beq d t) (ret (cond ok (.tu [v, .b true]) v)) (cond ok (bnd (aK ti.zero) fun z => ret (.tu [z, .b false])) fail))
  | .ni => cond ok (bnd (aK (tb.ty.get t)) fun ti => cond (isBad ti.k) fail (bnd (aK ti.zero) fun z => ret (.tu [z, .b false]))) fail
  | _ => fail
 | .extract x k => match f x with
  | .tu l => aK (kf l k)
  | _ => fail
 | _ => fail

def hU : AV → Option Nat
 | .s k _ => some k
 | .bO => some 0
 | .es => some 0
 | .sl _ _ n _ _ => some n
 | _ => none
def src (sz : Nat) (x : AV) : M Cells := match x with
 | .s k n => cond (Nat.beq sz 1) (ret (.y k n)) fail
 | .bO => ret (.l [])
 | .es => ret (.l [])
 | .sl v o n _ _ => bnd (rd v) fun k => aK (k.c.sub o (Nat.mul n sz))
 | _ => fail
def grow (e sz : Nat) (old d : Cells) (n : Nat) : M AV := bnd (new ⟨e, old.app d, Nat.mul n sz, sz, 0, false, true⟩) fun v => ret (.sl v 0 n 0 true)
def rQ : Cells → Cells
 | .y _ _ => .y 0 0
 | .l _ => .l []
def big (bytes n : Nat) : Bool := Nat.blt 140737488355328 (Nat.mul bytes n) || Nat.blt 140737488355328 n
def jw (e sz bytes : Nat) (s : AV) (n : Nat) (d : Cells) : M AV := cond (Nat.beq sz 0) fail (match s with
 | .bO => cond (Nat.beq n 0) (ret .bO) (cond (big bytes n) fail (grow e sz (rQ d) d n))
 | .sl v o len cap r => cond (Nat.beq n 0) (ret (.sl v o len cap r)) <| bnd (rd v) fun k =>
  let need := Nat.add len n
  let at_ := Nat.add o (Nat.mul len sz)
  cond (big bytes need) fail <|
  cond r
   (cond (k.g && Nat.beq k.es sz && Nat.beq o (Nat.mul cap sz) && Nat.ble k.fr at_)
          (cond (Nat.ble (Nat.mul (Nat.add cap need) sz) k.m)
            (bnd (aK (k.c.put at_ d)) fun c => bnd (upd v { k with c }) fun _ => ret (.sl v o need cap true))
            (bnd (aK (k.c.sub o (Nat.mul len sz))) fun old => bnd (kill v) fun _ => bnd (new ⟨k.e, old.app d, Nat.mul need sz, sz, Nat.sub k.fr o, k.st, true⟩) fun v' => cond (Nat.beq k.e e) (ret (.sl v' 0 need 0 true)) fail))
          fail)
   (cond (Nat.ble need cap)
          (cond (Nat.ble k.fr at_ && Nat.ble (Nat.add at_ (Nat.mul n sz)) k.c.len && !k.g) (bnd (aK (k.c.put at_ d)) fun c => bnd (upd v { k with c }) fun _ => ret (.sl v o need cap false)) fail)
          (bnd (aK (k.c.sub o (Nat.mul len sz))) fun old => grow e sz old d need))
 | _ => fail)
def xH (tb : Tab) (k : K) (x : AV) : M AV := match k, x with
 | .str, .s k _ => ret (.i .i64 (.ofNat k))
 | .str, .x a => aK (hl tb.hyp (.len (.x a)))
 | .slice _, .bO => ret (.i .i64 (.ofNat 0))
 | .slice _, .sl _ _ n _ _ => ret (.i .i64 (.ofNat n))
 | .slice _, .es => ret (.i .i64 (.ofNat 0))
 | .slice _, .sy v => bnd (dL v) fun r => aK (hl tb.hyp (.len (.x r.1)))
 | .slice _, .x a => aK (hl tb.hyp (.slen (.x a)))
 | .slice _, .sr v => bnd (rdA v) fun k => (match k with | .r id _ sz _ => aK (hl tb.hyp (.rl (.x id) sz)) | _ => fail)
 | .arr n _, _ => ret (.i .i64 (.ofNat n))
 | _, _ => fail
def Am (k : K) (x : AV) : M AV := match k, x with
 | .slice _, .bO => ret (.i .i64 (.ofNat 0))
 | .slice _, .sl _ _ _ c false => ret (.i .i64 (.ofNat c))
 | _, _ => fail
def isInt : K → Bool
 | .int _ => true
 | _ => false
def ry (tb : Tab) (st xt : Nat) (s x : AV) : M AV := bnd (aK (tb.ty.get st)) fun ti => match ti.k with
 | .slice e => bnd (aK (tb.ty.get e)) fun te => bnd (aK (tb.ty.get xt)) fun tx => cond (isBad tx.k || !te.zs) fail <|
  cond (isInt tx.k) (bnd (aK (dy x)) fun n => cond (big te.bytes n) fail (jw e te.size te.bytes s n (jT te.zc n)))
   (bnd (aK (hU x)) fun n => bnd (src te.size x) fun d => jw e te.size te.bytes s n d)
 | _ => fail
def lZ (tb : Tab) (r1 : Nat) (x : AV) : M AV := match x with
 | .x a => aK (hl tb.hyp (.bin .add (.x r1) (.x a)))
 | .sy w => bnd (dL w) fun q => aK (hl tb.hyp (.bin .add (.x r1) (.x q.1)))
 | x => bnd (aK (hU x)) fun _ => bnd (src 1 x) fun d => aK (hl tb.hyp (.app (.x r1) d.toL))
def Ay (tb : Tab) (st xt v : Nat) (x : AV) : M AV := bnd (aK (tb.ty.get st)) fun ti => bnd (aK (gY ti.k)) fun e => bnd (aK (tb.ty.get e)) fun te => bnd (aK (tb.ty.get xt)) fun tx =>
 cond (iF tb e && te.zs && Nat.beq te.bytes 1 && !(isInt tx.k) && !(isBad tx.k)) (bnd (dL v) fun r => cond (Nat.beq r.2 e) (bnd (lZ tb r.1 x) fun z => bnd (aK (dK z)) fun a => bnd (aK (hl tb.hyp (.fit (.x a)))) fun _ =>
  bnd (kill v) fun _ => bnd (newE (.t a e)) fun v' => ret (.sy v')) fail) fail
def A0 (tb : Tab) (st xt a : Nat) : M AV := bnd (aK (tb.ty.get st)) fun ti => bnd (aK (gY ti.k)) fun e => bnd (aK (tb.ty.get e)) fun te => bnd (aK (tb.ty.get xt)) fun tx =>
 cond (iF tb e && te.zs && Nat.beq te.bytes 1 && !(isInt tx.k) && !(isBad tx.k)) (bnd (aK (hl tb.hyp (.cW (.x a) (.i .i64 (.ofNat 0))))) fun _ => bnd (aK (hl tb.hyp (.fit (.x a)))) fun _ =>
  bnd (newE (.t a e)) fun v' => ret (.sy v')) fail
def kO : Option AV → Option Nat
 | some (.x q) => some q
 | _ => none
def we (h : List (HK × AV)) : AV → AV → Option Nat
 | .bO, .x a => some a
 | .bO, .s k n => cond (Nat.beq k 0) none (kO (hl h (.bin .add (.s k n) (.s 0 0))))
 | _, _ => none
def xQ : AV → Bool
 | .sl .. => true
 | _ => false
def jc : AV → Bool
 | .bO => true
 | _ => false
def slTt (tb : Tab) (st : Nat) : Bool := match tb.ty.get st with
 | some ti => slT tb ti.k
 | none => false
def wj (tb : Tab) (st : Nat) (s x : AV) : Option Nat := cond (jc s && xQ x && slTt tb st) (kO (hlq tb.hyp (.bytes []))) none
def m7 (tb : Tab) (st xt e0 : Nat) (x : AV) : M AV := bnd (aK (tb.ty.get st)) fun ti => bnd (aK (gY ti.k)) fun e => bnd (aK (tb.ty.get e)) fun te => bnd (aK (tb.ty.get xt)) fun tx =>
 cond (iF tb e && te.zs && Nat.beq te.bytes 1 && !(isInt tx.k) && !(isBad tx.k)) (bnd (lZ tb e0 x) fun z => bnd (aK (dK z)) fun a => bnd (aK (hl tb.hyp (.cW (.x a) (.i .i64 (.ofNat 0))))) fun _ => bnd (aK (hl tb.hyp (.fit (.x a)))) fun _ =>
  bnd (newE (.t a e)) fun v' => ret (.sy v')) fail
def mz (tb : Tab) (st xt v : Nat) (x : AV) : M AV := bnd (aK (tb.ty.get st)) fun ti => bnd (aK (gY ti.k)) fun e => bnd (aK (tb.ty.get e)) fun te => bnd (aK (tb.ty.get xt)) fun tx =>
 cond (te.zs && !(isInt tx.k) && !(isBad tx.k)) (bnd (rdA v) fun k => match k with
  | .r id e' sz false => cond (Nat.beq e' e && Nat.beq te.size sz) (bnd (aK (hU x)) fun _ => bnd (src sz x) fun d => bnd (aK (hl tb.hyp (.ra (.x id) d.toL))) fun z => bnd (aK (dK z)) fun a => bnd (aK (hl tb.hyp (.rf (.x a) sz te.bytes))) fun _ =>
       bnd (kill v) fun _ => bnd (newE (.r a e sz false)) fun v' => ret (.sr v')) fail
  | _ => fail) fail
def wi (tb : Tab) (s x : AV) : Option Nat := cond (jc s && xQ x) (kO (hlq tb.hyp .rn)) none
def my (tb : Tab) (st xt e0 : Nat) (x : AV) : M AV := bnd (aK (tb.ty.get st)) fun ti => bnd (aK (gY ti.k)) fun e => bnd (aK (tb.ty.get e)) fun te => bnd (aK (tb.ty.get xt)) fun tx =>
 cond (te.zs && !(isInt tx.k) && !(isBad tx.k) && Nat.ble 1 te.size) (bnd (aK (hU x)) fun n => cond (Nat.ble 1 n) (bnd (src te.size x) fun d => bnd (aK (hl tb.hyp (.ra (.x e0) d.toL))) fun z => bnd (aK (dK z)) fun a => bnd (aK (hl tb.hyp (.rf (.x a) te.size te.bytes))) fun _ =>
  bnd (newE (.r a e te.size false)) fun v' => ret (.sr v')) fail) fail
def mw (tb : Tab) (st xt v w : Nat) : M AV := fail
def wh (tb : Tab) (s x : AV) : Option (Nat × Nat) := cond (jc s) (match gX x, kO (hlq tb.hyp .rn) with | some w, some e0 => some (e0, w) | _, _ => none) none
def mv (tb : Tab) (st xt e0 w : Nat) : M AV := fail
def A1 (tb : Tab) (st xt a : Nat) : M AV := fail
def intTt (tb : Tab) (st : Nat) : Bool := match tb.ty.get st with
 | some ti => isInt ti.k
 | none => false
def Az (tb : Tab) (st xt a : Nat) : M AV := cond (intTt tb xt) (A1 tb st xt a) (A0 tb st xt a)
def zp : AV → AV → Option Nat
 | .sl _ _ n c false, .sr w => cond (Nat.beq n c) (some w) none
 | _, _ => none
def sl0 : AV → AV
 | .sl v o n c r => cond (Nat.beq n 0) .es (.sl v o n c r)
 | x => x
def mu (tb : Tab) (st xt : Nat) (s : AV) (w : Nat) : M AV := bnd (aK (tb.ty.get st)) fun ti => bnd (aK (gY ti.k)) fun e => bnd (aK (tb.ty.get e)) fun te => bnd (aK (tb.ty.get xt)) fun tx =>
 cond (te.zs && !(isInt tx.k) && !(isBad tx.k) && Nat.ble 1 te.size) (bnd (rdA w) fun j => match j with
  | .r jd _ sz2 _ => cond (Nat.beq sz2 te.size) (bnd (aK (hl tb.hyp (.rl (.x jd) sz2))) fun m => bnd (aK (hl tb.hyp (.bin .gtr m (.i .i64 (.ofNat 0))))) fun g => match g with
   | .b true => bnd (aK (hU s)) fun n => bnd (src te.size (sl0 s)) fun d => bnd (aK (hl tb.hyp .rn)) fun y0 => bnd (aK (dK y0)) fun e0 => bnd (aK (hl tb.hyp (.ra (.x e0) d.toL))) fun z1 => bnd (aK (dK z1)) fun a1 =>
    bnd (aK (hl tb.hyp (.rr (.x a1) (.x jd)))) fun z => bnd (aK (dK z)) fun a => bnd (aK (hl tb.hyp (.rf (.x a) te.size te.bytes))) fun _ => bnd (newE (.r a e te.size false)) fun v' => ret (.sr v')
   | _ => fail) fail
  | _ => fail) fail
def pH (tb : Tab) (st xt : Nat) (s x : AV) : M AV := match jQ s with
 | some v => Ay tb st xt v x
 | none => match we tb.hyp s x with
  | some a => Az tb st xt a
  | none => match wj tb st s x with
   | some e0 => m7 tb st xt e0 x
   | none => match gX s with
    | some v => (match gX x with
          | some w => mw tb st xt v w
          | none => mz tb st xt v x)
    | none => match wi tb s x with
          | some e0 => my tb st xt e0 x
          | none => match wh tb s x with
           | some q => mv tb st xt q.1 q.2
           | none => match zp s x with
            | some w => mu tb st xt s w
            | none => ry tb st xt s x
def Af (tb : Tab) (st : Nat) (d x : AV) : M AV := fail
def detA : AV → Bool
 | .x _ => true
 | .i _ _ => true
 | _ => false
def Bf : AV → Bool
 | .i _ (.ofNat n) => Nat.beq n 0
 | _ => false
def pxN : AV → Option (Nat × AV)
 | .px v i => some (v, i)
 | _ => none
def ptE : K → Option Nat
 | .ptr e => some e
 | _ => none
def E8 (tb : Tab) (v : Nat) : M AV := bnd (dL v) fun r => bnd (aK (hl tb.hyp (.cW (.x r.1) (.i .i64 (.ofNat 0))))) fun _ => ret (.px v (.i .i64 (.ofNat 0)))
def Bk (tb : Tab) (pt v : Nat) (i nn : AV) : M AV := cond (Bf i) (bnd (aK (tb.ty.get pt)) fun tp => bnd (aK (ptE tp.k)) fun e => cond (iF tb e) (bnd (dL v) fun r => cond (iF tb r.2)
 (bnd (aK (hl tb.hyp (.len (.x r.1)))) fun a => cond (eu 8 a nn && detA nn) (bnd (aK (hl tb.hyp (.fit (.x r.1)))) fun _ => bnd (aK (hl tb.hyp (.cW (.x r.1) (.i .i64 (.ofNat 0))))) fun _ => bnd (kill v) fun _ => ret (.x r.1)) fail) fail) fail) fail
def Ad (x : AV) : M AV := match x with
 | .bO => ret .bg
 | .sl v o _ c false => cond (Nat.beq c 0) fail (ret (.p v o))
 | .sl v o n c true => cond (Nat.beq n 0) (bnd (rd v) fun k => cond (k.g && Nat.blt (Nat.mul c k.es) k.m) (ret (.p v o)) fail) (ret (.p v o))
 | _ => fail
def tJ (tb : Tab) (pt : Nat) (x n : AV) : M AV := match x, dy n with
 | .bg, some 0 => ret (.s 0 0)
 | .p v o, some n => cond (Nat.beq n 0) (ret (.s 0 0)) (bnd (aK (tb.ty.get pt)) fun tp => match tp.k with
  | .ptr e => bnd (rd v) fun k => bnd (aK (tb.ty.get k.e)) fun te => cond (kz tb e && mH te.k && Nat.beq te.size 1 && !k.st && Nat.ble n 140737488355328) (bnd (aK (k.c.sub o n)) fun c => match c with
   | .y l m => bnd (upd v { k with fr := max k.fr (Nat.add o n) }) fun _ => ret (.s l m)
   | .l vs => bnd (aK (iI vs)) fun r => bnd (upd v { k with fr := max k.fr (Nat.add o n) }) fun _ => ret (.s r.1 r.2)) fail
  | _ => fail)
 | _, _ => fail
def Ac (tb : Tab) (x : AV) : M AV := match jQ x with
 | some v => E8 tb v
 | none => Ad x
def tI (tb : Tab) (pt : Nat) (x n : AV) : M AV := match pxN x with
 | some p => Bk tb pt p.1 p.2 n
 | none => tJ tb pt x n
def max2 (x y : AV) : Option AV := match x, y with
 | .i k a, .i _ c => some (.i k (cond (ilt a c) c a))
 | _, _ => none
def min2 (x y : AV) : Option AV := match x, y with
 | .i k a, .i _ c => some (.i k (cond (ilt c a) c a))
 | _, _ => none
def mm (tb : Tab) (mx : Bool) (x y : AV) : Option AV := match x, y with
 | .x a, y => hl tb.hyp (.mm mx (.x a) y)
 | x, .x c => hl tb.hyp (.mm mx x (.x c))
 | x, y => cond mx (max2 x y) (min2 x y)
def ox (f : AV → AV → Option AV) : AV → List AV → Option AV
 | x, [] => some x
 | x, y :: l => match f x y with
  | some z => ox f z l
  | none => none
def builtin (tb : Tab) (bi : Builtin) (ts : List Nat) (args : List AV) : M AV := match bi, ts, args with
 | .len, t :: _, [x] => bnd (aK (tb.ty.get t)) fun ti => xH tb ti.k x
 | .cap, t :: _, [x] => bnd (aK (tb.ty.get t)) fun ti => Am ti.k x
 | .max, _, x :: l => aK (ox (mm tb true) x l)
 | .min, _, x :: l => aK (ox (mm tb false) x l)
 | .append, st :: xt :: _, [s, x] => pH tb st xt s x
 | .copy, st :: _, [d, x] => Af tb st d x
 | .clear, t :: _, [x] => mf tb t x
 | .unsafeSliceData, _, [x] => Ac tb x
 | .unsafeString, pt :: _, [x, n] => tI tb pt x n
 | _, _, _ => fail

/- functions without a body, by a number -/
def aO5 : Nat → Nat → Nat → Nat → Option Nat
 | 0, _, _, _ => none
 | f + 1, n, c, j => cond (Nat.beq (Nat.mod n 256) c) (some j) (aO5 f (Nat.shiftRight n 8) c (Nat.succ j))
def bytesN (x : AV) : M (Nat × Nat) := match x with
 | .s k n => ret (k, n)
 | .bO => ret (0, 0)
 | .sl v o n _ _ => bnd (rd v) fun k => bnd (aK (k.c.sub o n)) fun c => match c with
  | .y l m => ret (l, m)
  | .l vs => aK (iI vs)
 | _ => fail
def FC : Nat → Nat → Nat → Nat
 | 0, _, _ => 0
 | f + 1, n, c => cond (Nat.beq (Nat.mod n 256) c) (Nat.succ (FC f (Nat.shiftRight n 8) c)) (FC f (Nat.shiftRight n 8) c)
def iV : List (Nat × Nat) → Nat → Option Nat
 | [], _ => none
 | (a, r) :: l, x => cond (Nat.beq a x) (some r) (iV l x)
/- reflectlite's Value, rtype, Type -/
def rvL : List AV → Option (Nat × Nat × Nat × Nat)
 | [.h t, .p b o, .i .u64 (.ofNat f)] => some (t, b, o, f)
 | _ => none
def rv : AV → Option (Nat × Nat × Nat × Nat)
 | .ag l => rvL l
 | _ => none
def rhL : List AV → Option Nat
 | [.h t] => some t
 | _ => none
def rh : AV → Option Nat
 | .ag l => rhL l
 | _ => none
def rti : AV → Option Nat
 | .cU _ v => rh v
 | _ => none
def x7 (tb : Tab) (x : AV) : M AV := match x with
 | .cU t v => bnd (aK (iV tb.kd t)) fun k => bnd (aK (cellsOf v)) fun l => cond (l.all jS) (bnd (new (mB t (.l l))) fun b => ret (.ag [.h t, .p b 0, .i .u64 (.ofNat (Nat.add k 128))])) fail
 | _ => fail
def x8 (tb : Tab) (x : AV) : M AV := bnd (aK (rv x)) fun r => cond (Nat.beq r.2.2.2 0) fail (ret (.cU tb.rty (.ag [.h r.1])))
def gD : AV → M AV
 | .bg => ret (.b true)
 | .p _ _ => ret (.b false)
 | _ => fail
def x9 (tb : Tab) (x : AV) : M AV := bnd (aK (rv x)) fun r => bnd (aK (iV tb.el r.1)) fun _ => cond (Nat.beq (Nat.mod r.2.2.2 32) 22) (bnd (load tb r.1 (.p r.2.1 r.2.2.1)) gD) fail
def x10 (tb : Tab) (x : AV) : M AV := match x with
 | .h t => bnd (aK (iV tb.kd t)) fun k => ret (.i .u8 (.ofNat k))
 | _ => fail
def x11 (tb : Tab) (x : AV) : M AV := bnd (aK (rh x)) fun t => bnd (aK (iV tb.el t)) fun e => ret (.cU tb.rty (.ag [.h e]))
def x12 (tb : Tab) (x y : AV) : M AV := bnd (aK (rh x)) fun t => bnd (aK (rti y)) fun u => bnd (aK (impl tb.im2 u t)) fun r => ret (.b r)
def x13 (tb : Tab) (x y : AV) : M AV := bnd (aK (rh x)) fun t => bnd (aK (rti y)) fun u => bnd (aK (impl tb.fB u t)) fun r => ret (.b r)
def fu (tb : Tab) (t : Nat) : AV → M AV
 | .p b o => bnd (aK (iV tb.el t)) fun e => bnd (aK (iV tb.kd e)) fun k => ret (.ag [.h e, .p b o, .i .u64 (.ofNat (Nat.add k 384))])
 | _ => fail
def x14 (tb : Tab) (x : AV) : M AV := bnd (aK (rv x)) fun r => bnd (aK (iV tb.el r.1)) fun _ => cond (Nat.beq (Nat.mod r.2.2.2 32) 22) (bnd (load tb r.1 (.p r.2.1 r.2.2.1)) (fu tb r.1)) fail
def x15 (tb : Tab) (x y : AV) : M AV := bnd (aK (rv x)) fun r => bnd (aK (rv y)) fun q => bnd (aK (iV tb.kd r.1)) fun _ => cond (Nat.beq r.1 q.1 && (Nat.beq (Nat.mod (Nat.div r.2.2.2 256) 2) 1 && !(Nat.beq q.2.2.2 0)))
 (bnd (load tb q.1 (.p q.2.1 q.2.2.1)) fun v => bnd (store tb r.1 (.p r.2.1 r.2.2.1) v) fun _ => ret (.tu [])) fail
def byQ (f : Nat → AV) (y : AV) : M AV := match y with
 | .i .u8 (.ofNat c) => cond (Nat.blt c 256) (ret (f c)) fail
 | _ => fail
def idxAV : Option Nat → AV
 | some j => .i .i64 (.ofNat j)
 | none => .i .i64 (-1)
def x3 (x y : AV) : M AV := match x with
 | .s k n => byQ (fun c => idxAV (aO5 k n c 0)) y
 | _ => fail
def x4 (x y : AV) : M AV := match x with
 | .s k n => byQ (fun c => .i .i64 (.ofNat (FC k n c))) y
 | _ => fail
def ext (tb : Tab) (e : Nat) (args : List AV) : M AV := match e, args with
 | 1, [x] => ret x                                            -- abi.NoEscape
 | 2, [.i .i64 (.ofNat n)] => cond (Nat.ble n 140737488355328) (bnd (new ⟨tb.u8, .y 0 0, n, 1, 0, false, true⟩) fun v => ret (.sl v 0 n 0 true)) fail
 | 3, [x, y] => x3 x y     -- bytealg.IndexByteString
 | 4, [x, y] => x4 x y     -- bytealg.CountString
 | 5, [x] => match x with     -- reflectlite.TypeOf
  | .cU t _ => ret (.cU tb.rty (.ag [.h t]))
  | _ => fail
 | 6, [.ag [.h t]] => bnd (aK (tb.ty.get t)) fun ti => ret (.b ti.cmp)   -- rtype.Comparable
 | 7, [x] => x7 tb x       -- reflectlite.ValueOf
 | 8, [x] => x8 tb x       -- Value.Type
 | 9, [x] => x9 tb x       -- Value.IsNil
 | 10, [x] => x10 tb x     -- abi.Type.Kind
 | 11, [x] => x11 tb x     -- rtype.Elem
 | 12, [x, y] => x12 tb x y     -- rtype.Implements
 | 13, [x, y] => x13 tb x y     -- rtype.AssignableTo
 | 14, [x] => x14 tb x     -- Value.Elem
 | 15, [x, y] => x15 tb x y     -- Value.Set
 | _, _ => fail

structure Rec where
 idx : Nat
 acc : Nat
 wr : Nat
def clash (x y : Rec) : Bool := !(Nat.beq (Nat.lor (Nat.land x.wr y.acc) (Nat.land y.wr x.acc)) 0)
def r7 : List Rec → Bool
 | [] => false
 | x :: l => l.any (clash x) || r7 l
def ef (e : Edge) : Bool := match e.ground with
 | .textOnly _ => false
 | .gcOnly _ => false
 | _ => true
def gi (t : T Nat) (i : Nat) : Nat := match t.get i with
 | some m => m
 | none => 0
def r8 (t : T Nat) : List Edge → Nat → Nat
 | [], s => s
 | e :: l, s => r8 t l (cond (ef e) (Nat.lor (Nat.lor s (bit e.on)) (gi t e.on)) s)
def jK : List Oper → Nat → T Nat → T Nat
 | [], _, t => t
 | o :: r, i, t => jK r (Nat.succ i) (t.set i (r8 t o.after.toList 0))
def qK (t : T Nat) : List Rec → Bool
 | [] => true
 | y :: l => l.all (fun x => !(clash x y) || Nat.testBit (gi t y.idx) x.idx) && qK t l
def tmpsOf : List Operand → List Nat
 | [] => []
 | .tmp t :: l => t :: tmpsOf l
 | _ :: l => tmpsOf l
def looks (all : List Oper) (o : Oper) : List Nat := match o.guard with
 | none => tmpsOf o.op.operands.toList
 | some (g, _) => match all[g]? with
  | some o' => (match o'.dst with | some d => d :: tmpsOf o.op.operands.toList | none => tmpsOf o.op.operands.toList)
  | none => tmpsOf o.op.operands.toList
def fg : List Nat → Nat → Bool
 | [], _ => false
 | a :: l, n => Nat.beq a n || fg l n
def pI (all : List Oper) (x y : Oper) : Bool :=
 (match x.dst with
  | some d => !(fg (looks all y) d) && (match y.dst with | some e => !(Nat.beq d e) | none => true)
  | none => true) &&
 (match y.dst with
  | some d => !(fg (looks all x) d)
  | none => true)
def qI (all : List Oper) (m : Nat) (o : Oper) : List Oper → Nat → Nat → Bool
 | _, _, 0 => true
 | [], _, _ => true
 | x :: l, j, n + 1 => (Nat.testBit m j || pI all x o) && qI all m o l (Nat.succ j) n
def tX (all : List Oper) (t : T Nat) : List Oper → Nat → Bool
 | [], _ => true
 | o :: l, i => o.after.toList.all (fun e => !(ef e) || Nat.blt e.on i) && qI all (gi t i) o all 0 i && tX all t l (Nat.succ i)
def n7 (ops : List Oper) : Bool := Nat.ble ops.length 16777213 && tX ops (jK ops 0 .leaf) ops 0
def flat : Code → Bool
 | .rangeFunc .. => false
 | .seq a b => flat a && flat b
 | .cond _ a b => flat a && flat b
 | .block _ c => flat c
 | .loop c => flat c
 | .scope c => flat c
 | _ => true
def codeOk : Code → Bool
 | .region _ ops draw => !draw || n7 ops.toList
 | .seq a b => codeOk a && codeOk b
 | .cond _ a b => codeOk a && codeOk b
 | .block _ c => codeOk c
 | .loop c => codeOk c
 | .rangeFunc _ _ a b => codeOk a && flat a && (codeOk b && flat b)
 | _ => true

structure Env where
 tm : T AV
 nt : Nat
def Env.put (E : Env) (d : Option Tmp) (v : AV) : Option Env := Option.rec (motive := fun _ => Option Env) (some E) (fun d => Env.rec (motive := fun _ => Option Env) (fun tm nt => Bool.rec (motive := fun _ => Option Env) none (some ⟨tm.set d v, nt⟩) (Nat.blt d nt)) E) d
theorem Env.aL4 (E : Env) (v : AV) : E.put none v = some E := rfl
theorem Env.aL3 (E : Env) (d : Tmp) (v : AV) : E.put (some d) v = cond (Nat.blt d E.nt) (some ⟨E.tm.set d v, E.nt⟩) none := by
 show Bool.rec (motive := fun _ => Option Env) none (some ⟨E.tm.set d v, E.nt⟩) (Nat.blt d E.nt) = _
 cases Nat.blt d E.nt <;> rfl
def wanted (hy : List (HK × AV)) (all : List Oper) (E : Env) (o : Oper) : Option Bool := match o.guard with
 | none => some true
 | some (j, want) => match all[j]? with
  | some o' => match o'.dst with
   | some d => match E.tm.get d with
    | some (.b x) => some (x == want)
    | some .und => none
    | some (.x i) => match hl hy (.bI (.x i) (.b true)) with
         | some (.b r) => some (r == want)
         | _ => none
    | some _ => some false
    | none => none
   | none => some false
  | none => some false

def mq : List AV → Nat → T AV → T AV
 | [], _, t => t
 | v :: l, n, t => mq l (Nat.succ n) (t.set n v)

def eQ (tb : Tab) : List ResultVar → Env → M (List AV)
 | [], _ => ret []
 | .tmp t :: l, E => bnd (eQ tb l E) fun vs => ret (op tb.ng E.tm (.tmp t) :: vs)
 | .cell a t :: l, E => bnd (load tb t (op tb.ng E.tm (.tmp a))) fun v => bnd (eQ tb l E) fun vs => ret (v :: vs)
def results (tb : Tab) : List ResultVar → Env → M AV
 | [.tmp t], E => ret (op tb.ng E.tm (.tmp t))
 | [.cell a t], E => load tb t (op tb.ng E.tm (.tmp a))
 | l, E => bnd (eQ tb l E) fun vs => ret (.tu vs)
def ka {α} (m : M α) : M (α × Nat × Nat) := fun S => match m ⟨S.heap, S.next, 0, 0⟩ with
 | none => none
 | some (v, S') => some ((v, S'.acc, S'.wr), ⟨S'.heap, S'.next, Nat.lor S.acc S'.acc, Nat.lor S.wr S'.wr⟩)
def l5 (E : Env) : List Nat → List AV → Option Env
 | [], [] => some E
 | d :: ps, v :: vs => match E.put (some d) v with
  | some E => l5 E ps vs
  | none => none
 | _, _ => none
def isN : Ex → Bool
 | .normal => true
 | _ => false
def keyOf : Code → Option Nat
 | .region id _ _ => some id
 | .seq a b => (keyOf a).or (keyOf b)
 | .cond _ a b => (keyOf a).or (keyOf b)
 | .block _ b => keyOf b
 | .loop b => keyOf b
 | .scope b => keyOf b
 | _ => none
def r9 (p : AV → Bool) : List AV → Bool
 | [] => true
 | a :: l => p a && r9 p l
def gd : Nat → AV → Bool
 | 0, _ => false
 | d + 1, a => match a with
  | .ag l => r9 (gd d) l
  | .tu l => r9 (gd d) l
  | .cU _ x => gd d x
  | .b _ => true
  | .i _ _ => true
  | .s _ _ => true
  | .bg => true
  | .bO => true
  | .ni => true
  | .eR => true
  | .ik => true
  | .h _ => true
  | .x _ => true
  | _ => false
def eqCe : Cells → Cells → Bool
 | .l a, .l b => cz (fP 8) a b
 | .y k n, .y l m => Nat.beq k l && Nat.beq n m
 | _, _ => false
def eqX : Ex → Ex → Bool
 | .normal, .normal => true
 | .exit a, .exit b => Nat.beq a b
 | .goto a, .goto b => Nat.beq a b
 | .ret, .ret => true
 | _, _ => false
def AO : List (Nat × AV) → List (Nat × AV) → Bool
 | [], [] => true
 | p :: l, q :: m => Nat.beq p.1 q.1 && (fP 8 p.2 q.2 && AO l m)
 | _, _ => false
def eqE : aZ → aZ → Bool
 | .b k, .b j => Nat.beq k.e j.e && eqCe k.c j.c && Nat.beq k.m j.m && Nat.beq k.es j.es && Nat.beq k.fr j.fr && (k.st == j.st) && (k.g == j.g)
 | .t i e, .t j f => Nat.beq i j && Nat.beq e f
 | .r i e s o, .r j f t u => Nat.beq i j && (Nat.beq e f && (Nat.beq s t && (o == u)))
 | .k g a n s x, .k h b m t y => Nat.beq g h && (AO a b && (Nat.beq n m && (Nat.beq s t && eqX x y)))
 | _, _ => false
def xE (E : Env) : List (Nat × AV) → Bool
 | [] => true
 | p :: r => (match E.tm.get p.1 with | some a => fP 8 a p.2 | none => false) && xE E r
def xF (E : Env) : List (Nat × AV) → Bool
 | [] => true
 | p :: r => (match E.tm.get p.1 with | some a => eu 8 a p.2 | none => false) && gd 8 p.2 && xF E r
def dG : List (Nat × AV) → Bool
 | [] => true
 | p :: r => Nat.ble p.1 16777213 && dG r
def eG : List Nat → Bool
 | [] => true
 | p :: r => Nat.ble p 16777213 && eG r
def iM : Option Nat → Nat → Bool
 | some k, n => Nat.beq k n
 | none, _ => false
def Cw (E : Env) (l : LF) : Bool := cond l.hp.isSome (xE E l.pre) (xF E l.pre)
def qa (E : Env) (k : Option Nat) : List LF → Option LF
 | [] => none
 | l :: r => cond (iM k l.key && Nat.beq E.nt l.nt && Cw E l && dG l.post && eG l.keep) (some l) (qa E k r)
def mF (E : Env) : List Nat → T AV → T AV
 | [], t => t
 | s :: r, t => match E.tm.get s with
  | some a => mF E r (t.set s a)
  | none => mF E r t
def iL : List (Nat × AV) → T AV → T AV
 | [], t => t
 | p :: r, t => iL r (t.set p.1 p.2)
def lfOut (E : Env) (l : LF) : Ex × Env := (l.ex, ⟨iL l.post (mF E l.keep .leaf), E.nt⟩)
def isK (l : List (Nat × aZ)) (n : Nat) : Bool := match l with
 | [] => false
 | p :: r => Nat.beq p.1 n || isK r n
def im (H : T aZ) : List (Nat × aZ) → Bool
 | [] => true
 | p :: r => (match H.get p.1 with | some k => eqE k p.2 | none => false) && im H r
def w9 (n : Nat) : List (Nat × aZ) → Bool
 | [] => true
 | p :: r => Nat.blt p.1 n && w9 n r
def dE : aZ → Bool
 | .r _ _ _ ro => ro
 | _ => false
def lhRo (pre post : List (Nat × aZ)) : Bool := post.all fun p => pre.all fun q => !(Nat.beq q.1 p.1 && dE q.2) || dE p.2
def w8 (h : LH) : List (Nat × aZ) → Bool
 | [] => true
 | p :: r => Nat.blt p.1 h.n1 && (isK h.pre p.1 || Nat.ble h.n0 p.1) && w8 h r
def qX : List (Nat × aZ) → T aZ → T aZ
 | [], t => t
 | p :: r, t => qX r (t.del p.1)
def bA : List (Nat × aZ) → T aZ → T aZ
 | [], t => t
 | p :: r, t => bA r (t.set p.1 p.2)
def qY : List (Nat × aZ) → Nat → Nat
 | [], m => m
 | p :: r, m => qY r (Nat.lor m (bit p.1))
def py (a : Nat) : Nat → Nat
 | 0 => 0
 | n + 1 => Nat.lor (py a n) (bit (Nat.add a n))
def pw (a : Nat) : Nat → T aZ → T aZ
 | 0, t => t
 | n + 1, t => (pw a n t).del (Nat.add a n)
def gF (h : LH) : Nat := qY h.pre (py h.n0 (Nat.sub h.n1 h.n0))
def eZ (h : LH) (t : T aZ) : T aZ := bA h.post (pw h.n0 (Nat.sub h.n1 h.n0) (qX h.pre t))
def iK (h : LH) : Bool := Nat.ble h.n0 h.n1 && Nat.ble h.n1 16777213 && w9 h.n0 h.pre && w8 h h.post && lhRo h.pre h.post
def jZ (ng : Nat) (h : LH) : M Unit := fun S => cond (Nat.beq S.next h.n0 && Nat.beq ng h.ng && iK h && im S.heap h.pre) (some ((), ⟨eZ h S.heap, h.n1, Nat.lor S.acc (gF h), Nat.lor S.wr (gF h)⟩)) none
def ev (n : Nat) (h : LH) : LH := ⟨h.ng, n, h.n1, h.pre, h.post⟩
def gj (ng : Nat) (h : LH) : M Unit := fun S => cond (Nat.ble S.next h.n0 && iK h) (jZ ng (ev S.next h) S) none
def ja (ng : Nat) (E : Env) (l : LF) : M (Ex × Env) := match l.hp with
 | none => ret (lfOut E l)
 | some h => bnd (gj ng h) fun _ => ret (lfOut E l)
def fy : Code → Option (List Nat × Code × Code)
 | .rangeFunc _ ps a b => some (ps.toList, a, b)
 | .seq a b => (match fy a with | some r => some r | none => fy b)
 | .cond _ a b => (match fy a with | some r => some r | none => fy b)
 | .block _ b => fy b
 | .loop b => fy b
 | _ => none
def rfT (tb : Tab) (g : Nat) : Option (List Nat × Code × Code) := match tb.fn.get g with
 | some fi => (match fi.body with | some c => fy c | none => none)
 | none => none
def gA (tb : Tab) : aZ → Option gO
 | .j r => some r
 | .k g tm nt st pend => (match rfT tb g with | some c => some ⟨c.1, c.2.1, c.2.2, iL tm .leaf, nt, st, pend⟩ | none => none)
 | _ => none
def tV (st : Nat) (pend : Ex) : aZ → aZ
 | .j r => .j ⟨r.ps, r.fB, r.body, r.tm, r.nt, st, pend⟩
 | .k g tm nt _ _ => .k g tm nt st pend
 | e => e
def ga (tb : Tab) (v : Nat) : M (aZ × gO) := bnd (rdA v) fun e => bnd (aK (gA tb e)) fun r => ret (e, r)
def lB (l : LF) : Bool := match l.ex with
 | .goto n => Nat.beq n 7777777
 | _ => false
def qS : List LF → Option LF
 | [] => none
 | l :: r => cond (lB l) (some l) (qS r)
def pick (t : T AV) : List Nat → List (Nat × AV)
 | [] => []
 | s :: r => match t.get s with
  | some a => cond (Nat.ble s 16777213) ((s, a) :: pick t r) (pick t r)
  | none => pick t r
def rP (L : List LF) (E : Env) (ps : List Nat) (a b : Code) : aZ := match qS L with
 | some l => .k (l.nt) (pick E.tm l.keep) E.nt 0 .normal
 | none => .j ⟨ps, a, b, E.tm, E.nt, 0, .normal⟩
def iy (l : LF) : Bool := Nat.beq l.key 8888888
def rV : List AV → List (Nat × AV) → Bool
 | [], [] => true
 | a :: l, p :: r => (eu 8 a p.2 || fP 8 a p.2) && rV l r
 | _, _ => false
def lU (args : List AV) : List LF → Option (LH × AV)
 | [] => none
 | l :: r => match l.hp, l.post with
  | some h, [q] => cond (iy l && rV args l.pre) (some (h, q.2)) (lU args r)
  | _, _ => lU args r
mutual
def code (tb : Tab) : Nat → List LF → Code → Env → M (Ex × Env)
 | 0, _, _, _ => fail
 | f + 1, L, c, E => match c with
  | .skip => ret (.normal, E)
  | .label _ => ret (.normal, E)
  | .seq a b => bnd (code tb f L a E) fun r => match r.1 with
   | .normal => code tb f L b r.2
   | _ => ret r
  | .cond c x y => match op tb.ng E.tm c with
   | .b true => code tb f L x E
   | .b false => code tb f L y E
   | .x a => bnd (eS tb (.bI (.x a) (.b true))) fun r => cond r (code tb f L x E) (code tb f L y E)
   | _ => fail
  | .block id body => bnd (code tb f L body E) fun r => match r.1 with
   | .exit j => cond (Nat.beq j id) (ret (.normal, r.2)) (ret r)
   | _ => ret r
  | .loop body => match qa E (keyOf body) L with
   | some l => ja tb.ng E l
   | none => bnd (code tb f L body E) fun r => match r.1 with
    | .normal => code tb f L (.loop body) r.2
    | _ => ret r
  | .exit id => ret (.exit id, E)
  | .goto l => ret (.goto l, E)
  | .ret => ret (.ret, E)
  | .region _ ops draw => cond draw
   (bnd (fG tb f ops.toList ops.toList 0 E []) fun r => cond (!(r7 r.2) || qK (jK ops.toList 0 .leaf) r.2) (ret (.normal, r.1)) fail)
   (bnd (opsT tb f ops.toList ops.toList E) fun E => ret (.normal, E))
  | .rangeFunc g ps a b => match op tb.ng E.tm g with
   | .fn gf first cap => bnd (aK (tb.fn.get gf)) fun fi => cond fi.body.isSome
    (bnd (newE (rP L E ps.toList a b)) fun n => bnd (call tb f gf (first ++ (.yl n :: cap))) fun _ =>
          bnd (ga tb n) fun r => cond (Nat.beq r.2.st 1) fail (bnd (kill n) fun _ => ret (r.2.pend, E))) fail
   | _ => fail
  | _ => fail
def opsT (tb : Tab) : Nat → List Oper → List Oper → Env → M Env
 | 0, _, _, _ => fail
 | _ + 1, _, [], E => ret E
 | f + 1, all, o :: r, E => bnd (aK (wanted tb.hyp all E o)) fun w => cond w
  (bnd (oper tb f o E) fun v => bnd (aK (E.put o.dst v)) fun E => opsT tb f all r E)
  (bnd (aK (E.put o.dst (.tu []))) fun E => opsT tb f all r E)
def fG (tb : Tab) : Nat → List Oper → List Oper → Nat → Env → List Rec → M (Env × List Rec)
 | 0, _, _, _, _, _ => fail
 | _ + 1, _, [], _, E, l => ret (E, l)
 | f + 1, all, o :: r, n, E, l => bnd (aK (wanted tb.hyp all E o)) fun w => cond w
  (bnd (ka (oper tb f o E)) fun p => bnd (aK (E.put o.dst p.1)) fun E => fG tb f all r (Nat.succ n) E (cond (Nat.beq p.2.1 0) l (⟨n, p.2.1, p.2.2⟩ :: l)))
  (bnd (aK (E.put o.dst (.tu []))) fun E => fG tb f all r (Nat.succ n) E l)
def oper (tb : Tab) : Nat → Oper → Env → M AV
 | 0, _, _ => fail
 | f + 1, o, E => match o.op with
  | .call c => match c.callee with
   | .builtin b => builtin tb b c.argTypes.toList (c.args.toList.map (op tb.ng E.tm))
   | .value g => match op tb.ng E.tm g with
    | .fn g first cap => call tb f g (first ++ c.args.toList.map (op tb.ng E.tm) ++ cap)
    | .yl n => di tb f n (c.args.toList.map (op tb.ng E.tm))
    | _ => fail
   | .invoke r m => match op tb.ng E.tm r with
    | .cU t v => bnd (aK (mC tb.met t m)) fun g => bnd (aK (recv g.2 v)) fun v => call tb f g.1 (v :: c.args.toList.map (op tb.ng E.tm))
    | _ => fail
  | x => simple tb (op tb.ng E.tm) x
def call (tb : Tab) : Nat → Nat → List AV → M AV
 | 0, _, _ => fail
 | f + 1, g, args => bnd (aK (tb.fn.get g)) fun fi => match fi.sum, args with
  | some v, [] => ret v
  | _, _ => match fi.body with
   | none => match hl tb.hyp (.ext g args) with
    | some v => ret v
    | none => ext tb fi.ext args
   | some c => match hl tb.hyp (.call g args) with
    | some v => ret v
    | none => match lU args fi.lps with
     | some q => bnd (gj tb.ng q.1) fun _ => ret q.2
     | none => cond (Nat.ble args.length fi.ntmps && Nat.ble fi.ntmps 16777213) (bnd (code tb f fi.lps c ⟨mq args 0 .leaf, fi.ntmps⟩) fun r => match r.1 with
      | .normal | .ret => results tb fi.res r.2
      | _ => fail) fail
def di (tb : Tab) : Nat → Nat → List AV → M AV
 | 0, _, _ => fail
 | f + 1, n, args => bnd (ga tb n) fun r => bnd (aK (l5 ⟨r.2.tm, r.2.nt⟩ r.2.ps args)) fun E => bnd (code tb f [] r.2.fB E) fun p => match p.1 with
  | .normal => bnd (ga tb n) fun r1 => cond (Nat.beq r1.2.st 0)
   (bnd (eE n (tV 1 r1.2.pend r1.1)) fun _ => bnd (code tb f [] r.2.body p.2) fun q =>
     bnd (ga tb n) fun r2 => bnd (eE n (tV (cond (isN q.1) 0 2) q.1 r2.1)) fun _ => ret (.b (isN q.1))) fail
  | _ => fail
end
end
end Go.AX
end
section
namespace Go.AX
theorem aO2 {α} : ∀ (f : Nat) (t : T α) (n m : Nat) (x : Option α), n + 1 < 2 ^ f → (T.jR f t n x).get m = if m = n then x else t.get m := by
 intro f
 induction f with
 | zero => intro t n m x h; simp at h
 | succ f ih =>
  intro t n m x h
  have hp : 2 ^ (f + 1) = 2 * 2 ^ f := by rw [Nat.pow_succ]; omega
  have e2 : ∀ k : Nat, Nat.mod k 2 = k % 2 := fun _ => rfl
  have e3 : ∀ k : Nat, Nat.div k 2 = k / 2 := fun _ => rfl
  have e4 : ∀ k : Nat, Nat.sub k 1 = k - 1 := fun _ => rfl
  cases t with
  | leaf =>
   rw [T.setF_leaf]
   cases h0 : Nat.beq n 0 with
   | true =>
    have : n = 0 := by simpa using h0
    subst this
    simp only [cond_true, T.cy, T.jn, e2, e3, e4]
    cases hm : Nat.beq m 0 with
    | true => have : m = 0 := by simpa using hm
              simp [this]
    | false => have : m ≠ 0 := by intro e; subst e; simp at hm
               simp only [cond_false, this, if_false]; cases Nat.beq (m % 2) 1 <;> rfl
   | false =>
    have hn : n ≠ 0 := by intro e; subst e; simp at h0
    simp only [cond_false, e2, e3, e4]
    cases h1 : Nat.beq (n % 2) 1 with
    | true =>
     have h1' : n % 2 = 1 := by simpa using h1
     simp only [cond_true, T.cy, T.jn, e2, e3, e4]
     cases hm : Nat.beq m 0 with
     | true => have : m = 0 := by simpa using hm
               subst this; simp [Ne.symm hn]
     | false =>
      have hm' : m ≠ 0 := by intro e; subst e; simp at hm
      simp only [cond_false]
      cases hm1 : Nat.beq (m % 2) 1 with
      | true =>
       have hm1' : m % 2 = 1 := by simpa using hm1
       simp only [cond_true]
       rw [ih _ _ _ _ (by omega)]
       simp only [T.cy, T.jn]
       by_cases e : m = n
       ·subst e; simp
       ·rw [if_neg e, if_neg (by omega)]
      | false =>
       have hm1' : m % 2 ≠ 1 := by intro e; rw [e] at hm1; simp at hm1
       simp only [cond_false]
       rw [if_neg (by intro e; subst e; omega)]
    | false =>
     have h1' : n % 2 ≠ 1 := by intro e; rw [e] at h1; simp at h1
     simp only [cond_false, T.cy, T.jn, e2, e3, e4]
     cases hm : Nat.beq m 0 with
     | true => have : m = 0 := by simpa using hm
               subst this; simp [Ne.symm hn]
     | false =>
      have hm' : m ≠ 0 := by intro e; subst e; simp at hm
      simp only [cond_false]
      cases hm1 : Nat.beq (m % 2) 1 with
      | true =>
       have hm1' : m % 2 = 1 := by simpa using hm1
       simp only [cond_true]
       rw [if_neg (by intro e; subst e; omega)]
      | false =>
       have hm1' : m % 2 ≠ 1 := by intro e; rw [e] at hm1; simp at hm1
       simp only [cond_false]
       rw [ih _ _ _ _ (by omega)]
       simp only [T.cy, T.jn]
       by_cases e : m = n
       ·subst e; simp
       ·rw [if_neg e, if_neg (by omega)]
  | node v l r =>
   rw [T.setF_node]
   cases h0 : Nat.beq n 0 with
   | true =>
    have : n = 0 := by simpa using h0
    subst this
    simp only [cond_true, T.cy, T.jn, e2, e3, e4]
    cases hm : Nat.beq m 0 with
    | true => have : m = 0 := by simpa using hm
              simp [this]
    | false => have : m ≠ 0 := by intro e; subst e; simp at hm
               simp only [cond_false, this, if_false]
   | false =>
    have hn : n ≠ 0 := by intro e; subst e; simp at h0
    simp only [cond_false, e2, e3, e4]
    cases h1 : Nat.beq (n % 2) 1 with
    | true =>
     have h1' : n % 2 = 1 := by simpa using h1
     simp only [cond_true, T.cy, T.jn, e2, e3, e4]
     cases hm : Nat.beq m 0 with
     | true => have : m = 0 := by simpa using hm
               subst this; simp [Ne.symm hn]
     | false =>
      have hm' : m ≠ 0 := by intro e; subst e; simp at hm
      simp only [cond_false]
      cases hm1 : Nat.beq (m % 2) 1 with
      | true =>
       have hm1' : m % 2 = 1 := by simpa using hm1
       simp only [cond_true]
       rw [ih _ _ _ _ (by omega)]
       by_cases e : m = n
       ·subst e; simp
       ·rw [if_neg e, if_neg (by omega)]
      | false =>
       have hm1' : m % 2 ≠ 1 := by intro e; rw [e] at hm1; simp at hm1
       simp only [cond_false]
       rw [if_neg (by intro e; subst e; omega)]
    | false =>
     have h1' : n % 2 ≠ 1 := by intro e; rw [e] at h1; simp at h1
     simp only [cond_false, T.cy, T.jn, e2, e3, e4]
     cases hm : Nat.beq m 0 with
     | true => have : m = 0 := by simpa using hm
               subst this; simp [Ne.symm hn]
     | false =>
      have hm' : m ≠ 0 := by intro e; subst e; simp at hm
      simp only [cond_false]
      cases hm1 : Nat.beq (m % 2) 1 with
      | true =>
       have hm1' : m % 2 = 1 := by simpa using hm1
       simp only [cond_true]
       rw [if_neg (by intro e; subst e; omega)]
      | false =>
       have hm1' : m % 2 ≠ 1 := by intro e; rw [e] at hm1; simp at hm1
       simp only [cond_false]
       rw [ih _ _ _ _ (by omega)]
       by_cases e : m = n
       ·subst e; simp
       ·rw [if_neg e, if_neg (by omega)]
theorem cm {α} (t : T α) (n m : Nat) (x : α) (h : n ≤ 16777213) : (t.set n x).get m = if m = n then some x else t.get m := aO2 24 t n m _ (by omega)
theorem jo {α} (t : T α) (n m : Nat) (h : n ≤ 16777213) : (t.del n).get m = if m = n then none else t.get m := aO2 24 t n m _ (by omega)

theorem DE (a b : Int) : ile a b = decide (a ≤ b) := by
 cases a <;> cases b <;> simp only [ile] <;> rw [Bool.eq_iff_iff] <;> simp [Nat.ble_eq] <;> omega
theorem xY (a b : Int) : ilt a b = decide (a < b) := by
 unfold ilt; rw [DE, Bool.eq_iff_iff]; simp
theorem lD (a b : Int) : ieq a b = decide (a = b) := by
 cases a <;> cases b <;> simp only [ieq] <;> apply Bool.eq_iff_iff.2 <;> simp <;> omega
theorem C6 {k l : IntKind} (h : kEq k l = true) : k = l := by
 cases k <;> cases l <;> first | rfl | cases h
theorem wrap_of (k : IntKind) (n : Int) (h : if k.signed then -(2 ^ (k.bits - 1) : Int) ≤ n ∧ n < 2 ^ (k.bits - 1) else 0 ≤ n ∧ n < 2 ^ k.bits) : k.wrap n = n := by
 cases k <;> simp only [IntKind.signed, IntKind.bits, if_true, if_false, Bool.false_eq_true, Nat.reduceSub] at h <;> simp only [IntKind.wrap, IntKind.bits, IntKind.signed, Bool.true_and, Bool.false_and, Bool.false_eq_true, if_false, Nat.reduceSub, decide_eq_true_eq, ge_iff_le] <;> (try split) <;> omega
theorem Ep (k : IntKind) (n : Int) (h : fits k n = true) : if k.signed then -(2 ^ (k.bits - 1) : Int) ≤ n ∧ n < 2 ^ (k.bits - 1) else 0 ≤ n ∧ n < 2 ^ k.bits := by
 cases k <;> cases n <;> first | (cases h; done) | (have h' := Nat.le_of_ble_eq_true h; simp only [IntKind.signed, IntKind.bits, if_true, if_false, Bool.false_eq_true, Nat.reduceSub, Int.ofNat_eq_natCast]; omega)
theorem mU (k : IntKind) (n : Int) (h : fits k n = true) : k.wrap n = n := wrap_of k n (Ep k n h)
theorem gW (k : IntKind) (n : Int) : wrp k n = k.wrap n := by
 unfold wrp; cases h : fits k n with
 | true => simp [mU k n h]
 | false => rfl
theorem tn_eq (k : IntKind) (x : Int) : tn k x = (x % (2 ^ k.bits : Int)).toNat := by
 unfold tn; split
 ·rename_i n
  cases h : fits k (.ofNat n) with
  | true =>
   have hr := Ep k _ h
   have : (n : Int) < (2 : Int) ^ k.bits := by
    cases k <;> simp only [IntKind.signed, IntKind.bits, if_true, if_false, Bool.false_eq_true, Nat.reduceSub, Int.ofNat_eq_natCast] at hr ⊢ <;> omega
   simp only [cond_true]
   show n = ((n : Int) % (2 : Int) ^ k.bits).toNat
   rw [Int.emod_eq_of_lt (by omega) this, Int.toNat_natCast]
  | false => rfl
 ·rfl
theorem toNat_ofInt (k : IntKind) (x : Int) : (BitVec.ofInt k.bits x).toNat = tn k x := by
 rw [tn_eq]; simp [BitVec.toNat_ofInt]
end Go.AX
end
section
namespace Go.AX
def bV (len n : Nat) : List UInt8 := (List.range len).map fun j => UInt8.ofNat (byteAt n j)
theorem lX (n j : Nat) : byteAt n j = n / 2 ^ (8 * j) % 256 := by
 show (n >>> (8 * j)) % 256 = _
 rw [Nat.shiftRight_eq_div_pow]
theorem mg (n j : Nat) : byteAt n j < 256 := by rw [lX]; omega
theorem low_eq (n len : Nat) : low n len = n % 2 ^ (8 * len) := by
 show n % (1 <<< (8 * len)) = _
 rw [Nat.one_shiftLeft]
theorem wy (n len : Nat) : low n len < 2 ^ (8 * len) := by rw [low_eq]; exact Nat.mod_lt _ (Nat.two_pow_pos _)
theorem mh (a c k j : Nat) (h : a < 2 ^ (8 * k)) : byteAt (a + c * 2 ^ (8 * k)) j = if j < k then byteAt a j else byteAt c (j - k) := by
 simp only [lX]
 split
 ·rename_i hj
  have e : 2 ^ (8 * k) = 2 ^ (8 * j) * (256 * 2 ^ (8 * (k - j - 1))) := by
   rw [show (256 : Nat) = 2 ^ 8 from rfl, ← Nat.pow_add, ← Nat.pow_add]; congr 1; omega
  rw [e, show a + c * (2 ^ (8 * j) * (256 * 2 ^ (8 * (k - j - 1)))) = a + 2 ^ (8 * j) * (256 * (c * 2 ^ (8 * (k - j - 1)))) by
   rw [← Nat.mul_assoc, Nat.mul_comm c, Nat.mul_assoc, Nat.mul_left_comm c], Nat.add_mul_div_left _ _ (Nat.two_pow_pos _), Nat.add_mul_mod_self_left]
 ·rename_i hj
  have e : 2 ^ (8 * j) = 2 ^ (8 * k) * 2 ^ (8 * (j - k)) := by rw [← Nat.pow_add]; congr 1; omega
  rw [e, ← Nat.div_div_eq_div_mul, Nat.add_mul_div_right _ _ (Nat.two_pow_pos _), Nat.div_eq_of_lt h, Nat.zero_add]
theorem rY (n off j : Nat) : byteAt (n >>> (8 * off)) j = byteAt n (off + j) := by
 simp only [lX, Nat.shiftRight_eq_div_pow]
 rw [Nat.div_div_eq_div_mul, ← Nat.pow_add]; congr 3; omega
theorem FE (n len j : Nat) (h : j < len) : byteAt (low n len) j = byteAt n j := by
 have h2 := mh (n % 2 ^ (8 * len)) (n / 2 ^ (8 * len)) len j (Nat.mod_lt _ (Nat.two_pow_pos _))
 rw [if_pos h, Nat.mul_comm (n / 2 ^ (8 * len)), Nat.mod_add_div] at h2
 rw [low_eq, h2]
theorem aE1 : ∀ (len n m : Nat), n < 2 ^ (8 * len) → m < 2 ^ (8 * len) → (∀ j, j < len → byteAt n j = byteAt m j) → n = m
 | 0, n, m, hn, hm, _ => by simp at hn hm; omega
 | len + 1, n, m, hn, hm, h => by
  have e : 2 ^ (8 * (len + 1)) = 256 * 2 ^ (8 * len) := by rw [show (256 : Nat) = 2 ^ 8 from rfl, ← Nat.pow_add]; congr 1; omega
  rw [e] at hn hm
  have h0 := h 0 (by omega)
  simp only [lX, Nat.mul_zero, Nat.pow_zero, Nat.div_one] at h0
  have := aE1 len (n / 256) (m / 256) (Nat.div_lt_of_lt_mul hn) (Nat.div_lt_of_lt_mul hm) (fun j hj => by
   have hh := h (j + 1) (by omega)
   have s1 := rY n 1 j
   have s2 := rY m 1 j
   rw [Nat.add_comm 1 j] at s1 s2
   rw [Nat.shiftRight_eq_div_pow] at s1 s2
   rw [show 2 ^ (8 * 1) = 256 from rfl] at s1 s2
   rw [s1, s2, hh])
  omega
theorem eP (len n : Nat) : (bV len n).length = len := by simp [bV]
theorem iG (len n j : Nat) (h : j < len) : (bV len n)[j]? = some (UInt8.ofNat (byteAt n j)) := by
 simp [bV, h]
theorem ofNat_toNat (n : Nat) (h : n < 256) : (UInt8.ofNat n).toNat = n := by
 simp [UInt8.toNat_ofNat', Nat.mod_eq_of_lt h]
theorem strB_inj (len n m : Nat) (hn : n < 2 ^ (8 * len)) (hm : m < 2 ^ (8 * len)) (h : bV len n = bV len m) : n = m := by
 refine aE1 len n m hn hm fun j hj => ?_
 have := congrArg (fun l => (l[j]?).map UInt8.toNat) h
 simp only [iG _ _ _ hj, Option.map_some, Option.some.injEq] at this
 rwa [ofNat_toNat _ (mg _ _), ofNat_toNat _ (mg _ _)] at this
theorem aK3 (k l a c : Nat) (h : a < 2 ^ (8 * k)) : bV (k + l) (a + c * 2 ^ (8 * k)) = bV k a ++ bV l c := by
 apply List.ext_getElem?
 intro j
 rw [List.getElem?_append]
 simp only [eP]
 by_cases hj : j < k
 ·rw [if_pos hj, iG _ _ _ (by omega), iG _ _ _ hj, mh _ _ _ _ h, if_pos hj]
 ·rw [if_neg hj]
  by_cases h2 : j < k + l
  ·rw [iG _ _ _ h2, iG _ _ _ (by omega), mh _ _ _ _ h, if_neg hj]
  ·rw [List.getElem?_eq_none (by simp [eP]; omega), List.getElem?_eq_none (by simp [eP]; omega)]
theorem add_lt (k l a c : Nat) (h : a < 2 ^ (8 * k)) (hc : c < 2 ^ (8 * l)) : a + c * 2 ^ (8 * k) < 2 ^ (8 * (k + l)) := by
 have e : 2 ^ (8 * (k + l)) = 2 ^ (8 * l) * 2 ^ (8 * k) := by rw [← Nat.pow_add]; congr 1; omega
 have h1 : (c + 1) * 2 ^ (8 * k) ≤ 2 ^ (8 * l) * 2 ^ (8 * k) := Nat.mul_le_mul_right _ hc
 rw [Nat.succ_mul] at h1
 omega
theorem strB_sub (len n off k : Nat) (h : off + k ≤ len) : bV k (low (n >>> (8 * off)) k) = ((bV len n).drop off).take k := by
 apply List.ext_getElem?
 intro j
 rw [List.getElem?_take]
 by_cases hj : j < k
 ·rw [if_pos hj, List.getElem?_drop, iG _ _ _ hj, iG _ _ _ (by omega), FE _ _ _ hj, rY]
 ·rw [if_neg hj, List.getElem?_eq_none (by simp [eP]; omega)]
theorem aL5 : ∀ (l : List UInt8), kZ l < 2 ^ (8 * l.length) ∧ bV l.length (kZ l) = l
 | [] => ⟨by simp [kZ], rfl⟩
 | a :: l => by
  obtain ⟨h1, h2⟩ := aL5 l
  have hb : a.toNat < 2 ^ (8 * 1) := a.toNat_lt
  have e : kZ (a :: l) = a.toNat + kZ l * 2 ^ (8 * 1) := by
   show a.toNat + 256 * kZ l = _
   rw [Nat.mul_comm]
  rw [e, List.length_cons, Nat.add_comm l.length 1]
  refine ⟨add_lt 1 l.length _ _ hb h1, ?_⟩
  rw [aK3 1 _ _ _ hb, h2]
  show [UInt8.ofNat (byteAt a.toNat 0)] ++ l = a :: l
  have : UInt8.ofNat (byteAt a.toNat 0) = a := by
   rw [lX]; simp
  rw [this]; rfl
end Go.AX
end
section
namespace Go.AX
structure R where
 blk : Nat
 base : Nat
 cap : Nat
 es : Nat
def isRow : Obj → Bool
 | .cells .. => true
 | .loop _ => true
 | .map .. => true
 | .mapIter .. => true
 | _ => false
abbrev Fz := Nat → Prop
def Fz.lt (n : Nat) : Fz := fun k => k < n
structure Below (B : Fz) (w w' : World) : Prop where
 os : w'.os = w.os
 tape : w'.tape = w.tape
 output : w'.output = w.output
 size : w.heap.size ≤ w'.heap.size
 block : ∀ k, B k → w'.heap[k]? = w.heap[k]?
 walk : ∀ (k : Nat) (o : Obj), w.heap[k]? = some o → isRow o = false → w'.heap[k]? = some o
theorem Below.refl (B : Fz) (w : World) : Below B w w := ⟨rfl, rfl, rfl, Nat.le_refl _, fun _ _ => rfl, fun _ _ h _ => h⟩
theorem Below.trans {B : Fz} {a b c : World} (h : Below B a b) (k : Below B b c) : Below B a c :=
 ⟨k.os.trans h.os, k.tape.trans h.tape, k.output.trans h.output, Nat.le_trans h.size k.size, fun i hi => (k.block i hi).trans (h.block i hi), fun i o hi ho => k.walk i o (h.walk i o hi ho) ho⟩
theorem Below.plain {B : Nat} {w w' : World} (h : Below (Fz.lt B) w w') : Go.RowKit.Below B w w' := ⟨h.os, h.tape, h.output, h.size, h.block⟩
theorem tH {w w' : World} {g : Nat} {cs : Array Value} {t : TypeId} {fz : Nat × Nat} (hg : w.heap[g]? = some (.cells cs t fz)) (ho : ∀ b, b ≠ g → w'.heap[b]? = w.heap[b]?) :
 ∀ (k : Nat) (o : Obj), w.heap[k]? = some o → isRow o = false → w'.heap[k]? = some o := fun k o hk hr => by
 by_cases e : k = g
 ·subst e; rw [hg] at hk; injection hk with hk; subst hk; cases hr
 ·rw [ho k e]; exact hk
abbrev ak := Nat → Option R
structure Cx where
 P : Program
 nu : Nat → Value
 one : ∀ i, i < 1000000 → (nu i).oneCell' = true
 cE : Nat
 inv : World → Prop
 fx : ∀ w w' : World, (∀ k, k < cE → w'.heap[k]? = w.heap[k]?) → inv w → inv w'
mutual
def Rel (C : Cx) (ρ : ak) : AV → Value → Prop
 | .und, _ => True
 | .b x, v => v = .bool x
 | .i k n, v => v = .int k n
 | .s len n, v => v = .string ⟨(bV len n).toArray⟩ ∧ n < 2 ^ (8 * len)
 | .bg, v => v = .pointer none
 | .p b o, v => ∃ r, ρ b = some r ∧ v = .pointer (some ⟨r.blk, r.base + o, none⟩)
 | .bO, v => v = .slice none 0 0
 | .sl b o n c false, v => ∃ r, ρ b = some r ∧ n ≤ c ∧ v = .slice (some ⟨r.blk, r.base + o, none⟩) n c
 | .sl b o n d true, v => ∃ r a, ρ b = some r ∧ d + n ≤ r.cap ∧ v = .slice (some a) n (r.cap - d) ∧ (a = ⟨r.blk, r.base + o, none⟩ ∨ (n = 0 ∧ r.cap = d))
 | .ni, v => v = .nilIface
 | .cU t a, v => ∃ x, v = .iface t x ∧ Rel C ρ a x
 | .ag l, v => ∃ cs, v = .agg ⟨cs⟩ ∧ aH C ρ l cs
 | .tu l, v => ∃ cs, v = .tuple ⟨cs⟩ ∧ aH C ρ l cs
 | .fn f a c, v => ∃ as cs, v = .func (.func f) ⟨as⟩ ⟨cs⟩ ∧ aH C ρ a as ∧ aH C ρ c cs
 | .eR, v => v = .nilFunc
 | .yl n, v => ∃ r, ρ n = some r ∧ v = .func (.yield r.blk) #[] #[]
 | .mp n, v => ∃ r, ρ n = some r ∧ v = .map (some r.blk)
 | .ik, v => v = .map none
 | .h t, v => v = typeHandle C.P t
 | .x id, v => v = C.nu id
 | .sy n, v => ∃ r, ρ n = some r ∧ r.cap ≤ r.es ∧ v = .slice (some ⟨r.blk, 0, none⟩) r.cap r.es
 | .px n i, v => ∃ r k j, ρ n = some r ∧ Rel C ρ i (.int k (Int.ofNat j)) ∧ v = .pointer (some ⟨r.blk, j, none⟩)
 | .sr n, v => ∃ r, ρ n = some r ∧ r.cap ≤ r.es ∧ v = .slice (some ⟨r.blk, r.base, none⟩) r.cap r.es
 | .pr n i sz off, v => ∃ r k j, ρ n = some r ∧ Rel C ρ i (.int k (Int.ofNat j)) ∧ v = .pointer (some ⟨r.blk, r.base + (j * sz + off), none⟩)
 | .es, v => ∃ a c, v = .slice a 0 c
 | .tl n i sz, v => ∃ r k j a, ρ n = some r ∧ Rel C ρ i (.int k (Int.ofNat j)) ∧ j ≤ r.cap ∧ r.cap ≤ r.es ∧ v = .slice (some a) (r.cap - j) (r.es - j) ∧ (a = ⟨r.blk, r.base + j * sz, none⟩ ∨ j = r.cap)
def aH (C : Cx) (ρ : ak) : List AV → List Value → Prop
 | [], vs => vs = []
 | a :: l, vs => ∃ v vt, vs = v :: vt ∧ Rel C ρ a v ∧ aH C ρ l vt
end
def Sub (ρ ρ' : ak) : Prop := ∀ v r, ρ v = some r → ρ' v = some r
mutual
theorem Rel.mono {C : Cx} {ρ ρ' : ak} (h : Sub ρ ρ') : ∀ (a : AV) (v : Value), Rel C ρ a v → Rel C ρ' a v
 | .und, _, _ => by simp [Rel]
 | .b x, v, hr => by simpa [Rel] using hr
 | .i k n, v, hr => by simpa [Rel] using hr
 | .s len n, v, hr => by simpa [Rel] using hr
 | .bg, v, hr => by simpa [Rel] using hr
 | .p b o, v, hr => by
  simp only [Rel] at hr ⊢; obtain ⟨r, h1, h2⟩ := hr; exact ⟨r, h _ _ h1, h2⟩
 | .bO, v, hr => by simpa [Rel] using hr
 | .sl b o n c false, v, hr => by
  simp only [Rel] at hr ⊢; obtain ⟨r, h1, h2⟩ := hr; exact ⟨r, h _ _ h1, h2⟩
 | .sl b o n c true, v, hr => by
  simp only [Rel] at hr ⊢; obtain ⟨r, a, h1, h2⟩ := hr; exact ⟨r, a, h _ _ h1, h2⟩
 | .ni, v, hr => by simpa [Rel] using hr
 | .cU t a, v, hr => by
  simp only [Rel] at hr ⊢; obtain ⟨x, h1, h2⟩ := hr; exact ⟨x, h1, Rel.mono h a x h2⟩
 | .ag l, v, hr => by
  simp only [Rel] at hr ⊢; obtain ⟨x, h1, h2⟩ := hr; exact ⟨x, h1, aH.mono h l x h2⟩
 | .tu l, v, hr => by
  simp only [Rel] at hr ⊢; obtain ⟨x, h1, h2⟩ := hr; exact ⟨x, h1, aH.mono h l x h2⟩
 | .fn f a c, v, hr => by
  simp only [Rel] at hr ⊢; obtain ⟨x, y, h1, h2, h3⟩ := hr; exact ⟨x, y, h1, aH.mono h a x h2, aH.mono h c y h3⟩
 | .eR, v, hr => by simpa [Rel] using hr
 | .yl n, v, hr => by
  simp only [Rel] at hr ⊢; obtain ⟨r, h1, h2⟩ := hr; exact ⟨r, h _ _ h1, h2⟩
 | .mp n, v, hr => by
  simp only [Rel] at hr ⊢; obtain ⟨r, h1, h2⟩ := hr; exact ⟨r, h _ _ h1, h2⟩
 | .ik, v, hr => by simpa [Rel] using hr
 | .h t, v, hr => by simpa [Rel] using hr
 | .x id, v, hr => by simpa [Rel] using hr
 | .sy n, v, hr => by
  simp only [Rel] at hr ⊢; obtain ⟨r, h1, h2⟩ := hr; exact ⟨r, h _ _ h1, h2⟩
 | .px n i, v, hr => by
  simp only [Rel] at hr ⊢; obtain ⟨r, k, j, h1, h2, h3⟩ := hr; exact ⟨r, k, j, h _ _ h1, Rel.mono h i _ h2, h3⟩
 | .sr n, v, hr => by
  simp only [Rel] at hr ⊢; obtain ⟨r, h1, h2⟩ := hr; exact ⟨r, h _ _ h1, h2⟩
 | .pr n i sz off, v, hr => by
  simp only [Rel] at hr ⊢; obtain ⟨r, k, j, h1, h2, h3⟩ := hr; exact ⟨r, k, j, h _ _ h1, Rel.mono h i _ h2, h3⟩
 | .es, v, hr => by simpa [Rel] using hr
 | .tl n i sz, v, hr => by
  simp only [Rel] at hr ⊢; obtain ⟨r, k, j, a, h1, h2, h3⟩ := hr; exact ⟨r, k, j, a, h _ _ h1, Rel.mono h i _ h2, h3⟩
theorem aH.mono {C : Cx} {ρ ρ' : ak} (h : Sub ρ ρ') : ∀ (l : List AV) (vs : List Value), aH C ρ l vs → aH C ρ' l vs
 | [], _, hr => by simpa [aH] using hr
 | a :: l, vs, hr => by
  simp only [aH] at hr ⊢; obtain ⟨v, vt, h1, h2, h3⟩ := hr; exact ⟨v, vt, h1, Rel.mono h a v h2, aH.mono h l vt h3⟩
end
theorem aH.iff {C : Cx} {ρ : ak} : ∀ (l : List AV) (vs : List Value), aH C ρ l vs ↔ l.length = vs.length ∧ ∀ (j : Nat) (a : AV), l[j]? = some a → ∃ x, vs[j]? = some x ∧ Rel C ρ a x
 | [], vs => by simp [aH]; exact ⟨fun h => by rw [h]; rfl, fun h => List.eq_nil_of_length_eq_zero h.symm⟩
 | a :: l, vs => by
  cases vs with
  | nil => simp [aH]
  | cons v vt =>
   simp only [aH, List.cons.injEq, List.length_cons]
   constructor
   ·rintro ⟨v', vt', ⟨rfl, rfl⟩, h1, h2⟩
    obtain ⟨h3, h4⟩ := (aH.iff l vt).1 h2
    refine ⟨by omega, fun j x hj => ?_⟩
    cases j with
    | zero => simp at hj; subst hj; exact ⟨v, by simp, h1⟩
    | succ j => simp at hj; obtain ⟨y, hy1, hy2⟩ := h4 j x hj; exact ⟨y, by simpa using hy1, hy2⟩
   ·rintro ⟨h1, h2⟩
    refine ⟨v, vt, ⟨rfl, rfl⟩, ?_, (aH.iff l vt).2 ⟨by omega, fun j x hj => ?_⟩⟩
    ·obtain ⟨x, hx, hr⟩ := h2 0 a (by simp); simp at hx; subst hx; exact hr
    ·obtain ⟨x, hx, hr⟩ := h2 (j + 1) x (by simpa using hj); exact ⟨x, by simpa using hx, hr⟩
theorem aH.len {C : Cx} {ρ : ak} {l : List AV} {vs : List Value} (h : aH C ρ l vs) : vs.length = l.length := ((aH.iff l vs).1 h).1.symm
theorem aH.get {C : Cx} {ρ : ak} {l : List AV} {vs : List Value} (h : aH C ρ l vs) {j : Nat} {a : AV} (hj : l[j]? = some a) : ∃ x, vs[j]? = some x ∧ Rel C ρ a x := ((aH.iff l vs).1 h).2 j a hj
theorem aH.sub {C : Cx} {ρ : ak} {l : List AV} {vs : List Value} (h : aH C ρ l vs) (o n : Nat) : aH C ρ ((l.drop o).take n) ((vs.drop o).take n) := by
 rw [aH.iff] at h ⊢
 refine ⟨by simp [h.1], fun j a hj => ?_⟩
 rw [List.getElem?_take] at hj ⊢
 split at hj
 ·rename_i hlt; rw [List.getElem?_drop] at hj; obtain ⟨x, hx, hr⟩ := h.2 _ _ hj; exact ⟨x, by rw [if_pos hlt, List.getElem?_drop]; exact hx, hr⟩
 ·cases hj
theorem aH.app {C : Cx} {ρ : ak} {l m : List AV} {vs us : List Value} (h : aH C ρ l vs) (h' : aH C ρ m us) : aH C ρ (l ++ m) (vs ++ us) := by
 rw [aH.iff] at h h' ⊢
 refine ⟨by simp [h.1, h'.1], fun j a hj => ?_⟩
 rw [List.getElem?_append] at hj ⊢
 split at hj
 ·rename_i hlt; obtain ⟨x, hx, hr⟩ := h.2 _ _ hj; exact ⟨x, by rw [if_pos (by omega)]; exact hx, hr⟩
 ·rename_i hlt; obtain ⟨x, hx, hr⟩ := h'.2 _ _ hj; exact ⟨x, by rw [if_neg (by omega), ← h.1]; exact hx, hr⟩
theorem aH.map {C : Cx} {ρ : ak} {α : Type} (f : α → AV) (g : α → Value) (h : ∀ x, Rel C ρ (f x) (g x)) : ∀ l : List α, aH C ρ (l.map f) (l.map g)
 | [] => by simp [aH]
 | a :: l => by simp only [List.map_cons, aH]; exact ⟨_, _, rfl, h a, aH.map f g h l⟩
theorem kW {C : Cx} {ρ : ak} {a : AV} {v : Value} (hs : jS a = true) (h : Rel C ρ a v) : v.oneCell' = true := by
 cases a with
 | und => cases hs
 | ag _ => cases hs
 | tu _ => cases hs
 | sl b o n c r => cases r <;> simp only [Rel] at h
                   ·obtain ⟨r, _, _, rfl⟩ := h; rfl
                   ·obtain ⟨r, a, _, _, rfl, _⟩ := h; rfl
 | x id => simp only [Rel] at h; subst h; exact C.one id (Nat.le_of_ble_eq_true hs)
 | s len n => simp only [Rel] at h; obtain ⟨rfl, _⟩ := h; rfl
 | p b o => simp only [Rel] at h; obtain ⟨r, _, rfl⟩ := h; rfl
 | cU t a => simp only [Rel] at h; obtain ⟨r, rfl, _⟩ := h; rfl
 | fn f a c => simp only [Rel] at h; obtain ⟨r, _, rfl, _⟩ := h; rfl
 | yl n => simp only [Rel] at h; obtain ⟨r, _, rfl⟩ := h; rfl
 | mp n => simp only [Rel] at h; obtain ⟨r, _, rfl⟩ := h; rfl
 | sy n => simp only [Rel] at h; obtain ⟨r, _, _, rfl⟩ := h; rfl
 | px n i => simp only [Rel] at h; obtain ⟨r, k, j, _, _, rfl⟩ := h; rfl
 | sr n => simp only [Rel] at h; obtain ⟨r, _, _, rfl⟩ := h; rfl
 | pr n i sz off => simp only [Rel] at h; obtain ⟨r, k, j, _, _, rfl⟩ := h; rfl
 | es => simp only [Rel] at h; obtain ⟨a, c, rfl⟩ := h; rfl
 | tl n i sz => simp only [Rel] at h; obtain ⟨r, k, j, a, _, _, _, _, rfl, _⟩ := h; rfl
 | _ => simp only [Rel] at h; subst h; rfl

/- memory -/
def CW : Cells → Prop
 | .y len n => n < 2 ^ (8 * len)
 | .l _ => True
def nD (C : Cx) (ρ : ak) (c : Cells) (arr : Array Value) (base : Nat) : Prop :=
 CW c ∧ ∀ (j : Nat) (a : AV), c.toL[j]? = some a → ∃ x, arr[base + j]? = some x ∧ Rel C ρ a x ∧ x.oneCell' = true
structure fC (C : Cx) (ρ : ak) (B : Fz) (k : eB) (r : R) (arr : Array Value) (fz : Nat × Nat) : Prop where
 cells : nD C ρ k.c arr r.base
 grown : k.g = true → r.base + r.cap * r.es = arr.size ∧ k.m ≤ r.cap * r.es ∧ k.c.len ≤ k.m ∧ r.es = k.es
 cold : ∀ x, r.base + k.fr ≤ x → x < arr.size → ¬ (fz.1 ≤ x ∧ x < fz.2)
 plain : k.st = false → fz.1 = fz.2 ∨ (fz.1 ≤ fz.2 ∧ fz.2 ≤ r.base + k.fr)
 old : B r.blk → k.c.len ≤ k.fr ∧ k.st = true ∧ k.g = false
 room : r.base + k.c.len ≤ arr.size
 base0 : k.g = false → r.base = 0
def iw : Ex → Option Code
 | .normal => none
 | .exit id => some (.exit id)
 | .goto l => some (.goto l)
 | .ret => some .ret
def stOf : Nat → LoopState
 | 0 => .ready
 | 1 => .busy
 | _ => .done
structure eV (C : Cx) (ρ : ak) (B : Fz) (k : gO) (r : R) (L : Loop) : Prop where
 own : ¬ B r.blk
 ps : L.params.toList = k.ps
 fB : L.assign = k.fB
 body : L.body = k.body
 okA : codeOk k.fB = true ∧ flat k.fB = true
 okB : codeOk k.body = true ∧ flat k.body = true
 size : L.tmps.size = k.nt
 nt : k.nt ≤ 16777213
 tm : ∀ t x, k.tm.get t = some x → Rel C ρ x (L.tmps.getD t undef)
 st : L.state = stOf k.st
 pend : L.pending = iw k.pend
def cb (C : Cx) (ρ : ak) : List ME → List MapEntry → Prop
 | [], l => l = []
 | e :: es, l => ∃ x xs, l = x :: xs ∧ Rel C ρ e.k x.key ∧ Rel C ρ e.v x.val ∧ x.born = e.b ∧ cb C ρ es xs
theorem cb.mono {C : Cx} {ρ ρ' : ak} (h : Sub ρ ρ') : ∀ (es : List ME) (l : List MapEntry), cb C ρ es l → cb C ρ' es l
 | [], l, hr => hr
 | e :: es, l, hr => by
  obtain ⟨x, xs, h1, h2, h3, h4, h5⟩ := hr
  exact ⟨x, xs, h1, Rel.mono h _ _ h2, Rel.mono h _ _ h3, h4, cb.mono h es xs h5⟩
structure MapAt (C : Cx) (ρ : ak) (B : Fz) (es : List ME) (clock : Nat) (r : R) (arr : Array MapEntry) (clk : Nat) : Prop where
 own : ¬ B r.blk
 ents : cb C ρ es arr.toList
 clk : clk = clock
structure lh (C : Cx) (ρ : ak) (B : Fz) (m since : Nat) (seen : List Nat) (last : Nat) (r : R) (mo : Option Nat) (si : Nat) (sn : Array Nat) (st : Nat) : Prop where
 own : ¬ B r.blk
 base : r.base = 0
 mp : ∃ rm, ρ m = some rm ∧ mo = some rm.blk
 since : si = since
 seen : sn.toList = seen
 last : st = last
structure j8 (C : Cx) (B : Fz) (id : Nat) (r : R) (arr : Array Value) (fz : Nat × Nat) : Prop where
 own : ¬ B r.blk
 base : r.base = 0
 str : ∃ l : List UInt8, C.nu id = .string ⟨l.toArray⟩ ∧ l.length = r.cap ∧ ∀ (j : Nat) (b : UInt8), l[j]? = some b → arr[j]? = some (.int .u8 (b.toNat : Int))
 cap : r.cap ≤ r.es
 room : r.es ≤ arr.size
 free : ∀ x, x < arr.size → ¬ (fz.1 ≤ x ∧ x < fz.2)
structure nA (C : Cx) (B : Fz) (id sz : Nat) (ro : Bool) (r : R) (arr : Array Value) (fz : Nat × Nat) : Prop where
 own : ro = false → ¬ B r.blk ∧ r.base = 0 ∧ (∀ x, x < arr.size → ¬ (fz.1 ≤ x ∧ x < fz.2)) ∧ r.es * sz ≤ arr.size
 row : ∃ cs : List Value, C.nu id = .tuple ⟨cs⟩ ∧ cs.length = r.cap * sz ∧ ∀ (j : Nat) (x : Value), cs[j]? = some x → arr[r.base + j]? = some x ∧ x.oneCell' = true
 cap : r.cap ≤ r.es
 pos : 1 ≤ sz
def rfP (P : Program) (g : Nat) : Option (List Nat × Code × Code) := match P.funcs[g]? with
 | some fn => (match fn.body with | some c => fy c | none => none)
 | none => none
def ei (C : Cx) (ρ : ak) (B : Fz) : aZ → R → Obj → Prop
 | .b k, r, .cells arr t fz => t = k.e ∧ fC C ρ B k r arr fz
 | .j k, r, .loop L => eV C ρ B k r L
 | .m es c, r, .map arr clk => MapAt C ρ B es c r arr clk
 | .it m si se la, r, .mapIter mo s n st => lh C ρ B m si se la r mo s n st
 | .t id e, r, .cells arr t fz => t = e ∧ j8 C B id r arr fz
 | .r id e sz ro, r, .cells arr t fz => (ro = false → t = e) ∧ nA C B id sz ro r arr fz
 | .k g tm nt st pend, r, .loop L => rfP C.P g = some (L.params.toList, L.assign, L.body) ∧ eV C ρ B ⟨L.params.toList, L.assign, L.body, iL tm .leaf, nt, st, pend⟩ r L
 | _, _, _ => False
def BlkOk (C : Cx) (ρ : ak) (B : Fz) (w : World) (k : aZ) (r : R) : Prop :=
 ∃ o, w.heap[r.blk]? = some o ∧ ei C ρ B k r o
structure Fits (C : Cx) (ng : Nat) (B : Fz) (ρ : ak) (H : T aZ) (w : World) : Prop where
 size : ∀ k, B k → k < w.heap.size
 glob : ∀ g, g < ng → ρ g = some ⟨g, 0, 0, 0⟩
 blk : ∀ v k, H.get v = some k → ∃ r, ρ v = some r ∧ BlkOk C ρ B w k r
 inj : ∀ v v' k k' r r', H.get v = some k → H.get v' = some k' → ρ v = some r → ρ v' = some r' → r.blk = r'.blk → v = v' ∨ (dE k = true ∧ dE k' = true)
 low : ∀ k, k < C.cE → B k
 inv : C.inv w
theorem Fits.fresh {C : Cx} {ng : Nat} {B : Fz} {ρ : ak} {H : T aZ} {w : World} (h : Fits C ng B ρ H w) {k : Nat} (hk : w.heap.size ≤ k) : ¬ B k := fun hb => by have := h.size k hb; omega
theorem Fits.nsz {C : Cx} {ng : Nat} {B : Fz} {ρ : ak} {H : T aZ} {w : World} (h : Fits C ng B ρ H w) : C.cE ≤ w.heap.size := by
 rcases Nat.lt_or_ge w.heap.size C.cE with hh | hh
 ·have := h.size _ (h.low _ hh); omega
 ·exact hh
def Ext (ρ ρ' : ak) (lo hi : Nat) : Prop := ∀ v, v < lo ∨ hi ≤ v → ρ' v = ρ v
def Free (ρ : ak) (lo hi : Nat) : Prop := ∀ v, lo ≤ v → v < hi → ρ v = none
theorem Ext.refl (ρ : ak) (lo hi : Nat) : Ext ρ ρ lo hi := fun _ _ => rfl
theorem Ext.sub {ρ ρ' : ak} {lo hi : Nat} (h : Ext ρ ρ' lo hi) (hf : Free ρ lo hi) : Sub ρ ρ' := fun v r hv => by
 by_cases h1 : v < lo
 ·rw [h v (.inl h1)]; exact hv
 ·by_cases h2 : hi ≤ v
  ·rw [h v (.inr h2)]; exact hv
  ·rw [hf v (by omega) (by omega)] at hv; cases hv
theorem Ext.trans {ρ ρ' ρ'' : ak} {a b c : Nat} (h : Ext ρ ρ' a b) (h' : Ext ρ' ρ'' b c) (hab : a ≤ b) (hbc : b ≤ c) : Ext ρ ρ'' a c := fun v hv => by
 rw [h' v (by omega), h v (by omega)]
theorem Free.left {ρ : ak} {a b c : Nat} (h : Free ρ a c) (hbc : b ≤ c) : Free ρ a b := fun v h1 h2 => h v h1 (by omega)
theorem Free.right {ρ ρ' : ak} {a b c : Nat} (h : Free ρ a c) (hab : a ≤ b) (he : Ext ρ ρ' a b) : Free ρ' b c := fun v h1 h2 => by
 rw [he v (.inr h1)]; exact h v (by omega) h2
theorem Free.none {ρ : ak} (a : Nat) : Free ρ a a := fun v h1 h2 => by omega
theorem nD.mono {C : Cx} {ρ ρ' : ak} {c : Cells} {arr : Array Value} {base : Nat} (hs : Sub ρ ρ') (h : nD C ρ c arr base) : nD C ρ' c arr base :=
 ⟨h.1, fun j a hj => let ⟨x, h1, h2, h3⟩ := h.2 j a hj; ⟨x, h1, Rel.mono hs a x h2, h3⟩⟩
theorem fC.mono {C : Cx} {ρ ρ' : ak} {B : Fz} {k : eB} {r : R} {arr : Array Value} {fz : Nat × Nat} (hs : Sub ρ ρ') (h : fC C ρ B k r arr fz) : fC C ρ' B k r arr fz :=
 { h with cells := h.cells.mono hs }
theorem eV.mono {C : Cx} {ρ ρ' : ak} {B : Fz} {k : gO} {r : R} {L : Loop} (hs : Sub ρ ρ') (h : eV C ρ B k r L) : eV C ρ' B k r L :=
 { h with tm := fun t x ht => Rel.mono hs x _ (h.tm t x ht) }
theorem MapAt.mono {C : Cx} {ρ ρ' : ak} {B : Fz} {es : List ME} {c : Nat} {r : R} {arr : Array MapEntry} {clk : Nat} (hs : Sub ρ ρ') (h : MapAt C ρ B es c r arr clk) : MapAt C ρ' B es c r arr clk :=
 { h with ents := cb.mono hs _ _ h.ents }
theorem lh.mono {C : Cx} {ρ ρ' : ak} {B : Fz} {m si : Nat} {se : List Nat} {la : Nat} {r : R} {mo : Option Nat} {s : Nat} {n : Array Nat} {st : Nat} (hs : Sub ρ ρ') (h : lh C ρ B m si se la r mo s n st) : lh C ρ' B m si se la r mo s n st :=
 { h with mp := let ⟨rm, h1, h2⟩ := h.mp; ⟨rm, hs _ _ h1, h2⟩ }
theorem ei.mono {C : Cx} {ρ ρ' : ak} {B : Fz} {k : aZ} {r : R} {o : Obj} (hs : Sub ρ ρ') (h : ei C ρ B k r o) : ei C ρ' B k r o := by
 cases k <;> cases o <;> first | exact ⟨h.1, h.2.mono hs⟩ | exact eV.mono hs h | exact MapAt.mono hs h | exact lh.mono hs h | exact h
def bW (ρ : ak) (n : Nat) (r : R) : ak := fun v => if v = n then some r else ρ v
theorem qF {ρ : ak} {n : Nat} {r : R} (h : ρ n = none) : Sub ρ (bW ρ n r) := fun v x hv => by
 unfold bW; split
 ·rename_i e; subst e; rw [h] at hv; cases hv
 ·exact hv
theorem fW (ρ : ak) (n : Nat) (r : R) : Ext ρ (bW ρ n r) n (n + 1) := fun v hv => by
 unfold bW; rw [if_neg (by omega)]
theorem Fits.new {C : Cx} {ng : Nat} {B : Fz} {ρ : ak} {H : T aZ} {w : World} {n : Nat} {k : aZ} {r : R} {o : Obj} {w' : World}
 (h : Fits C ng B ρ H w) (hn : n ≤ 16777213) (av : ng ≤ n) (hf : ρ n = none) (hr : r.blk = w.heap.size) (hk : ei C ρ B k r o) (hw' : w'.heap = w.heap.push o) :
 Fits C ng B (bW ρ n r) (H.set n k) w' := by
 have hs := qF (r := r) hf
 have hsz : w'.heap.size = w.heap.size + 1 := by rw [hw']; simp
 refine ⟨fun k hk => by have := h.size k hk; omega, fun g hg => by rw [hs g _ (h.glob g hg)], fun v k' hv => ?_, ?_, ?_, ?_⟩
 ·rw [cm _ _ _ _ hn] at hv
  split at hv
  ·rename_i e; subst e; injection hv with hv; subst hv
   refine ⟨r, by simp [bW], o, ?_, hk.mono hs⟩
   rw [hw', hr]; simp
  ·obtain ⟨r', h1, o', h2, h3⟩ := h.blk v k' hv
   refine ⟨r', hs _ _ h1, o', ?_, h3.mono hs⟩
   have hlt : r'.blk < w.heap.size := by
    rcases Nat.lt_or_ge r'.blk w.heap.size with h | h
    ·exact h
    ·rw [Array.getElem?_eq_none h] at h2; cases h2
   rw [hw', Array.getElem?_push, if_neg (by omega)]; exact h2
 ·have hlt : ∀ v k' r', H.get v = some k' → ρ v = some r' → r'.blk < w.heap.size := fun v k' r' hv hr' => by
   obtain ⟨r'', h1, o', h2, h3⟩ := h.blk v k' hv
   rw [hr'] at h1; injection h1 with h1; subst h1
   rcases Nat.lt_or_ge r'.blk w.heap.size with h | h
   ·exact h
   ·rw [Array.getElem?_eq_none h] at h2; cases h2
  intro v v' k1 k2 r1 r2 hv hv' hr1 hr2 he
  rw [cm _ _ _ _ hn] at hv hv'
  unfold bW at hr1 hr2
  by_cases e1 : v = n <;> by_cases e2 : v' = n
  ·exact .inl (by omega)
  ·rw [if_pos e1] at hr1; rw [if_neg e2] at hr2 hv'; injection hr1 with hr1; subst hr1
   have := hlt _ _ _ hv' hr2; exfalso; omega
  ·rw [if_neg e1] at hr1 hv; rw [if_pos e2] at hr2; injection hr2 with hr2; subst hr2
   have := hlt _ _ _ hv hr1; exfalso; omega
  ·rw [if_neg e1] at hr1 hv; rw [if_neg e2] at hr2 hv'
   exact h.inj v v' k1 k2 r1 r2 hv hv' hr1 hr2 he
 ·exact h.low
 ·refine C.fx w w' (fun b hb => ?_) h.inv
  have := h.size _ (h.low _ hb)
  rw [hw', Array.getElem?_push, if_neg (by omega)]
theorem Fits.solo {C : Cx} {ng : Nat} {B : Fz} {ρ : ak} {H : T aZ} {w : World} (h : Fits C ng B ρ H w) {u v : Nat} {j k : aZ} {r r' : R} (hu : H.get u = some j) (hv : H.get v = some k) (hr : ρ u = some r) (hr' : ρ v = some r') (hk : dE k = false) (e : r.blk = r'.blk) : u = v :=
 (h.inj u v j k r r' hu hv hr hr' e).resolve_right fun q => by rw [hk] at q; cases q.2
theorem Fits.upd {C : Cx} {ng : Nat} {B : Fz} {ρ : ak} {H : T aZ} {w w' : World} {v : Nat} {k k' : aZ} {r : R} {o : Obj}
 (h : Fits C ng B ρ H w) (hn : v ≤ 16777213) (hv : H.get v = some k) (hr : ρ v = some r) (hk : ei C ρ B k' r o)
 (hw : w'.heap[r.blk]? = some o) (ho : ∀ b, b ≠ r.blk → w'.heap[b]? = w.heap[b]?) (hsz : w'.heap.size = w.heap.size) (hB : ∀ b, B b → w'.heap[b]? = w.heap[b]?) (hro : dE k = false := by rfl) :
 Fits C ng B ρ (H.set v k') w' := by
 refine ⟨fun k hk => by have := h.size k hk; omega, h.glob, fun u ku hu => ?_, ?_, h.low, C.fx w w' (fun b hb => hB b (h.low b hb)) h.inv⟩
 ·rw [cm _ _ _ _ hn] at hu
  split at hu
  ·rename_i e; subst e; injection hu with hu; subst hu
   exact ⟨r, hr, o, hw, hk⟩
  ·rename_i e
   obtain ⟨r', h1, o', h2, h3⟩ := h.blk u ku hu
   refine ⟨r', h1, o', ?_, h3⟩
   rw [ho _ (fun e' => e (h.solo hu hv h1 hr hro e'))]; exact h2
 ·intro a b k1 k2 r1 r2 ha hb hr1 hr2 he
  rw [cm _ _ _ _ hn] at ha hb
  by_cases e1 : a = v <;> by_cases e2 : b = v
  ·exact .inl (by omega)
  ·rw [if_neg e2] at hb; subst e1
   exact absurd (h.solo hb hv hr2 hr1 hro he.symm) e2
  ·rw [if_neg e1] at ha; subst e2
   exact absurd (h.solo ha hv hr1 hr2 hro he) e1
  ·rw [if_neg e1] at ha; rw [if_neg e2] at hb
   exact h.inj a b k1 k2 r1 r2 ha hb hr1 hr2 he
theorem Fits.del {C : Cx} {ng : Nat} {B : Fz} {ρ : ak} {H : T aZ} {w : World} {v : Nat} (h : Fits C ng B ρ H w) (hn : v ≤ 16777213) : Fits C ng B ρ (H.del v) w := by
 have : ∀ x kx, (H.del v).get x = some kx → H.get x = some kx := fun x kx hx => by
  rw [jo _ _ _ hn] at hx; split at hx
  ·cases hx
  ·exact hx
 exact ⟨h.size, h.glob, fun u ku hu => h.blk u ku (this _ _ hu), fun a b k1 k2 r1 r2 ha hb => h.inj a b k1 k2 r1 r2 (this _ _ ha) (this _ _ hb), h.low, h.inv⟩
theorem Fits.sub {C : Cx} {ng : Nat} {B : Fz} {ρ : ak} {H H' : T aZ} {w : World} (h : Fits C ng B ρ H w) (hh : ∀ v k, H'.get v = some k → H.get v = some k) : Fits C ng B ρ H' w :=
 ⟨h.size, h.glob, fun u ku hu => h.blk u ku (hh _ _ hu), fun a b k1 k2 r1 r2 ha hb => h.inj a b k1 k2 r1 r2 (hh _ _ ha) (hh _ _ hb), h.low, h.inv⟩
theorem Fits.move {C : Cx} {ng : Nat} {B : Fz} {ρ : ak} {H : T aZ} {w w' : World} {v n : Nat} {k k' : aZ} {r r' : R} {o : Obj} (h : Fits C ng B ρ H w) (hv : H.get v = some k) (hr : ρ v = some r) (hvn : v ≤ 16777213) (hn : n ≤ 16777213) (hf : ρ n = none)
 (hk : ei C ρ B k' r' o) (hrr : r'.blk = r.blk) (hw : w'.heap[r.blk]? = some o) (ho : ∀ b, b ≠ r.blk → w'.heap[b]? = w.heap[b]?) (hsz : w'.heap.size = w.heap.size) (hB : ∀ b, B b → w'.heap[b]? = w.heap[b]?) (hro : dE k = false := by rfl) :
 Fits C ng B (bW ρ n r') ((H.del v).set n k') w' := by
 have hs := qF (r := r') hf
 have hget : ∀ u ku, u ≠ n → ((H.del v).set n k').get u = some ku → u ≠ v ∧ H.get u = some ku := fun u ku hun hu => by
  rw [cm _ _ _ _ hn, if_neg hun, jo _ _ _ hvn] at hu
  split at hu
  ·cases hu
  ·rename_i e; exact ⟨e, hu⟩
 refine ⟨fun k hk => by have := h.size k hk; omega, fun g hg => by rw [hs g _ (h.glob g hg)], fun u ku hu => ?_, ?_, h.low, C.fx w w' (fun b hb => hB b (h.low b hb)) h.inv⟩
 ·by_cases e : u = n
  ·subst e
   rw [cm _ _ _ _ hn, if_pos rfl] at hu; injection hu with hu; subst hu
   exact ⟨r', by simp [bW], o, by rw [hrr]; exact hw, hk.mono hs⟩
  ·obtain ⟨e2, hu'⟩ := hget u ku e hu
   obtain ⟨r2, h1, o2, h2, h3⟩ := h.blk u ku hu'
   refine ⟨r2, hs _ _ h1, o2, ?_, h3.mono hs⟩
   rw [ho _ (fun e' => e2 (h.solo hu' hv h1 hr hro e'))]; exact h2
 ·intro a b k1 k2 r1 r2 ha hb hr1 hr2 he
  by_cases e1 : a = n <;> by_cases e2 : b = n
  ·exact .inl (by omega)
  ·subst e1
   obtain ⟨e3, hb'⟩ := hget b k2 e2 hb
   simp only [bW, if_pos rfl] at hr1; injection hr1 with hr1; subst hr1
   unfold bW at hr2; rw [if_neg e2] at hr2
   exact absurd (h.solo hb' hv hr2 hr hro (by rw [← he, hrr])) e3
  ·subst e2
   obtain ⟨e3, ha'⟩ := hget a k1 e1 ha
   simp only [bW, if_pos rfl] at hr2; injection hr2 with hr2; subst hr2
   unfold bW at hr1; rw [if_neg e1] at hr1
   exact absurd (h.solo ha' hv hr1 hr hro (by rw [he, hrr])) e3
  ·obtain ⟨_, ha'⟩ := hget a k1 e1 ha
   obtain ⟨_, hb'⟩ := hget b k2 e2 hb
   unfold bW at hr1 hr2; rw [if_neg e1] at hr1; rw [if_neg e2] at hr2
   exact h.inj a b k1 k2 r1 r2 ha' hb' hr1 hr2 he
theorem jl {C : Cx} {B : Fz} {ρ : ak} {w : World} {ng : Nat} {H : T aZ} (hF : Fits C ng B ρ H w) {v id e sz : Nat} {ro : Bool} (hv : H.get v = some (.r id e sz ro)) {r : R} (hr : ρ v = some r) : ∃ arr t fz, w.heap[r.blk]? = some (.cells arr t fz) ∧ (ro = false → t = e) ∧ nA C B id sz ro r arr fz := by
 obtain ⟨r', h1, o, h2, h3⟩ := hF.blk v _ hv
 rw [hr] at h1; injection h1 with h1; subst h1
 cases o with
 | cells arr t fz => obtain ⟨h5, h4⟩ := h3; exact ⟨arr, t, fz, h2, h5, h4⟩
 | _ => exact h3.elim
end Go.AX
end
section
namespace Go.AX
theorem pG {a b : Nat} (h : a ≤ b) : Nat.ble a b = true := Nat.ble_eq_true_of_le h
theorem Au {a b : Nat} (h : a < b) : Nat.blt a b = true := Nat.ble_eq_true_of_le h
theorem lY {a b : Nat} (h : ¬ a ≤ b) : Nat.ble a b = false := Bool.eq_false_iff.2 fun e => h (Nat.le_of_ble_eq_true e)
theorem ri {a b : Nat} (h : ¬ a < b) : Nat.blt a b = false := Bool.eq_false_iff.2 fun e => h (Nat.le_of_ble_eq_true e)
theorem qZ : ∀ (l : List AV) (n : Nat), kf l n = l[n]?
 | [], n => by simp [kf]
 | a :: l, n => by
  unfold kf
  cases n with
  | zero => rfl
  | succ n => show kf l n = _; rw [qZ l n]; simp
theorem fE (len n : Nat) : (cv len n).length = len := by simp [cv]
theorem fS (len n j : Nat) : (cv len n)[j]? = if j < len then some (.i .u8 (.ofNat (byteAt n j))) else none := by
 unfold cv
 split
 ·rename_i h; simp [h]
 ·rename_i h; simp; omega
theorem nc {len n : Nat} {l : List AV} (h : l.length = len) (hj : ∀ j, j < len → l[j]? = some (.i .u8 (.ofNat (byteAt n j)))) : cv len n = l := by
 apply List.ext_getElem?
 intro j
 rw [fS]
 split
 ·rename_i hlt; rw [hj j hlt]
 ·rename_i hlt; rw [List.getElem?_eq_none (by omega)]
theorem Cells.len_eq (c : Cells) : c.len = c.toL.length := by
 cases c <;> simp [Cells.len, Cells.toL, fE]
theorem Cells.get_eq (c : Cells) (j : Nat) : c.get j = c.toL[j]? := by
 cases c with
 | l vs => exact qZ vs j
 | y len n =>
  simp only [Cells.get, Cells.toL, fS]
  by_cases h : j < len
  ·rw [if_pos h, Au h]; rfl
  ·rw [if_neg h, ri h]; rfl
theorem Cells.nk {c c' : Cells} {o n : Nat} (h : c.sub o n = some c') : o + n ≤ c.len ∧ c'.toL = (c.toL.drop o).take n ∧ CW c' := by
 cases c with
 | l vs =>
  simp only [Cells.sub] at h
  by_cases hc : o + n ≤ vs.length
  ·rw [show Nat.ble (Nat.add o n) vs.length = true from Nat.ble_eq_true_of_le hc] at h
   injection h with h; subst h; exact ⟨hc, rfl, trivial⟩
  ·rw [show Nat.ble (Nat.add o n) vs.length = false from lY hc] at h; cases h
 | y len m =>
  simp only [Cells.sub] at h
  by_cases hc : o + n ≤ len
  ·rw [show Nat.ble (Nat.add o n) len = true from Nat.ble_eq_true_of_le hc] at h
   injection h with h; subst h
   refine ⟨hc, ?_, wy _ _⟩
   show cv n (low (m >>> (8 * o)) n) = _
   refine nc (by simp [Cells.toL, fE]; omega) fun j hj => ?_
   show ((cv len m).drop o |>.take n)[j]? = _
   rw [List.getElem?_take, if_pos hj, List.getElem?_drop, fS, if_pos (by omega), FE _ _ _ hj, rY]
  ·rw [show Nat.ble (Nat.add o n) len = false from lY hc] at h; cases h
theorem qE : ∀ (l : List AV) (o : Nat) (d : List AV) (j : Nat), o ≤ l.length → (dj l o d)[j]? = if j < o then l[j]? else if j < o + d.length then d[j - o]? else l[j]?
 | l, 0, d, j, _ => by
  cases l with
  | nil =>
   simp only [dj, List.drop_nil, List.append_nil, Nat.not_lt_zero, if_false, Nat.zero_add, Nat.sub_zero]
   split
   ·rfl
   ·rw [List.getElem?_eq_none (by omega)]; simp
  | cons v l =>
   simp only [dj, Nat.not_lt_zero, if_false, Nat.zero_add, Nat.sub_zero]
   rw [List.getElem?_append]
   split
   ·rfl
   ·rw [List.getElem?_drop]; congr 1; omega
 | [], o + 1, d, j, h => by simp at h
 | v :: l, o + 1, d, j, h => by
  simp only [dj]
  cases j with
  | zero => simp
  | succ j =>
   simp only [List.getElem?_cons_succ, Nat.add_lt_add_iff_right]
   rw [qE l o d j (by simpa using h)]
   have e1 : j + 1 < o + 1 + d.length ↔ j < o + d.length := by omega
   simp only [e1, show j + 1 - (o + 1) = j - o by omega]
theorem qD : ∀ (l : List AV) (o : Nat) (d : List AV), o ≤ l.length → (dj l o d).length = max l.length (o + d.length)
 | l, 0, d, _ => by
  cases l <;> simp [dj] <;> omega
 | [], o + 1, d, h => by simp at h
 | v :: l, o + 1, d, h => by
  simp only [dj, List.length_cons]
  rw [qD l o d (by simpa using h)]; omega
theorem aN3 (n m k o len j : Nat) (ho : o ≤ len) (hn : n < 2 ^ (8 * len)) (hm : m < 2 ^ (8 * k)) :
 byteAt (low n o + (m * 2 ^ (8 * o) + (n >>> (8 * (o + k))) * 2 ^ (8 * (o + k)))) j = if j < o then byteAt n j else if j < o + k then byteAt m (j - o) else byteAt n j := by
 have e : low n o + (m * 2 ^ (8 * o) + (n >>> (8 * (o + k))) * 2 ^ (8 * (o + k))) = low n o + (m + (n >>> (8 * (o + k))) * 2 ^ (8 * k)) * 2 ^ (8 * o) := by
  rw [Nat.add_mul, Nat.mul_assoc, ← Nat.pow_add]; congr 4; omega
 rw [e, mh _ _ _ _ (wy _ _)]
 split
 ·rename_i h; exact FE _ _ _ h
 ·rename_i h
  rw [mh _ _ _ _ hm]
  by_cases h2 : j < o + k
  ·rw [if_pos (by omega), if_pos h2]
  ·rw [if_neg (by omega), if_neg h2, rY]; congr 1; omega
theorem lay_lt (n m k o len : Nat) (ho : o ≤ len) (hn : n < 2 ^ (8 * len)) (hm : m < 2 ^ (8 * k)) :
 low n o + (m * 2 ^ (8 * o) + (n >>> (8 * (o + k))) * 2 ^ (8 * (o + k))) < 2 ^ (8 * max len (o + k)) := by
 have e : low n o + (m * 2 ^ (8 * o) + (n >>> (8 * (o + k))) * 2 ^ (8 * (o + k))) = (low n o + m * 2 ^ (8 * o)) + (n >>> (8 * (o + k))) * 2 ^ (8 * (o + k)) := by omega
 rw [e]
 have h1 := add_lt o k (low n o) m (wy _ _) hm
 by_cases hc : len ≤ o + k
 ·rw [Nat.shiftRight_eq_div_pow, Nat.div_eq_of_lt (Nat.lt_of_lt_of_le hn (Nat.pow_le_pow_right (by omega) (by omega))), Nat.zero_mul, Nat.add_zero, Nat.max_eq_right hc]
  exact h1
 ·have h2 : n >>> (8 * (o + k)) < 2 ^ (8 * (len - (o + k))) := by
   rw [Nat.shiftRight_eq_div_pow]
   apply Nat.div_lt_of_lt_mul
   rw [← Nat.pow_add, show 8 * (o + k) + 8 * (len - (o + k)) = 8 * len by omega]; exact hn
  have := add_lt (o + k) (len - (o + k)) _ _ h1 h2
  rw [show o + k + (len - (o + k)) = max len (o + k) by omega] at this
  exact this
theorem Cells.CM {c d c' : Cells} {o : Nat} (hc : CW c) (hd : CW d) (h : c.put o d = some c') : o ≤ c.len ∧ c'.toL = dj c.toL o d.toL ∧ CW c' := by
 have gen : (cond (Nat.ble o c.len) (some (Cells.l (dj c.toL o d.toL))) none) = some c' → o ≤ c.len ∧ c'.toL = dj c.toL o d.toL ∧ CW c' := by
  intro h
  by_cases hcl : o ≤ c.len
  ·rw [show Nat.ble o c.len = true from Nat.ble_eq_true_of_le hcl] at h
   injection h with h; subst h; exact ⟨hcl, rfl, trivial⟩
  ·rw [lY hcl] at h; cases h
 cases c with
 | l vs => exact gen h
 | y len n =>
  cases d with
  | l ws => exact gen h
  | y k m =>
   simp only [Cells.put] at h
   by_cases hcl : o ≤ len
   ·rw [show Nat.ble o len = true from Nat.ble_eq_true_of_le hcl] at h
    injection h with h; subst h
    refine ⟨hcl, ?_, ?_⟩
    ·show cv (max len (o + k)) (low n o + (m <<< (8 * o) + (n >>> (8 * (o + k))) <<< (8 * (o + k)))) = _
     simp only [Nat.shiftLeft_eq]
     refine nc (by rw [qD _ _ _ (by simpa [Cells.toL, fE] using hcl)]; simp [Cells.toL, fE]) fun j hj => ?_
     rw [qE _ _ _ _ (by simpa [Cells.toL, fE] using hcl), aN3 n m k o len j hcl hc hd]
     simp only [Cells.toL, fE]
     by_cases h1 : j < o
     ·rw [if_pos h1, if_pos h1, fS, if_pos (by omega)]
     ·rw [if_neg h1, if_neg h1]
      by_cases h2 : j < o + k
      ·rw [if_pos h2, if_pos h2, fS, if_pos (by omega)]
      ·rw [if_neg h2, if_neg h2, fS, if_pos (by omega)]
    ·show low n o + (m <<< (8 * o) + (n >>> (8 * (o + k))) <<< (8 * (o + k))) < _
     simp only [Nat.shiftLeft_eq]
     exact lay_lt n m k o len hcl hc hd
   ·rw [lY hcl] at h; cases h
theorem Cells.FP {c d : Cells} (hc : CW c) (hd : CW d) : (c.app d).toL = c.toL ++ d.toL ∧ CW (c.app d) := by
 cases c with
 | l vs => exact ⟨rfl, trivial⟩
 | y len n =>
  cases d with
  | l ws => exact ⟨rfl, trivial⟩
  | y k m =>
   refine ⟨?_, ?_⟩
   ·show cv (len + k) (n + m <<< (8 * len)) = _
    rw [Nat.shiftLeft_eq]
    refine nc (by simp [Cells.toL, fE]) fun j hj => ?_
    rw [List.getElem?_append, mh _ _ _ _ hc]
    simp only [Cells.toL, fE]
    by_cases h1 : j < len
    ·rw [if_pos h1, if_pos h1, fS, if_pos h1]
    ·rw [if_neg h1, if_neg h1, fS, if_pos (by omega)]
   ·show n + m <<< (8 * len) < _
    rw [Nat.shiftLeft_eq]
    exact add_lt _ _ _ _ hc hd
theorem aA7 {v : AV} {x : Nat} (h : rW v = some x) : v = .i .u8 (.ofNat x) ∧ x < 256 := by
 unfold rW at h
 split at h
 ·rename_i n
  by_cases hn : n < 256
  ·rw [show Nat.blt n 256 = true from Nat.ble_eq_true_of_le hn] at h; injection h with h; subst h; exact ⟨rfl, hn⟩
  ·rw [ri hn] at h; cases h
 ·cases h
theorem Cells.set1_spec {c c' : Cells} {o : Nat} {v : AV} (hc : CW c) (h : c.set1 o v = some c') : o < c.len ∧ c'.toL = dj c.toL o [v] ∧ CW c' := by
 cases c with
 | l vs =>
  simp only [Cells.set1] at h
  by_cases hcl : o < vs.length
  ·rw [show Nat.blt o vs.length = true from Nat.ble_eq_true_of_le hcl] at h
   injection h with h; subst h; exact ⟨hcl, rfl, trivial⟩
  ·rw [ri hcl] at h; cases h
 | y len n =>
  simp only [Cells.set1] at h
  cases hb : rW v with
  | none =>
   rw [hb] at h
   by_cases hcl : o < len
   ·simp only [show Nat.blt o len = true from Nat.ble_eq_true_of_le hcl, cond_true] at h
    injection h with h; subst h
    exact ⟨hcl, rfl, trivial⟩
   ·simp only [ri hcl, cond_false] at h; cases h
  | some x =>
   rw [hb] at h
   obtain ⟨rfl, hx⟩ := aA7 hb
   by_cases hcl : o < len
   ·simp only [show Nat.blt o len = true from Nat.ble_eq_true_of_le hcl, cond_true] at h
    injection h with h; subst h
    have e : ∀ j, (if j < o then byteAt n j else if j < o + 1 then byteAt x (j - o) else byteAt n j) = byteAt (low n o + (x <<< (8 * o) + (n >>> (8 * (o + 1))) <<< (8 * (o + 1)))) j := fun j => by
     simp only [Nat.shiftLeft_eq]
     exact (aN3 n x 1 o len j (by omega) hc hx).symm
    refine ⟨hcl, ?_, ?_⟩
    ·show cv len (low n o + (x <<< (8 * o) + (n >>> (8 * (o + 1))) <<< (8 * (o + 1)))) = _
     refine nc (by rw [qD _ _ _ (by simp [Cells.toL, fE]; omega)]; simp [Cells.toL, fE]; omega) fun j hj => ?_
     rw [qE _ _ _ _ (by simp [Cells.toL, fE]; omega), ← e j]
     simp only [Cells.toL, List.length_cons, List.length_nil, Nat.zero_add]
     by_cases h1 : j < o
     ·rw [if_pos h1, if_pos h1, fS, if_pos (by omega)]
     ·rw [if_neg h1, if_neg h1]
      by_cases h2 : j < o + 1
      ·rw [if_pos h2, if_pos h2, show j - o = 0 by omega]
       simp [lX]; omega
      ·rw [if_neg h2, if_neg h2, fS, if_pos (by omega)]
    ·have := lay_lt n x 1 o len (by omega) hc hx
     rw [Nat.max_eq_left (by omega)] at this
     show low n o + (x <<< (8 * o) + (n >>> (8 * (o + 1))) <<< (8 * (o + 1))) < _
     simp only [Nat.shiftLeft_eq]
     exact this
   ·simp only [ri hcl, cond_false] at h; cases h
theorem tf : ∀ {l : List AV} {k n : Nat}, iI l = some (k, n) → k = l.length ∧ cv k n = l ∧ n < 2 ^ (8 * k)
 | [], k, n, h => by simp [iI] at h; obtain ⟨rfl, rfl⟩ := h; exact ⟨rfl, rfl, by simp⟩
 | v :: l, k, n, h => by
  unfold iI at h
  split at h
  ·rename_i x k' n' hx hl
   simp only [Option.some.injEq, Prod.mk.injEq] at h
   obtain ⟨rfl, rfl⟩ := h
   obtain ⟨h1, h2, h3⟩ := tf hl
   obtain ⟨rfl, hx'⟩ := aA7 hx
   have hb : x < 2 ^ (8 * 1) := hx'
   have e : Nat.add x (Nat.mul 256 n') = x + n' * 2 ^ (8 * 1) := by show x + 256 * n' = _; rw [Nat.mul_comm]
   refine ⟨by simp [h1], ?_, ?_⟩
   ·rw [e, show Nat.succ k' = 1 + k' by omega]
    refine nc (by simp [h1]; omega) fun j hj => ?_
    rw [mh _ _ _ _ hb]
    cases j with
    | zero => simp [lX]; omega
    | succ j =>
     rw [if_neg (by omega)]
     have := congrArg (fun l => l[j]?) h2
     simp only [fS] at this
     rw [if_pos (by omega)] at this
     simp only [List.getElem?_cons_succ, Nat.add_sub_cancel]
     rw [← this]
   ·rw [e, show Nat.succ k' = 1 + k' by omega]; exact add_lt 1 k' _ _ hb h3
  ·cases h
theorem toCells_spec (u : Bool) (l : List AV) : (toCells u l).toL = l ∧ CW (toCells u l) := by
 cases u with
 | false => exact ⟨rfl, trivial⟩
 | true =>
  unfold toCells
  simp only [cond_true]
  cases h : iI l with
  | none => exact ⟨rfl, trivial⟩
  | some r => obtain ⟨k, n⟩ := r
              obtain ⟨h1, h2, h3⟩ := tf h
              exact ⟨h2, h3⟩
theorem aL2 {c : Cells} (hc : CW c) : ∀ n, (rep c n).toL = (List.replicate n c.toL).flatten ∧ CW (rep c n)
 | 0 => by cases c <;> simp [rep, Cells.toL, CW, cv]
 | n + 1 => by
  obtain ⟨h1, h2⟩ := aL2 hc n
  obtain ⟨h3, h4⟩ := Cells.FP hc h2
  exact ⟨by rw [rep, h3, h1]; simp [List.replicate_succ], h4⟩
theorem aI4 (len : Nat) : cv len 0 = List.replicate len (.i .u8 (.ofNat 0)) := by
 refine nc (by simp) fun j hj => ?_
 rw [lX]; simp [hj]
theorem reps_spec {c : Cells} (hc : CW c) (n : Nat) : (jT c n).toL = (List.replicate n c.toL).flatten ∧ CW (jT c n) := by
 unfold jT
 split
 ·rename_i len
  refine ⟨?_, Nat.two_pow_pos _⟩
  show cv (len * n) 0 = (List.replicate n (cv len 0)).flatten
  rw [aI4, aI4, List.flatten_replicate_replicate, Nat.mul_comm]
 ·exact aL2 hc n
end Go.AX
end
section
namespace Go.AX
def bd (l : List Value) (o : Nat) (d : List Value) : List Value := l.take o ++ d ++ l.drop (o + d.length)
theorem iq (l : List Value) (o : Nat) (d : List Value) (h : o + d.length ≤ l.length) : (bd l o d).length = l.length := by
 simp [bd]; omega
theorem fc (l : List Value) (o : Nat) (d : List Value) (j : Nat) (h : o + d.length ≤ l.length) :
 (bd l o d)[j]? = if j < o then l[j]? else if j < o + d.length then d[j - o]? else l[j]? := by
 unfold bd
 rw [List.getElem?_append, List.getElem?_append]
 simp only [List.length_append, List.length_take, Nat.min_eq_left (show o ≤ l.length by omega)]
 by_cases h1 : j < o
 ·rw [if_pos (by omega), if_pos h1, if_pos h1, List.getElem?_take, if_pos h1]
 ·rw [if_neg h1]
  by_cases h2 : j < o + d.length
  ·rw [if_pos h2, if_pos h2, if_neg h1]
  ·rw [if_neg h2, if_neg h2, List.getElem?_drop, show o + d.length + (j - (o + d.length)) = j by omega, if_neg h1]
theorem lv (P : Program) (g : Nat) (t : TypeId) (fz : Nat × Nat) (o : Nat) : ∀ (vs : List Value) (i : Nat) (cur : Array Value) (w : World),
 w.heap[g]? = some (.cells cur t fz) → (∀ x, o + i ≤ x → x < cur.size → ¬ (fz.1 ≤ x ∧ x < fz.2)) → o + i + vs.length ≤ cur.size → (∀ v ∈ vs, v.oneCell' = true) →
 (storeCells ⟨g, o, none⟩ vs i).run P w = .ok () (w.setRow g (bd cur.toList (o + i) vs).toArray) := by
 intro vs
 induction vs with
 | nil =>
  intro i cur w hg _ _ _
  have : (bd cur.toList (o + i) []).toArray = cur := by simp [bd]
  rw [this, setRow_self w g cur t fz hg]; rfl
 | cons v rest ih =>
  intro i cur w hg hc hl h1
  have hi : o + i < cur.size := by simp at hl; omega
  have hcell : w.cell? ⟨g, o + i, none⟩ = some cur[o + i] := by simp [World.cell?, hg, hi]
  have hfro : w.frozen? ⟨g, o + i, none⟩ = false := by
   have := hc (o + i) (Nat.le_refl _) hi
   simp only [World.frozen?, hg, Bool.and_eq_false_iff, decide_eq_false_iff_not]
   exact Classical.not_and_iff_not_or_not.1 this
  have hst : (Go.store ((⟨g, o, none⟩ : Addr).add i) v).run P w = .ok () (w.setRow g (cur.setIfInBounds (o + i) v)) := by
   rw [Addr.add_lit, run_store P w _ v _ (h1 v (by simp)), hcell]
   simp [hfro, setCell_eq_setRow w g (o + i) cur t fz v hg]
  have ih' := ih (i + 1) (cur.setIfInBounds (o + i) v) (w.setRow g (cur.setIfInBounds (o + i) v)) (setRow_heap w g cur _ t _ hg)
   (fun x hx hxs => hc x (by omega) (by simpa using hxs)) (by simp at hl ⊢; omega) (fun x hx => h1 x (by simp [hx]))
  simp only [storeCells, Sem.run_bind, hst, Result.andThen_ok]
  rw [ih', setRow_setRow]
  congr 2
  apply Array.ext'
  simp only []
  apply List.ext_getElem?
  intro j
  simp only [List.length_cons] at hl
  rw [fc _ _ _ _ (by simp; omega), fc _ _ _ _ (by simp; omega)]
  simp only [Array.toList_setIfInBounds, List.getElem?_set, Array.length_toList, List.length_cons]
  by_cases e1 : j < o + i
  ·rw [if_pos (by omega), if_pos e1, if_neg (by omega)]
  ·rw [if_neg e1]
   by_cases e2 : j = o + i
   ·subst e2; simp [hi]
   ·rw [if_neg (by omega)]
    by_cases e3 : j < o + i + (rest.length + 1)
    ·rw [if_pos (by omega), if_pos e3, show j - (o + i) = (j - (o + (i + 1))) + 1 by omega, List.getElem?_cons_succ]
    ·rw [if_neg (by omega), if_neg e3, if_neg (by omega)]
section
variable {C : Cx} {ng : Nat} {B : Fz} {ρ : ak} {H : T aZ} {w : World}
theorem Below.row {g : Nat} {cs cs0 : Array Value} {t : TypeId} {fz : Nat × Nat} (hg : w.heap[g]? = some (.cells cs0 t fz)) (h : ¬ B g) : Below B w (w.setRow g cs) :=
 ⟨rfl, rfl, rfl, by simp, fun k hk => setRow_other w g k cs (fun e => h (e ▸ hk)), tH hg fun b hb => setRow_other w g b cs hb⟩
theorem n8 {k : eB} {r : R} {arr : Array Value} {fz : Nat × Nat} {t : TypeId} (hw : w.heap[r.blk]? = some (.cells arr t fz)) (hk : nD C ρ k.c arr r.base) {o n : Nat} (h : o + n ≤ k.c.len) :
 ∃ vs : List Value, vs.length = n ∧ aH C ρ ((k.c.toL.drop o).take n) vs ∧ (∀ x ∈ vs, x.oneCell' = true) ∧ (∀ (j : Nat) v, vs[j]? = some v → w.cell? ((⟨r.blk, r.base + o, none⟩ : Addr).add j) = some v) := by
 rw [Cells.len_eq] at h
 have hget : ∀ j, j < n → ∃ a x, k.c.toL[o + j]? = some a ∧ arr[r.base + (o + j)]? = some x ∧ Rel C ρ a x ∧ x.oneCell' = true := fun j hj => by
  obtain ⟨x, h1, h2, h3⟩ := hk.2 (o + j) (k.c.toL[o + j]'(by omega)) (List.getElem?_eq_getElem _)
  exact ⟨_, x, List.getElem?_eq_getElem _, h1, h2, h3⟩
 have hsz : ∀ j, j < n → r.base + o + j < arr.size := fun j hj => by
  obtain ⟨a, x, _, h1, _⟩ := hget j hj
  rcases Nat.lt_or_ge (r.base + (o + j)) arr.size with h | h
  ·omega
  ·rw [Array.getElem?_eq_none h] at h1; cases h1
 have hlen : ((arr.toList.drop (r.base + o)).take n).length = n := by
  rw [List.length_take, List.length_drop, Array.length_toList]
  rcases Nat.eq_zero_or_pos n with h0 | h0
  ·omega
  ·have := hsz (n - 1) (by omega); omega
 have hat : ∀ j, j < n → ((arr.toList.drop (r.base + o)).take n)[j]? = arr[r.base + (o + j)]? := fun j hj => by
  rw [List.getElem?_take, if_pos hj, List.getElem?_drop]; simp [Nat.add_assoc]
 refine ⟨(arr.toList.drop (r.base + o)).take n, hlen, (aH.iff _ _).2 ⟨by rw [hlen]; simp; omega, fun j a hj => ?_⟩, fun x hx => ?_, fun j v hj => ?_⟩
 ·rw [List.getElem?_take] at hj
  split at hj
  ·rename_i hlt
   rw [List.getElem?_drop] at hj
   obtain ⟨a', x, h1, h2, h3, h4⟩ := hget j hlt
   rw [hj] at h1; injection h1 with h1; subst h1
   exact ⟨x, by rw [hat j hlt]; exact h2, h3⟩
  ·cases hj
 ·obtain ⟨j, hj, he⟩ := List.mem_iff_getElem.1 hx
  have hlt : j < n := by omega
  obtain ⟨a', x', h1, h2, h3, h4⟩ := hget j hlt
  have := hat j hlt
  rw [List.getElem?_eq_getElem hj, he, h2] at this
  injection this with this; subst this; exact h4
 ·have hlt : j < n := by
   rcases Nat.lt_or_ge j n with h | h
   ·exact h
   ·rw [List.getElem?_eq_none (by omega)] at hj; cases hj
  rw [hat j hlt] at hj
  rw [Addr.add_lit]
  simp only [World.cell?, hw]
  simpa [Nat.add_assoc] using hj
theorem Bi (hF : Fits C ng B ρ H w) {v : Nat} {k : eB} (hv : H.get v = some (.b k)) (hn : v ≤ 16777213) {r : R} (hr : ρ v = some r) {arr : Array Value} {fz : Nat × Nat}
 (hb : w.heap[r.blk]? = some (.cells arr k.e fz)) (hk : fC C ρ B k r arr fz) {o : Nat} {ds : List AV} {vs : List Value} (hrel : aH C ρ ds vs) (h1 : ∀ x ∈ vs, x.oneCell' = true)
 (hfr : k.fr ≤ o) (hin : o ≤ k.c.len) (hfit : r.base + o + vs.length ≤ arr.size) (hg : k.g = true → o + vs.length ≤ k.m) (hold : B r.blk → vs = [])
 {c' : Cells} (hc' : c'.toL = dj k.c.toL o ds) (hcw : CW c') :
 ∃ w', (storeCells ⟨r.blk, r.base + o, none⟩ vs).run C.P w = .ok () w' ∧ Fits C ng B ρ (H.set v (.b { k with c := c' })) w' ∧ Below B w w' := by
 have hlen := hrel.len
 have hrun := lv C.P r.blk k.e fz (r.base + o) vs 0 arr w hb (fun x hx hxs => hk.cold x (by omega) hxs) (by omega) h1
 simp only [Nat.add_zero] at hrun
 have hbel : Below B w (w.setRow r.blk (bd arr.toList (r.base + o) vs).toArray) := by
  by_cases h : B r.blk
  ·have := hold h
   subst this
   have e : (bd arr.toList (r.base + o) []).toArray = arr := by simp [bd]
   rw [e, setRow_self w _ _ _ _ hb]
   exact Below.refl _ _
  ·exact Below.row hb h
 refine ⟨_, hrun, ?_, hbel⟩
 ·have hsz : (bd arr.toList (r.base + o) vs).toArray.size = arr.size := by
   simp only [List.size_toArray]; rw [iq _ _ _ (by simpa using hfit)]; simp
  have hcl : c'.len = max k.c.len (o + vs.length) := by
   rw [Cells.len_eq, hc', qD _ _ _ (by rw [← Cells.len_eq]; exact hin), ← Cells.len_eq, hlen]
  refine hF.upd hn hv hr (k' := .b { k with c := c' }) (o := .cells (bd arr.toList (r.base + o) vs).toArray k.e fz) ⟨rfl, ?_⟩ (setRow_heap w _ _ _ _ _ hb) (fun b hb' => setRow_other w _ _ _ hb') (by simp) hbel.block
  refine ⟨⟨hcw, fun j a hj => ?_⟩, fun h => ?_, fun x hx hxs => hk.cold x hx (by rw [hsz] at hxs; exact hxs), hk.plain, fun h => ?_, by have := hk.room; rw [hsz]; show r.base + c'.len ≤ _; omega, hk.base0⟩
  ·simp only [] at hj
   rw [hc', qE _ _ _ _ (by rw [← Cells.len_eq]; exact hin)] at hj
   have Ec : (bd arr.toList (r.base + o) vs).toArray[r.base + j]? = if j < o then arr[r.base + j]? else if j < o + vs.length then vs[j - o]? else arr[r.base + j]? := by
    rw [List.getElem?_toArray, fc _ _ _ _ (by simpa using hfit)]
    simp only [Array.getElem?_toList]
    by_cases e1 : j < o
    ·rw [if_pos e1, if_pos (by omega)]
    ·rw [if_neg e1, if_neg (by omega)]
     by_cases e2 : j < o + vs.length
     ·rw [if_pos e2, if_pos (by omega)]; congr 1; omega
     ·rw [if_neg e2, if_neg (by omega)]
   rw [Ec]
   rw [← hlen] at hj
   split at hj
   ·rename_i e; rw [if_pos e]; exact hk.cells.2 j a hj
   ·rename_i e
    rw [if_neg e]
    split at hj
    ·rename_i e2
     rw [if_pos e2]
     obtain ⟨x, hx, hr'⟩ := hrel.get hj
     exact ⟨x, hx, hr', h1 x (List.mem_of_getElem? hx)⟩
    ·rename_i e2; rw [if_neg e2]; exact hk.cells.2 j a hj
  ·obtain ⟨g1, g2, g3, g4⟩ := hk.grown h
   refine ⟨by rw [hsz]; exact g1, g2, ?_, g4⟩
   show c'.len ≤ k.m
   have := hg h
   rw [hcl]; omega
  ·have := hold h
   subst this
   obtain ⟨o1, o2, o3⟩ := hk.old h
   refine ⟨?_, o2, o3⟩
   show c'.len ≤ k.fr
   rw [hcl]; simp; omega
end
end Go.AX
end
section
namespace Go.AX
theorem bP {α β : Type} {m : M α} {f : α → M β} {S S' : St} {x : β} (h : bnd m f S = some (x, S')) : ∃ a S1, m S = some (a, S1) ∧ f a S1 = some (x, S') := by
 unfold bnd at h
 cases hm : m S with
 | none => rw [hm] at h; cases h
 | some r => obtain ⟨a, S1⟩ := r; rw [hm] at h; exact ⟨a, S1, rfl, h⟩
theorem cS {α : Type} {o : Option α} {S S' : St} {a : α} (h : aK o S = some (a, S')) : o = some a ∧ S' = S := by
 unfold aK at h
 cases o with
 | none => cases h
 | some b => injection h with h; injection h with h1 h2; subst h1; exact ⟨rfl, h2.symm⟩
theorem ae {α : Type} {a x : α} {S S' : St} (h : ret a S = some (x, S')) : x = a ∧ S' = S := by
 injection h with h; injection h with h1 h2; exact ⟨h1.symm, h2.symm⟩
theorem ar {α : Type} {S S' : St} {x : α} (h : (fail : M α) S = some (x, S')) : False := by cases h
theorem CI {v : Nat} {S S' : St} {k : eB} (h : rd v S = some (k, S')) : S.heap.get v = some (.b k) ∧ S'.heap = S.heap ∧ S'.next = S.next := by
 unfold rd at h
 cases hg : S.heap.get v with
 | none => rw [hg] at h; cases h
 | some e =>
  rw [hg] at h
  cases e with
  | b k' => injection h with h; injection h with h1 h2; subst h1; subst h2; exact ⟨rfl, rfl, rfl⟩
  | _ => cases h
theorem aT6 {v : Nat} {S S' : St} {k : List ME × Nat} (h : kX v S = some (k, S')) : S.heap.get v = some (.m k.1 k.2) ∧ S'.heap = S.heap ∧ S'.next = S.next := by
 unfold kX at h
 cases hg : S.heap.get v with
 | none => rw [hg] at h; cases h
 | some e =>
  rw [hg] at h
  cases e with
  | m es c => injection h with h; injection h with h1 h2; subst h1; subst h2; exact ⟨rfl, rfl, rfl⟩
  | _ => cases h
theorem aT7 {v : Nat} {S S' : St} {k : Nat × Nat × List Nat × Nat} (h : kY v S = some (k, S')) : S.heap.get v = some (.it k.1 k.2.1 k.2.2.1 k.2.2.2) ∧ S'.heap = S.heap ∧ S'.next = S.next := by
 unfold kY at h
 cases hg : S.heap.get v with
 | none => rw [hg] at h; cases h
 | some e =>
  rw [hg] at h
  cases e with
  | it m a b c => injection h with h; injection h with h1 h2; subst h1; subst h2; exact ⟨rfl, rfl, rfl⟩
  | _ => cases h
theorem CJ {v : Nat} {S S' : St} {k : Nat × Nat} (h : dL v S = some (k, S')) : S.heap.get v = some (.t k.1 k.2) ∧ S'.heap = S.heap ∧ S'.next = S.next := by
 unfold dL at h
 cases hg : S.heap.get v with
 | none => rw [hg] at h; cases h
 | some e =>
  rw [hg] at h
  cases e with
  | t id e => simp only [Option.some.injEq, Prod.mk.injEq] at h; obtain ⟨rfl, rfl⟩ := h; exact ⟨rfl, rfl, rfl⟩
  | _ => cases h
theorem lr {v : Nat} {S S' : St} {k : aZ} {u : Unit} (h : eE v k S = some (u, S')) : v < S.next ∧ v ≤ 16777213 ∧ S'.heap = S.heap.set v k ∧ S'.next = S.next := by
 unfold eE at h
 cases hc : (Nat.blt v S.next && Nat.ble v 16777213) with
 | false => rw [hc] at h; cases h
 | true =>
  rw [hc] at h; injection h with h; injection h with h1 h2; subst h2
  rw [Bool.and_eq_true] at hc
  exact ⟨Nat.le_of_ble_eq_true hc.1, Nat.le_of_ble_eq_true hc.2, rfl, rfl⟩
theorem nb {v : Nat} {S S' : St} {k : eB} {u : Unit} (h : upd v k S = some (u, S')) : v < S.next ∧ v ≤ 16777213 ∧ S'.heap = S.heap.set v (.b k) ∧ S'.next = S.next := lr h
theorem ki {v : Nat} {S S' : St} {u : Unit} (h : kill v S = some (u, S')) : v < S.next ∧ v ≤ 16777213 ∧ S'.heap = S.heap.del v ∧ S'.next = S.next := by
 unfold kill at h
 cases hc : (Nat.blt v S.next && Nat.ble v 16777213) with
 | false => rw [hc] at h; cases h
 | true =>
  rw [hc] at h; injection h with h; injection h with h1 h2; subst h2
  rw [Bool.and_eq_true] at hc
  exact ⟨Nat.le_of_ble_eq_true hc.1, Nat.le_of_ble_eq_true hc.2, rfl, rfl⟩
theorem gh {S S' : St} {k : aZ} {v : Nat} (h : newE k S = some (v, S')) : v = S.next ∧ S.next ≤ 16777213 ∧ S'.heap = S.heap.set S.next k ∧ S'.next = S.next + 1 := by
 unfold newE at h
 cases hc : Nat.ble S.next 16777213 with
 | false => rw [hc] at h; cases h
 | true =>
  rw [hc] at h; injection h with h; injection h with h1 h2; subst h2
  exact ⟨h1.symm, Nat.le_of_ble_eq_true hc, rfl, rfl⟩
theorem aX3 {S S' : St} {k : eB} {v : Nat} (h : new k S = some (v, S')) : v = S.next ∧ S.next ≤ 16777213 ∧ S'.heap = S.heap.set S.next (.b k) ∧ S'.next = S.next + 1 := gh h
theorem jU {β : Type} {v : Nat} {f : Nat × Nat → M β} {S S' : St} {x : β} (h : bnd (dL v) f S = some (x, S')) : ∃ id e S1, S.heap.get v = some (.t id e) ∧ S1.heap = S.heap ∧ S1.next = S.next ∧ f (id, e) S1 = some (x, S') := by
 obtain ⟨k, S1, h1, h2⟩ := bP h
 obtain ⟨a, b, c⟩ := CJ h1
 exact ⟨k.1, k.2, S1, a, b, c, h2⟩
theorem lb {α β : Type} {o : Option α} {f : α → M β} {S S' : St} {x : β} (h : bnd (aK o) f S = some (x, S')) : ∃ a, o = some a ∧ f a S = some (x, S') := by
 obtain ⟨a, S1, h1, h2⟩ := bP h
 obtain ⟨e1, e2⟩ := cS h1
 exact ⟨a, e1, by rw [← e2]; exact h2⟩
theorem ig {β : Type} {v : Nat} {f : aZ → M β} {S S' : St} {x : β} (h : bnd (rdA v) f S = some (x, S')) : ∃ k S1, S.heap.get v = some k ∧ S1.heap = S.heap ∧ S1.next = S.next ∧ f k S1 = some (x, S') := by
 obtain ⟨k, S1, h1, h2⟩ := bP h
 unfold rdA at h1
 cases hg : S.heap.get v with
 | none => rw [hg] at h1; cases h1
 | some j =>
  rw [hg] at h1
  simp only [Option.some.injEq, Prod.mk.injEq] at h1
  obtain ⟨rfl, rfl⟩ := h1
  exact ⟨j, ⟨S.heap, S.next, Nat.lor S.acc (bit v), S.wr⟩, by rw [← hg], rfl, rfl, h2⟩
theorem rb {β : Type} {v : Nat} {f : eB → M β} {S S' : St} {x : β} (h : bnd (rd v) f S = some (x, S')) : ∃ k S1, S.heap.get v = some (.b k) ∧ S1.heap = S.heap ∧ S1.next = S.next ∧ f k S1 = some (x, S') := by
 obtain ⟨k, S1, h1, h2⟩ := bP h
 obtain ⟨e1, e2, e3⟩ := CI h1
 exact ⟨k, S1, e1, e2, e3, h2⟩
theorem rdR_inv {tb : Tab} {v : Nat} {S S' : St} {x : aZ × gO} (h : ga tb v S = some (x, S')) : S.heap.get v = some x.1 ∧ gA tb x.1 = some x.2 ∧ S'.heap = S.heap ∧ S'.next = S.next := by
 unfold ga at h
 obtain ⟨e, S1, h1, h2, h3, h4⟩ := ig h
 obtain ⟨r, h5, h6⟩ := lb h4
 obtain ⟨rfl, rfl⟩ := ae h6
 exact ⟨h1, h5, h2, h3⟩
theorem rbR {tb : Tab} {β : Type} {v : Nat} {f : aZ × gO → M β} {S S' : St} {x : β} (h : bnd (ga tb v) f S = some (x, S')) : ∃ e k S1, S.heap.get v = some e ∧ gA tb e = some k ∧ S1.heap = S.heap ∧ S1.next = S.next ∧ f (e, k) S1 = some (x, S') := by
 obtain ⟨k, S1, h1, h2⟩ := bP h
 obtain ⟨a, b, c, d⟩ := rdR_inv h1
 exact ⟨k.1, k.2, S1, a, b, c, d, h2⟩
theorem bK {α : Type} {c : Bool} {S S' : St} {m : M α} {x : α} (h : (cond c m fail) S = some (x, S')) : c = true ∧ m S = some (x, S') := by
 cases c with
 | false => cases h
 | true => exact ⟨rfl, h⟩
theorem cond_inv' {α : Type} {c : Bool} {S S' : St} {m : M α} {x : α} (h : (cond c fail m) S = some (x, S')) : c = false ∧ m S = some (x, S') := by
 cases c with
 | true => cases h
 | false => exact ⟨rfl, h⟩
theorem and_ble {a b c d : Nat} (h : (Nat.ble a b && Nat.ble c d) = true) : a ≤ b ∧ c ≤ d := by
 rw [Bool.and_eq_true] at h; exact ⟨Nat.le_of_ble_eq_true h.1, Nat.le_of_ble_eq_true h.2⟩
theorem cH {a b : Nat} (h : Nat.beq a b = true) : a = b := Nat.eq_of_beq_eq_true h
theorem gN {a b : Nat} (h : Nat.beq a b = false) : a ≠ b := Nat.ne_of_beq_eq_false h

structure TyOk (P : Program) (tb : Tab) : Prop where
 ty : ∀ t ti, tb.ty.get t = some ti → ∃ i, P.info? t = some i ∧ ti = cw P t i
section
variable {P : Program} {tb : Tab}
theorem qe {t : Nat} {k : IntKind} (h : a6 P t = .int k) : P.underlying t = some (.int k) := by
 unfold a6 at h; split at h <;> first | (cases h; done) | (injection h with h; subst h; assumption) | (revert h; cases (List.all _ _) <;> intro h <;> cases h)
theorem aN6 {t : Nat} (h : a6 P t = .bool) : P.underlying t = some .bool := by
 unfold a6 at h; split at h <;> first | (cases h; done) | assumption | (revert h; cases (List.all _ _) <;> intro h <;> cases h)
theorem kv {t : Nat} (h : a6 P t = .str) : P.underlying t = some .string := by
 unfold a6 at h; split at h <;> first | (cases h; done) | assumption | (revert h; cases (List.all _ _) <;> intro h <;> cases h)
theorem aN5 {t : Nat} (h : a6 P t = .lq) : P.underlying t = some .unsafePointer := by
 unfold a6 at h; split at h <;> first | (cases h; done) | assumption | (revert h; cases (List.all _ _) <;> intro h <;> cases h)
theorem dq {t e : Nat} (h : a6 P t = .slice e) : P.underlying t = some (.slice e) := by
 unfold a6 at h; split at h <;> first | (cases h; done) | (injection h with h; subst h; assumption) | (revert h; cases (List.all _ _) <;> intro h <;> cases h)
theorem qd {t e : Nat} (h : a6 P t = .ptr e) : P.underlying t = some (.pointer e) := by
 unfold a6 at h; split at h <;> first | (cases h; done) | (injection h with h; subst h; assumption) | (revert h; cases (List.all _ _) <;> intro h <;> cases h)
theorem oR {t n e : Nat} (h : a6 P t = .arr n e) : P.underlying t = some (.array n e) := by
 unfold a6 at h; split at h <;> first | (cases h; done) | (injection h with h1 h2; subst h1; subst h2; assumption) | (revert h; cases (List.all _ _) <;> intro h <;> cases h)
theorem aD8 {t : Nat} (h : a6 P t = .struct) : ∃ fs, P.underlying t = some (.struct fs) ∧ fN P t = fs.toList ∧ P.fieldsOf t = fs ∧ ∀ f ∈ fs.toList, ∃ i, P.info? f.type = some i := by
 unfold a6 at h; split at h <;> first
  | (cases h; done)
  | (rename_i fs hu
     cases hc : (fs.toList.all fun f => (P.info? f.type).isSome) with
     | false => rw [hc] at h; cases h
     | true => exact ⟨fs, hu, by simp [fN, hu], by simp [Program.fieldsOf, hu], fun f hf => Option.isSome_iff_exists.1 (List.all_eq_true.1 hc f hf)⟩)
theorem aH2 {t : Nat} {b : Bool} (h : a6 P t = .iface b) : ∃ ms, P.underlying t = some (.interface ms) := by
 unfold a6 at h; split at h <;> first | (cases h; done) | exact ⟨_, by assumption⟩ | (revert h; cases (List.all _ _) <;> intro h <;> cases h)
theorem kOf_func {t : Nat} (h : a6 P t = .func) : ∃ a b c, P.underlying t = some (.func a b c) := by
 unfold a6 at h; split at h <;> first | (cases h; done) | exact ⟨_, _, _, by assumption⟩ | (revert h; cases (List.all _ _) <;> intro h <;> cases h)
theorem dh {t : Nat} {i : TypeInfo} (h : P.info? t = some i) (w : World) : (typeInfo t).run P w = .ok i w := by simp [typeInfo, h]
theorem bp {t : Nat} {i : TypeInfo} (h : P.info? t = some i) (w : World) : (sizeOf t).run P w = .ok i.size w := by simp [sizeOf, dh h]
theorem CE {t : Nat} (hk : isAgg (a6 P t) = true) (w : World) : (Go.isAgg t).run P w = .ok true w := by
 unfold a6 at hk; split at hk <;> first | (cases hk; done) | (rename_i hu; simp [Go.isAgg, run_underlying hu])
end
theorem qM (C : Cx) (ρ : ak) (v : Value) : Rel C ρ (jV v) v := by
 unfold jV
 split <;> simp only [Rel, aH]
 ·rename_i s
  obtain ⟨h1, h2⟩ := aL5 s.data.toList
  exact ⟨by rw [h2], h1⟩
 ·exact ⟨[], [], rfl, rfl, rfl⟩
 ·exact ⟨[], rfl, rfl⟩
theorem FO (C : Cx) (ρ : ak) (v : Value) : Rel C ρ (avZ v) v := by
 unfold avZ
 split
 ·rename_i cs
  simp only [Rel]
  exact ⟨cs.toList, rfl, by simpa using aH.map jV id (fun x => qM C ρ x) cs.toList⟩
 ·exact qM C ρ v
theorem cells_ok (C : Cx) (ρ : ak) (v : Value) : aH C ρ (v.cells.toList.map jV) v.cells.toList := by
 simpa using aH.map jV id (fun x => qM C ρ x) v.cells.toList
def Out (C : Cx) (ng : Nat) (B : Fz) (ρ : ak) (w : World) (S S' : St) (v : AV) (r : Result Value) : Prop :=
 ∃ ρ' x w', r = .ok x w' ∧ Rel C ρ' v x ∧ Fits C ng B ρ' S'.heap w' ∧ Ext ρ ρ' S.next S'.next ∧ Below B w w'
theorem Out.same {C : Cx} {ng : Nat} {B : Fz} {ρ : ak} {w : World} {S S' : St} {v : AV} {x : Value} {r : Result Value} (hF : Fits C ng B ρ S.heap w) (hh : S'.heap = S.heap) (hr : r = .ok x w) (hx : Rel C ρ v x) : Out C ng B ρ w S S' v r :=
 ⟨ρ, x, w, hr, hx, by rw [hh]; exact hF, Ext.refl _ _ _, Below.refl _ _⟩
section
variable {C : Cx} {tb : Tab} {B : Fz} {ρ : ak} {w : World} {S S' : St}
theorem pj {P : Program} {t : Nat} {i : TypeInfo} (hi : P.info? t = some i) (hd : isBad (a6 P t) = false) (hk : isAgg (a6 P t) = false) (w : World) : (Go.isAgg t).run P w = .ok false w := by
 cases hu : P.underlying t with
 | none => unfold a6 at hd; rw [hu] at hd; cases hd
 | some d =>
  simp only [Go.isAgg, Sem.run_bind, run_underlying hu, Result.andThen_ok]
  unfold a6 at hk hd; rw [hu] at hk hd
  cases d <;> first | rfl | (cases hk; done) | (revert hk hd; simp only []; cases (List.all _ _) <;> intro h1 h2 <;> first | (cases h1; done) | (cases h2; done))
theorem Cf (hF : Fits C tb.ng B ρ S.heap w) (av : tb.ng ≤ S.next) {k : eB} {v : Nat} (h : new k S = some (v, S')) (hfree : Free ρ S.next S'.next) {arr : Array Value} {r : R} {fz : Nat × Nat} {w' : World}
 (hr : r.blk = w.heap.size) (hk : fC C ρ B k r arr fz) (hw' : w'.heap = w.heap.push (.cells arr k.e fz)) (h1 : w'.os = w.os) (h2 : w'.tape = w.tape) (h3 : w'.output = w.output) :
 Fits C tb.ng B (bW ρ S.next r) S'.heap w' ∧ Ext ρ (bW ρ S.next r) S.next S'.next ∧ Below B w w' ∧ (bW ρ S.next r) v = some r ∧ Sub ρ (bW ρ S.next r) := by
 obtain ⟨rfl, q1, q2, q3⟩ := aX3 h
 have hf : ρ S.next = none := hfree _ (Nat.le_refl _) (by omega)
 refine ⟨by rw [q2]; exact hF.new q1 av hf hr (o := .cells arr k.e fz) ⟨rfl, hk⟩ hw', ?_, ⟨h1, h2, h3, by rw [hw']; simp, fun b hb => ?_, fun b o hb _ => ?_⟩, by simp [bW], qF hf⟩
 ·rw [q3]; exact fW _ _ _
 ·have := hF.size b (by assumption)
  rw [hw', Array.getElem?_push, if_neg (by omega)]
 ·have hlt : b < w.heap.size := by
   rcases Nat.lt_or_ge b w.heap.size with h | h
   ·exact h
   ·rw [Array.getElem?_eq_none h] at hb; cases hb
  rw [hw', Array.getElem?_push, if_neg (by omega)]; exact hb
theorem new_ok (hF : Fits C tb.ng B ρ S.heap w) (av : tb.ng ≤ S.next) {k : eB} {v : Nat} (h : new k S = some (v, S')) (hfree : Free ρ S.next S'.next) {arr : Array Value} {r : R}
 (hr : r.blk = w.heap.size) (hk : fC C ρ B k r arr (0, 0)) :
 Fits C tb.ng B (bW ρ S.next r) S'.heap { w with heap := w.heap.push (.cells arr k.e) } ∧ Ext ρ (bW ρ S.next r) S.next S'.next ∧ Below B w { w with heap := w.heap.push (.cells arr k.e) } ∧ (bW ρ S.next r) v = some r ∧ Sub ρ (bW ρ S.next r) :=
 Cf hF av h hfree hr hk rfl rfl rfl rfl
theorem fC.fresh {ρ : ak} {e : Nat} {c : Cells} {vs : List Value} (hcw : CW c) (hrel : aH C ρ c.toL vs) (h1 : ∀ x ∈ vs, x.oneCell' = true) (b : Nat) (hb : ¬ B b) :
 fC C ρ B (mB e c) ⟨b, 0, 0, 0⟩ vs.toArray (0, 0) := by
 refine ⟨⟨hcw, fun j a hj => ?_⟩, fun h => (by cases h), fun x _ _ h => by simp at h, fun _ => .inl rfl, fun h => absurd h hb, by show 0 + c.len ≤ _; rw [Cells.len_eq, ← hrel.len]; simp, fun _ => rfl⟩
 obtain ⟨x, hx, hr⟩ := hrel.get hj
 exact ⟨x, by simpa using hx, hr, h1 x (List.mem_of_getElem? hx)⟩
theorem FT (hF : Fits C tb.ng B ρ S.heap w) (av : tb.ng ≤ S.next) {e : Nat} {c : Cells} {v : Nat} (h : new (mB e c) S = some (v, S')) (hfree : Free ρ S.next S'.next)
 (hcw : CW c) {vs : List Value} (hrel : aH C ρ c.toL vs) (h1 : ∀ x ∈ vs, x.oneCell' = true) :
 ∃ ρ' w', (newRow e vs.toArray).run C.P w = .ok ⟨w.heap.size, 0, none⟩ w' ∧ Fits C tb.ng B ρ' S'.heap w' ∧ Ext ρ ρ' S.next S'.next ∧ Below B w w' ∧ ρ' v = some ⟨w.heap.size, 0, 0, 0⟩ ∧ Sub ρ ρ' := by
 obtain ⟨a, b, c', d, f⟩ := new_ok hF av h hfree (r := ⟨w.heap.size, 0, 0, 0⟩) rfl (fC.fresh (e := e) hcw hrel h1 _ (hF.fresh (Nat.le_refl _)))
 exact ⟨_, _, by simp [newRow, mB], a, b, c', d, f⟩
theorem aE0 {a : AV} {l : List AV} {v : Value} (h : cellsOf a = some l) (hr : Rel C ρ a v) : aH C ρ l v.cells.toList := by
 cases a with
 | und => cases h
 | tu _ => cases h
 | ag m => simp only [cellsOf, Option.some.injEq] at h; subst h; simp only [Rel] at hr; obtain ⟨cs, rfl, h2⟩ := hr; exact h2
 | sl b o n c r =>
  simp only [cellsOf, Option.some.injEq] at h; subst h
  have h1 := kW (a := .sl b o n c r) rfl hr
  have : v.cells = #[v] := by cases v <;> first | rfl | (cases h1; done)
  rw [this]; simp only [aH]; exact ⟨v, [], rfl, hr, rfl⟩
 | x id =>
  simp only [cellsOf] at h
  cases hb : Nat.blt id 1000000 with
  | false => rw [hb] at h; cases h
  | true =>
   rw [hb] at h
   simp only [cond_true, Option.some.injEq] at h; subst h
   have h1 := kW (a := .x id) hb hr
   have : v.cells = #[v] := by cases v <;> first | rfl | (cases h1; done)
   rw [this]; simp only [aH]; exact ⟨v, [], rfl, hr, rfl⟩
 | _ =>
  simp only [cellsOf, Option.some.injEq] at h; subst h
  have h1 := kW rfl hr
  have : v.cells = #[v] := by cases v <;> first | rfl | (cases h1; done)
  rw [this]; simp only [aH]; exact ⟨v, [], rfl, hr, rfl⟩
end
end Go.AX
end
section
namespace Go.AX
section
variable {C : Cx} {tb : Tab} {B : Fz} {ρ : ak} {w : World} {S S' : St}
theorem cF {P : Program} {t : Nat} {i : TypeInfo} : (cw P t i).k = a6 P t := rfl
theorem fY {P : Program} {t : Nat} {i : TypeInfo} : (cw P t i).size = i.size := rfl
theorem ia {P : Program} {t : Nat} {i : TypeInfo} (h : (cw P t i).zs = true) : ∃ z, i.zero = some z ∧ (∀ x ∈ z.cells.toList, x.oneCell' = true) ∧ z.cells.toList.length = i.size := by
 cases hz : i.zero with
 | none => simp [cw, zsOf, hz] at h
 | some z =>
  simp only [cw, zsOf, hz, Bool.and_eq_true] at h
  refine ⟨z, rfl, fun x hx => ?_, cH h.2⟩
  have := List.all_eq_true.1 h.1 x hx
  cases x <;> first | rfl | (cases this; done)
theorem sx {P : Program} {t : Nat} {i : TypeInfo} {z : Value} (hz : i.zero = some z) (ρ : ak) (C : Cx) : aH C ρ (cw P t i).zc.toL z.cells.toList ∧ CW (cw P t i).zc := by
 have := toCells_spec (u8ish P t) (Bd i)
 refine ⟨?_, this.2⟩
 show aH C ρ (toCells _ _).toL _
 rw [this.1]
 simp only [Bd, hz]
 exact cells_ok C ρ z
theorem fm (hF : Fits C tb.ng B ρ S.heap w) {v : Nat} {k : eB} (hg : S.heap.get v = some (.b k)) {r : R} (hr : ρ v = some r) : ∃ arr fz, w.heap[r.blk]? = some (.cells arr k.e fz) ∧ fC C ρ B k r arr fz := by
 obtain ⟨r', h1, h2⟩ := hF.blk v (.b k) hg
 rw [hr] at h1; injection h1 with h1; subst h1
 obtain ⟨o, h3, h4⟩ := h2
 cases o with
 | cells arr t fz =>
  obtain ⟨rfl, h5⟩ := h4
  exact ⟨arr, fz, h3, h5⟩
 | _ => exact h4.elim
theorem aX9 (ht : TyOk C.P tb) (hF : Fits C tb.ng B ρ S.heap w) {t : Nat} {x v : AV} {xv : Value} (hx : Rel C ρ x xv) (h : load tb t x S = some (v, S')) :
 S'.heap = S.heap ∧ S'.next = S.next ∧ ∃ y, (Instr.loadAt t xv).run C.P w = .ok y w ∧ Rel C ρ v y := by
 cases x <;> simp only [load] at h <;> try exact (ar h).elim
 rename_i b o
 obtain ⟨ti, e1, h1⟩ := lb h
 obtain ⟨k, S2, e2, h3, h4, h5⟩ := rb h1
 obtain ⟨i, hi, rfl⟩ := ht.ty _ _ e1
 simp only [Rel] at hx
 obtain ⟨r, hr, rfl⟩ := hx
 obtain ⟨arr, fz, hb, hk⟩ := fm hF e2 hr
 simp only [cF, fY] at h5
 have hla : ∀ w', (Instr.loadAt t (.pointer (some ⟨r.blk, r.base + o, none⟩))).run C.P w' = (loadVar t ⟨r.blk, r.base + o, none⟩).run C.P w' := fun _ => rfl
 rw [hla]
 cases hagg : isAgg (a6 C.P t) with
 | true =>
  rw [hagg] at h5
  obtain ⟨c, h6, h7⟩ := lb h5
  obtain ⟨rfl, rfl⟩ := ae h7
  obtain ⟨hle, htoL, _⟩ := Cells.nk h6
  obtain ⟨vs, hv1, hv2, hv3, hv4⟩ := n8 hb hk.cells hle
  refine ⟨h3, h4, .agg vs.toArray, ?_, ?_⟩
  ·have := run_loadCells_list (P := C.P) w ⟨r.blk, r.base + o, none⟩ vs hv4
   rw [hv1] at this
   simp only [loadVar, Sem.run_bind, CE hagg, Result.andThen_ok, if_true, bp hi, this, Sem.run_pure]
  ·simp only [Rel]; exact ⟨vs, rfl, by rw [htoL]; exact hv2⟩
 | false =>
  rw [hagg] at h5
  obtain ⟨hbad, h6⟩ := cond_inv' h5
  obtain ⟨h7, rfl⟩ := cS h6
  rw [Cells.get_eq] at h7
  obtain ⟨y, hy1, hy2, hy3⟩ := hk.cells.2 o v h7
  refine ⟨h3, h4, y, ?_, hy2⟩
  have hcell : w.cell? ⟨r.blk, r.base + o, none⟩ = some y := by
   simp only [World.cell?, hb]; simpa using hy1
  simp only [loadVar, Sem.run_bind, pj hi hbad hagg, Result.andThen_ok, Bool.false_eq_true, if_false, run_load, hcell]
theorem Bz {P : Program} {t : Nat} {i : TypeInfo} (hi : P.info? t = some i) (a : Addr) (y : Value) (hy : y.cells.toList.length = i.size) (w : World) :
 (storeVar t a y).run P w = (storeCells a y.cells.toList).run P w := by
 have : y.cells.size = i.size := by simpa using hy
 simp [storeVar, bp hi, this]
theorem CQ {y : Value} (h : y.oneCell' = true) : y.cells.toList = [y] := by
 cases y <;> first | rfl | (cases h; done)
theorem store_ok (ht : TyOk C.P tb) (hF : Fits C tb.ng B ρ S.heap w) {t : Nat} {x y : AV} {xv yv : Value} (hx : Rel C ρ x xv) (hy : Rel C ρ y yv) {u : Unit} (h : store tb t x y S = some (u, S')) :
 S'.next = S.next ∧ ∃ w', (Instr.storeAt t xv yv).run C.P w = .ok () w' ∧ Fits C tb.ng B ρ S'.heap w' ∧ Below B w w' := by
 cases x <;> simp only [store] at h <;> try exact (ar h).elim
 rename_i b o
 obtain ⟨ti, e1, h1⟩ := lb h
 obtain ⟨k, S2, e2, h3, h4, h5⟩ := rb h1
 obtain ⟨hfr, h6⟩ := bK h5
 obtain ⟨i, hi, rfl⟩ := ht.ty _ _ e1
 simp only [Rel] at hx
 obtain ⟨r, hr, rfl⟩ := hx
 obtain ⟨arr, fz, hb, hk⟩ := fm hF e2 hr
 have hfr' := Nat.le_of_ble_eq_true hfr
 have hla : (Instr.storeAt t (.pointer (some ⟨r.blk, r.base + o, none⟩)) yv).run C.P w = (storeVar t ⟨r.blk, r.base + o, none⟩ yv).run C.P w := rfl
 rw [hla]
 -- both ways come to this
 have fin : ∀ (ds : List AV) (c' : Cells), aH C ρ ds yv.cells.toList → (∀ x ∈ yv.cells.toList, x.oneCell' = true) → yv.cells.toList.length = i.size → o + ds.length ≤ k.c.len → c'.toL = dj k.c.toL o ds → CW c' → upd b { k with c := c' } S2 = some (u, S') →
  S'.next = S.next ∧ ∃ w', (storeVar t ⟨r.blk, r.base + o, none⟩ yv).run C.P w = .ok () w' ∧ Fits C tb.ng B ρ S'.heap w' ∧ Below B w w' := by
  intro ds c' hrel h1c hlen hle hto hcw hu
  obtain ⟨u1, u2, u3, u4⟩ := nb hu
  have hdl := hrel.len
  have hroom := hk.room
  rw [h3] at u3
  obtain ⟨w', g1, g2, g3⟩ := Bi hF e2 u2 hr hb hk hrel h1c hfr' (by omega) (by rw [hdl]; omega) (fun hg => by have := (hk.grown hg).2.2.1; rw [hdl]; omega)
   (fun hB => by have := (hk.old hB).1; exact List.eq_nil_of_length_eq_zero (by rw [hdl]; omega)) hto hcw
  exact ⟨by rw [u4, h4], w', by rw [Bz hi _ _ hlen]; exact g1, by rw [u3]; exact g2, g3⟩
 have one : ∀ (hs : jS y = true) (h7 : (cond (jS y && Nat.beq (cw C.P t i).size 1) (bnd (aK (k.c.set1 o y)) fun c => upd b { k with c := c }) fail) S2 = some (u, S')),
  S'.next = S.next ∧ ∃ w', (storeVar t ⟨r.blk, r.base + o, none⟩ yv).run C.P w = .ok () w' ∧ Fits C tb.ng B ρ S'.heap w' ∧ Below B w w' := by
  intro hs h7
  obtain ⟨hc, h8⟩ := bK h7
  obtain ⟨c', h9, h10⟩ := lb h8
  rw [hs, Bool.true_and, fY] at hc
  have hsz := cH hc
  have h1c := kW hs hy
  obtain ⟨s1, s2, s3⟩ := Cells.set1_spec hk.cells.1 h9
  refine fin [y] c' (by rw [CQ h1c]; simp only [aH]; exact ⟨yv, [], rfl, hy, rfl⟩) (by rw [CQ h1c]; simpa using h1c) (by rw [CQ h1c, hsz]; rfl) (by simp; omega) s2 s3 h10
 cases y with
 | ag l =>
  simp only [] at h6
  obtain ⟨hc, h7⟩ := bK h6
  obtain ⟨c', h8, h9⟩ := lb h7
  rw [Bool.and_eq_true, Bool.and_eq_true] at hc
  obtain ⟨⟨c1, c2⟩, c3⟩ := hc
  have c1 := cH c1
  have c2 := Nat.le_of_ble_eq_true c2
  rw [fY] at c1 c2
  simp only [Rel] at hy
  obtain ⟨vs, rfl, hvs⟩ := hy
  obtain ⟨s1, s2, s3⟩ := Cells.CM hk.cells.1 (d := .l l) trivial h8
  refine fin l c' hvs (fun x hx => ?_) (by show vs.length = _; rw [hvs.len]; exact c1) (by rw [c1]; exact c2) s2 s3 h9
  obtain ⟨j, hj, he⟩ := List.mem_iff_getElem.1 hx
  have hj' : j < l.length := by rw [← hvs.len]; exact hj
  obtain ⟨x', hx', hr'⟩ := hvs.get (List.getElem?_eq_getElem hj')
  have hx2 : vs[j]? = some x := by rw [← he]; exact List.getElem?_eq_getElem hj
  rw [hx2] at hx'; injection hx' with hx'; subst hx'
  exact kW (List.all_eq_true.1 c3 _ (List.getElem_mem hj')) hr'
 | und => obtain ⟨hc, _⟩ := bK h6; cases hc
 | tu l => obtain ⟨hc, _⟩ := bK h6; cases hc
 | x id => exact one (by have hc := (bK h6).1; rw [Bool.and_eq_true] at hc; exact hc.1) h6
 | _ => exact one rfl h6
end
end Go.AX
end
section
namespace Go.AX
def bX (C : Cx) (ng : Nat) (B : Fz) (ρ : ak) (w : World) (S S' : St) (v : AV) (r : Result Next) : Prop :=
 ∃ ρ' x w', (r = .ok (.value x) w' ∨ (r = .ok .skip w' ∧ x = undef)) ∧ Rel C ρ' v x ∧ Fits C ng B ρ' S'.heap w' ∧ Ext ρ ρ' S.next S'.next ∧ Below B w w'
section
variable {C : Cx} {tb : Tab} {B : Fz} {ρ : ak} {w : World} {S S' : St}
theorem bX.of {ng : Nat} {v : AV} {s : Sem Value} (h : Out C ng B ρ w S S' v (s.run C.P w)) : bX C ng B ρ w S S' v ((do let x ← s; pure (Next.value x) : Sem Next).run C.P w) := by
 obtain ⟨ρ', x, w', h1, h2⟩ := h
 exact ⟨ρ', x, w', .inl (by simp [h1]), h2⟩
theorem bX.same {ng : Nat} {v : AV} {x : Value} {r : Result Next} (hF : Fits C ng B ρ S.heap w) (hh : S'.heap = S.heap) (hr : r = .ok (.value x) w) (hx : Rel C ρ v x) : bX C ng B ρ w S S' v r :=
 ⟨ρ, x, w, .inl hr, hx, by rw [hh]; exact hF, Ext.refl _ _ _, Below.refl _ _⟩
variable {f : Operand → AV} {g : Operand → Value}
theorem s_alloc (ht : TyOk C.P tb) (hF : Fits C tb.ng B ρ S.heap w) (av : tb.ng ≤ S.next) {e : Nat} {o : Oper} (ho : o.op = .alloc e) {v : AV} (h : simple tb f (.alloc e) S = some (v, S')) (hfree : Free ρ S.next S'.next) :
 bX C tb.ng B ρ w S S' v ((execOp g o).run C.P w) := by
 simp only [simple] at h
 obtain ⟨ti, e1, h1⟩ := lb h
 obtain ⟨i, hi, rfl⟩ := ht.ty _ _ e1
 cases hzz : (cw C.P e i).zero with
 | none => rw [hzz] at h1; exact (ar h1).elim
 | some zz =>
  rw [hzz] at h1
  obtain ⟨hzs, h2⟩ := bK h1
  obtain ⟨b, S1, h3, h4⟩ := bP h2
  obtain ⟨rfl, rfl⟩ := ae h4
  obtain ⟨z, hz, hone, hsz⟩ := ia hzs
  obtain ⟨hrel, hcw⟩ := sx (P := C.P) (t := e) hz ρ C
  obtain ⟨ρ', w', r1, r2, r3, r4, r5, r6⟩ := FT hF av h3 hfree hcw hrel hone
  refine ⟨ρ', .pointer (some ⟨w.heap.size, 0, none⟩), w', .inl ?_, ?_, r2, r3, r4⟩
  ·have : (newRow e z.cells).run C.P w = .ok ⟨w.heap.size, 0, none⟩ w' := by simpa using r1
   simp [execOp, ho, Instr.alloc, zeroValue, dh hi, hz, newVar, this]
  ·simp only [Rel]; exact ⟨_, r5, rfl⟩
theorem s_box (hF : Fits C tb.ng B ρ S.heap w) (av : tb.ng ≤ S.next) (hf : ∀ x, Rel C ρ (f x) (g x)) {e : Nat} {x : Operand} {o : Oper} (ho : o.op = .box e x) {v : AV} (h : simple tb f (.box e x) S = some (v, S')) (hfree : Free ρ S.next S'.next) :
 bX C tb.ng B ρ w S S' v ((execOp g o).run C.P w) := by
 simp only [simple] at h
 obtain ⟨l, e1, h1⟩ := lb h
 obtain ⟨hs, h2⟩ := bK h1
 obtain ⟨b, S1, h3, h4⟩ := bP h2
 obtain ⟨rfl, rfl⟩ := ae h4
 have hrel := aE0 e1 (hf x)
 have hone : ∀ y ∈ (g x).cells.toList, y.oneCell' = true := fun y hy => by
  obtain ⟨j, hj, he⟩ := List.mem_iff_getElem.1 hy
  have hj' : j < l.length := by rw [← hrel.len]; exact hj
  obtain ⟨x', hx', hr'⟩ := hrel.get (List.getElem?_eq_getElem hj')
  rw [List.getElem?_eq_getElem hj, he] at hx'; injection hx' with hx'; subst hx'
  exact kW (List.all_eq_true.1 hs _ (List.getElem_mem hj')) hr'
 obtain ⟨ρ', w', r1, r2, r3, r4, r5, r6⟩ := FT hF av h3 hfree (c := .l l) trivial hrel hone
 refine ⟨ρ', .pointer (some ⟨w.heap.size, 0, none⟩), w', .inl ?_, ?_, r2, r3, r4⟩
 ·have : (newRow e (g x).cells).run C.P w = .ok ⟨w.heap.size, 0, none⟩ w' := by simpa using r1
  simp [execOp, ho, Instr.box, newVar, this]
 ·simp only [Rel]; exact ⟨_, r5, rfl⟩
/- laying parts -/
theorem foldl_lay (off : Nat) : ∀ (vs : List Value) (i : Nat) (cs : Array Value), off + i + vs.length ≤ cs.size →
 ((vs.zipIdx i).foldl (fun cs (x : Value × Nat) => cs.setIfInBounds (off + x.2) x.1) cs).toList = bd cs.toList (off + i) vs := by
 intro vs
 induction vs with
 | nil => intro i cs h; simp [bd]
 | cons v vs ih =>
  intro i cs h
  simp only [List.length_cons] at h
  simp only [List.zipIdx_cons, List.foldl_cons]
  rw [ih (i + 1) _ (by simp; omega)]
  apply List.ext_getElem?
  intro j
  rw [fc _ _ _ _ (by simp; omega), fc _ _ _ _ (by simp; omega)]
  simp only [Array.toList_setIfInBounds, List.getElem?_set, Array.length_toList, List.length_cons]
  by_cases e1 : j < off + i
  ·rw [if_pos (by omega), if_pos e1, if_neg (by omega)]
  ·rw [if_neg e1]
   by_cases e2 : j = off + i
   ·subst e2
    rw [if_pos (by omega), if_pos rfl, if_pos (by omega), if_pos (by omega)]; simp
   ·rw [if_neg (by omega)]
    by_cases e3 : j < off + i + (vs.length + 1)
    ·rw [if_pos (by omega), if_pos e3, show j - (off + i) = (j - (off + (i + 1))) + 1 by omega, List.getElem?_cons_succ]
    ·rw [if_neg (by omega), if_neg e3, if_neg (by omega)]
theorem aH.lay {l m : List AV} {vs us : List Value} (h : aH C ρ l vs) (h' : aH C ρ m us) {o : Nat} (ho : o + m.length ≤ l.length) : aH C ρ (dj l o m) (bd vs o us) := by
 have e1 := h.len
 have e2 := h'.len
 rw [aH.iff]
 refine ⟨by rw [qD _ _ _ (by omega), iq _ _ _ (by omega)]; omega, fun j a hj => ?_⟩
 rw [qE _ _ _ _ (by omega)] at hj
 rw [fc _ _ _ _ (by omega), e2]
 split at hj
 ·rename_i h1; rw [if_pos h1]; exact h.get hj
 ·rename_i h1; rw [if_neg h1]
  split at hj
  ·rename_i h2; rw [if_pos h2]; exact h'.get hj
  ·rename_i h2; rw [if_neg h2]; exact h.get hj
theorem Er (hf : ∀ x, Rel C ρ (f x) (g x)) {pl : Nat → Option (Nat × Nat)} : ∀ (ps : List (Nat × Operand)) (c l : List AV) (cs : Array Value), aH C ρ c cs.toList → gu pl f c ps = some l →
 ∃ out : Array Value, Instr.fill pl cs (ps.map fun p => (p.1, g p.2)) = some out ∧ aH C ρ l out.toList := by
 intro ps
 induction ps with
 | nil => intro c l cs hr h; simp only [gu, Option.some.injEq] at h; subst h; exact ⟨cs, rfl, hr⟩
 | cons p ps ih =>
  obtain ⟨i, x⟩ := p
  intro c l cs hr h
  simp only [gu] at h
  split at h
  ·rename_i off sz m hp hm
   cases hc : (Nat.beq m.length sz && Nat.ble (Nat.add off sz) c.length) with
   | false => rw [hc] at h; cases h
   | true =>
    rw [hc] at h
    rw [Bool.and_eq_true] at hc
    have c1 := cH hc.1
    have c2 := Nat.le_of_ble_eq_true hc.2
    have hrel := aE0 hm (hf x)
    have e1 := hrel.len
    have e2 := hr.len
    have c2 : off + sz ≤ c.length := c2
    have hsz : (g x).cells.size = m.length := by simpa using e1
    have hcs : cs.size = c.length := by simpa using e2
    have jg := foldl_lay off (g x).cells.toList 0 cs (by simp only [Array.length_toList]; omega)
    obtain ⟨out, o1, o2⟩ := ih (dj c off m) l (((g x).cells.toList.zipIdx 0).foldl (fun cs (x : Value × Nat) => cs.setIfInBounds (off + x.2) x.1) cs)
     (by rw [jg]; exact hr.lay hrel (by omega)) h
    refine ⟨out, ?_, o2⟩
    simp only [List.map_cons, Instr.fill, hp]
    have hif : (decide ((g x).cells.size ≠ sz) || decide (off + (g x).cells.size > cs.size)) = false := by
     simp only [Bool.or_eq_false_iff, decide_eq_false_iff_not]; omega
    rw [if_neg (by rw [hif]; simp)]
    rw [← o1]
    congr 1
    rw [← Array.foldl_toList]
    simp
  ·cases h
end
end Go.AX
end
section
namespace Go.AX
section
variable {C : Cx} {tb : Tab} {B : Fz} {ρ : ak} {w : World} {S S' : St}
variable {f : Operand → AV} {g : Operand → Value}
theorem AJ : ∀ (l : List Fl) (n : Nat), jH l n = l[n]?
 | [], n => by simp [jH]
 | a :: l, n => by
  unfold jH
  cases n with
  | zero => rfl
  | succ n => show jH l n = _; rw [AJ l n]; simp
theorem run_places {P : Program} : ∀ (fs : List Field), (∀ f ∈ fs, ∃ i, P.info? f.type = some i) → ∀ w : World,
 (fs.mapM fun f => Prod.mk f.offset <$> sizeOf f.type).run P w = .ok (fs.map fun f => (f.offset, P.cellsOf f.type)) w
 | [], _, w => by simp
 | f :: fs, h, w => by
  obtain ⟨i, hi⟩ := h f (by simp)
  have ih := run_places fs (fun x hx => h x (by simp [hx])) w
  simp only [List.mapM_cons, Sem.run_bind, Sem.run_map, bp hi, Result.andThen_ok, Sem.run_pure, ih, List.map_cons]
  simp [Program.cellsOf, hi]
theorem s_build (ht : TyOk C.P tb) (hF : Fits C tb.ng B ρ S.heap w) (hf : ∀ x, Rel C ρ (f x) (g x)) {t : Nat} {ps : Array (Nat × Operand)} {o : Oper} (ho : o.op = .build t ps) {v : AV} (h : simple tb f (.build t ps) S = some (v, S')) :
 bX C tb.ng B ρ w S S' v ((execOp g o).run C.P w) := by
 simp only [simple] at h
 obtain ⟨ti, e1, h1⟩ := lb h
 obtain ⟨i, hi, rfl⟩ := ht.ty _ _ e1
 have hps : (ps.map fun p => (p.1, g p.2)).toList = ps.toList.map fun p => (p.1, g p.2) := by simp
 have zz : ∀ l, gu (fun i => (jH (cw C.P t ‹_›).fs i).map fun x => (x.off, x.sz)) f (cw C.P t ‹_›).zc.toL ps.toList = some l → True := fun _ _ => trivial
 cases hk : (cw C.P t i).k <;> rw [hk] at h1 <;> try exact (ar h1).elim
 ·-- an array
  rename_i n e
  obtain ⟨te, e2, h2⟩ := lb h1
  obtain ⟨ie, hie, rfl⟩ := ht.ty _ _ e2
  obtain ⟨l, h3, h4⟩ := lb h2
  obtain ⟨hz, h5⟩ := bK h4
  obtain ⟨rfl, rfl⟩ := ae h5
  have hu := oR hk
  cases hzz : i.zero with
  | none => simp [cw, hzz] at hz
  | some z =>
   obtain ⟨hrel, hcw⟩ := sx (P := C.P) (t := t) hzz ρ C
   obtain ⟨out, o1, o2⟩ := Er (cs := z.cells) hf ps.toList _ _ (by simpa using hrel) h3
   refine .same hF rfl (x := .agg out) ?_ (by simp only [Rel]; exact ⟨out.toList, rfl, o2⟩)
   have : Instr.fill (fun i => some (i * ie.size, ie.size)) z.cells (ps.toList.map fun p => (p.1, g p.2)) = some out := o1
   simp [execOp, ho, Instr.build, zeroValue, dh hi, hzz, run_underlying hu, bp hie, this]
 ·obtain ⟨l, h3, h4⟩ := lb h1
  obtain ⟨hz, h5⟩ := bK h4
  obtain ⟨rfl, rfl⟩ := ae h5
  obtain ⟨fs, hu, hfl, hfo, hin⟩ := aD8 hk
  cases hzz : i.zero with
  | none => simp [cw, hzz] at hz
  | some z =>
   obtain ⟨hrel, hcw⟩ := sx (P := C.P) (t := t) hzz ρ C
   obtain ⟨out, o1, o2⟩ := Er (cs := z.cells) hf ps.toList _ _ (by simpa using hrel) h3
   refine .same hF rfl (x := .agg out) ?_ (by simp only [Rel]; exact ⟨out.toList, rfl, o2⟩)
   have hpl : (fun i => (jH (cw C.P t ‹_›).fs i).map fun x => (x.off, x.sz)) = fun i => (fs.map fun f => (f.offset, C.P.cellsOf f.type))[i]? := by
    funext j
    rw [AJ]
    show (((fN C.P t).map (fJ C.P))[j]?).map _ = _
    rw [hfl]
    simp [fJ]
    cases fs[j]? <;> rfl
   rw [hpl] at o1
   have hm : (fs.mapM fun f => Prod.mk f.offset <$> sizeOf f.type).run C.P w = .ok (fs.map fun f => (f.offset, C.P.cellsOf f.type)) w := by
    rw [← Array.toArray_toList (xs := fs)]
    rw [List.mapM_toArray]
    simp only [Sem.run_map, run_places _ hin w, Result.andThen_ok]
    rw [← List.map_toArray, Array.toArray_toList]
   have o1' : Instr.fill (fun x => Option.map (fun f : Field => (f.offset, C.P.cellsOf f.type)) fs[x]?) z.cells (List.map (fun x => (x.fst, g x.snd)) ps.toList) = some out := by
    rw [← o1]; congr 1; funext x; simp
   simp [execOp, ho, Instr.build, zeroValue, dh hi, hzz, run_underlying hu, hm, o1']
theorem s_nilCheck (hF : Fits C tb.ng B ρ S.heap w) (hf : ∀ x, Rel C ρ (f x) (g x)) {x : Operand} {o : Oper} (ho : o.op = .nilCheck x) {v : AV} (h : simple tb f (.nilCheck x) S = some (v, S')) :
 bX C tb.ng B ρ w S S' v ((execOp g o).run C.P w) := by
 have hx := hf x
 simp only [simple] at h
 cases hfx : f x <;> rw [hfx] at h hx <;> try exact (ar h).elim
 ·obtain ⟨rfl, rfl⟩ := ae h
  refine .same hF rfl (x := g x) ?_ hx
  simp only [Rel] at hx; obtain ⟨r, _, e⟩ := hx
  simp [execOp, ho, e]
 ·obtain ⟨rfl, rfl⟩ := ae h
  refine .same hF rfl (x := g x) ?_ hx
  simp only [Rel] at hx; obtain ⟨r, e, _⟩ := hx
  simp [execOp, ho, e]
 ·obtain ⟨rfl, rfl⟩ := ae h
  refine .same hF rfl (x := g x) ?_ hx
  simp only [Rel] at hx; obtain ⟨r, _, e, _⟩ := hx
  simp [execOp, ho, e]
 ·obtain ⟨rfl, rfl⟩ := ae h
  refine .same hF rfl (x := g x) ?_ hx
  simp only [Rel] at hx; obtain ⟨r, _, e⟩ := hx
  simp [execOp, ho, e]
 ·obtain ⟨rfl, rfl⟩ := ae h
  refine .same hF rfl (x := g x) ?_ hx
  simp only [Rel] at hx
  simp [execOp, ho, hx, typeHandle]
 ·obtain ⟨rfl, rfl⟩ := ae h
  refine .same hF rfl (x := g x) ?_ hx
  simp only [Rel] at hx; obtain ⟨r, k, j, _, _, e⟩ := hx
  simp [execOp, ho, e]
 ·obtain ⟨rfl, rfl⟩ := ae h
  refine .same hF rfl (x := g x) ?_ hx
  simp only [Rel] at hx; obtain ⟨r, _, _, _, _, e⟩ := hx
  simp [execOp, ho, e]
theorem s_makeInterface (ht : TyOk C.P tb) (hF : Fits C tb.ng B ρ S.heap w) (hf : ∀ x, Rel C ρ (f x) (g x)) {t : Nat} {x : Operand} {o : Oper} (ho : o.op = .makeInterface t x) {v : AV} (h : simple tb f (.makeInterface t x) S = some (v, S')) :
 bX C tb.ng B ρ w S S' v ((execOp g o).run C.P w) := by
 have hx := hf x
 simp only [simple] at h
 obtain ⟨ti, e1, h1⟩ := lb h
 obtain ⟨i, hi, rfl⟩ := ht.ty _ _ e1
 have key : ∀ d, C.P.underlying t = some d → (∀ ms, d ≠ .interface ms) → ret (AV.cU t (f x)) S = some (v, S') → bX C tb.ng B ρ w S S' v ((execOp g o).run C.P w) := by
  intro d hd hne h2
  obtain ⟨rfl, rfl⟩ := ae h2
  refine .same hF rfl (x := .iface t (g x)) ?_ (by simp only [Rel]; exact ⟨_, rfl, hx⟩)
  cases d <;> first | (simp [execOp, ho, Instr.makeInterface, run_underlying hd]; done) | (exact absurd rfl (hne _))
 rw [cF] at h1
 cases hu : C.P.underlying t with
 | none => have : a6 C.P t = .bad := by simp [a6, hu]
           rw [this] at h1; exact (ar h1).elim
 | some d =>
  by_cases hif : ∃ ms, d = .interface ms
  ·obtain ⟨ms, rfl⟩ := hif
   have : a6 C.P t = .iface ms.isEmpty := by simp [a6, hu]
   rw [this] at h1; exact (ar h1).elim
  ·have hne : ∀ ms, d ≠ .interface ms := fun ms e => hif ⟨ms, e⟩
   cases hk : a6 C.P t <;> rw [hk] at h1 <;> first | exact (ar h1).elim | exact key d hu hne h1
theorem s_makeFunc (hF : Fits C tb.ng B ρ S.heap w) (hf : ∀ x, Rel C ρ (f x) (g x)) {fn : Fn} {fi ca : Array Operand} {o : Oper} (ho : o.op = .makeFunc fn fi ca) {v : AV} (h : simple tb f (.makeFunc fn fi ca) S = some (v, S')) :
 bX C tb.ng B ρ w S S' v ((execOp g o).run C.P w) := by
 simp only [simple] at h
 cases fn <;> try exact (ar h).elim
 rename_i u
 obtain ⟨rfl, rfl⟩ := ae h
 refine .same hF rfl (x := .func (.func u) (fi.map g) (ca.map g)) ?_ ?_
 ·simp [execOp, ho, Instr.makeFunc]
 ·simp only [Rel]
  exact ⟨(fi.map g).toList, (ca.map g).toList, rfl, by simpa using aH.map f g hf fi.toList, by simpa using aH.map f g hf ca.toList⟩
theorem s_extract (hF : Fits C tb.ng B ρ S.heap w) (hf : ∀ x, Rel C ρ (f x) (g x)) {x : Operand} {k : Nat} {o : Oper} (ho : o.op = .extract x k) {v : AV} (h : simple tb f (.extract x k) S = some (v, S')) :
 bX C tb.ng B ρ w S S' v ((execOp g o).run C.P w) := by
 have hx := hf x
 simp only [simple] at h
 cases hfx : f x <;> rw [hfx] at h hx <;> try exact (ar h).elim
 obtain ⟨h1, rfl⟩ := cS h
 rw [qZ] at h1
 simp only [Rel] at hx
 obtain ⟨cs, e, hrel⟩ := hx
 obtain ⟨y, hy1, hy2⟩ := hrel.get h1
 exact .same hF rfl (x := y) (by simp [execOp, ho, e, Instr.extract, hy1]) hy2
theorem s_fieldAddr (ht : TyOk C.P tb) (hF : Fits C tb.ng B ρ S.heap w) (hf : ∀ x, Rel C ρ (f x) (g x)) {t : Nat} {x : Operand} {k : Nat} {o : Oper} (ho : o.op = .fieldAddr t x k) {v : AV} (h : simple tb f (.fieldAddr t x k) S = some (v, S')) :
 bX C tb.ng B ρ w S S' v ((execOp g o).run C.P w) := by
 have hx := hf x
 simp only [simple] at h
 obtain ⟨ti, e1, h1⟩ := lb h
 obtain ⟨i, hi, rfl⟩ := ht.ty _ _ e1
 obtain ⟨fl, e2, h2⟩ := lb h1
 rw [AJ] at e2
 have main : ∀ (blk co : Nat), g x = .pointer (some ⟨blk, co, none⟩) → Nat.beq fl.sz 0 = false → S' = S → Rel C ρ v (.pointer (some ⟨blk, co + fl.off, none⟩)) → bX C tb.ng B ρ w S S' v ((execOp g o).run C.P w) := by
  intro blk co e hsz hS hv
  subst hS
  have e2 : ((fN C.P t).map (fJ C.P))[k]? = some fl := e2
  rw [List.getElem?_map] at e2
  cases hfk : (fN C.P t)[k]? with
  | none => rw [hfk] at e2; cases e2
  | some fd =>
   rw [hfk] at e2
   simp only [Option.map_some, Option.some.injEq] at e2
   subst e2
   have hsz : C.P.cellsOf fd.type ≠ 0 := gN hsz
   cases hu : C.P.underlying t with
   | none => simp [fN, hu] at hfk
   | some d =>
    cases d <;> try (simp [fN, hu] at hfk; done)
    rename_i fs
    have hfk' : fs[k]? = some fd := by simpa [fN, hu] using hfk
    cases hit : C.P.info? fd.type with
    | none => simp [Program.cellsOf, hit] at hsz
    | some it =>
     have hsz' : it.size ≠ 0 := by simpa [Program.cellsOf, hit] using hsz
     refine .same hF rfl (x := .pointer (some ⟨blk, co + fd.offset, none⟩)) ?_ hv
     simp [execOp, ho, e, Instr.fieldAt, run_underlying hu, hfk', Instr.sureAddr, fieldPlace, bp hit, hsz', Addr.add_lit, Nat.add_assoc]
 cases hfx : f x <;> rw [hfx] at h2 hx <;> try exact (ar h2).elim
 ·rename_i b off
  obtain ⟨hsz, h3⟩ := cond_inv' h2
  obtain ⟨rfl, rfl⟩ := ae h3
  simp only [Rel] at hx
  obtain ⟨r, hr, e⟩ := hx
  exact main r.blk (r.base + off) e hsz rfl (by simp only [Rel]; exact ⟨r, hr, by rw [Nat.add_assoc]; rfl⟩)
 ·rename_i b i' s off
  obtain ⟨hsz, h3⟩ := cond_inv' h2
  obtain ⟨rfl, rfl⟩ := ae h3
  simp only [Rel] at hx
  obtain ⟨r, kk, j, hr, hi, e⟩ := hx
  exact main r.blk (r.base + (j * s + off)) e hsz rfl (by simp only [Rel]; exact ⟨r, kk, j, hr, hi, by rw [Nat.add_assoc, Nat.add_assoc]; rfl⟩)
theorem qH {l : List AV} {cs : List Value} {fd : Fl} {v : AV} (hrel : aH C ρ l cs) (h : part l fd = some v) {i : TypeInfo} (hi : C.P.info? fd.t = some i) (hsz : fd.sz = i.size) (hag : fd.agg = isAgg (a6 C.P fd.t)) (hbd : fd.bad = isBad (a6 C.P fd.t)) (w : World) :
 ∃ y, (Go.part fd.t ⟨cs⟩ fd.off).run C.P w = .ok y w ∧ Rel C ρ v y := by
 unfold part at h
 cases hb2 : fd.bad with
 | true => rw [hb2] at h; cases h
 | false =>
 rw [hb2, cond_false] at h
 have hbad : isBad (a6 C.P fd.t) = false := by rw [← hbd, hb2]
 cases hagg : fd.agg with
 | true =>
  rw [hagg] at h hag
  simp only [cond_true, lsub] at h
  by_cases hc : fd.off + fd.sz ≤ l.length
  ·rw [show Nat.ble (Nat.add fd.off fd.sz) l.length = true from pG hc] at h
   simp only [cond_true, Option.map_some, Option.some.injEq] at h
   subst h
   refine ⟨.agg ((⟨cs⟩ : Array Value).extract fd.off (fd.off + fd.sz)), ?_, ?_⟩
   ·simp only [Go.part, Sem.run_bind, CE hag.symm, Result.andThen_ok, if_true, bp hi, Sem.run_pure, hsz]
   ·simp only [Rel]
    refine ⟨(cs.drop fd.off).take fd.sz, ?_, hrel.sub _ _⟩
    congr 1
    apply Array.ext'
    simp [List.extract_eq_take_drop]
  ·rw [show Nat.ble (Nat.add fd.off fd.sz) l.length = false from lY hc] at h; cases h
 | false =>
  rw [hagg] at h hag
  simp only [cond_false] at h
  rw [qZ] at h
  obtain ⟨y, hy1, hy2⟩ := hrel.get h
  refine ⟨y, ?_, hy2⟩
  have : (⟨cs⟩ : Array Value)[fd.off]? = some y := by simpa using hy1
  simp only [Go.part, Sem.run_bind, pj hi hbad hag.symm, Result.andThen_ok, Bool.false_eq_true, if_false, this, Sem.run_pure]
end
end Go.AX
end
section
namespace Go.AX
section
variable {C : Cx} {tb : Tab} {B : Fz} {ρ : ak} {w : World} {S S' : St}
variable {f : Operand → AV} {g : Operand → Value}
theorem hY {a : AV} {n : Nat} {v : Value} (h : dy a = some n) (hr : Rel C ρ a v) : ∃ k, v = .int k (n : Int) := by
 unfold dy at h
 split at h
 ·rename_i k m
  simp only [Option.some.injEq] at h; subst h
  simp only [Rel] at hr; exact ⟨k, hr⟩
 ·cases h
theorem asNo_ok (hf : ∀ x, Rel C ρ (f x) (g x)) {o : Option Operand} {d n : Nat} (h : jJ f o d = some n) : (o = none ∧ n = d) ∨ ∃ x k, o = some x ∧ g x = .int k (n : Int) := by
 cases o with
 | none => simp only [jJ, Option.some.injEq] at h; exact .inl ⟨rfl, h.symm⟩
 | some x => obtain ⟨k, hk⟩ := hY h (hf x); exact .inr ⟨x, k, rfl, hk⟩
theorem s_field (ht : TyOk C.P tb) (hF : Fits C tb.ng B ρ S.heap w) (hf : ∀ x, Rel C ρ (f x) (g x)) {t : Nat} {x : Operand} {k : Nat} {o : Oper} (ho : o.op = .field t x k) {v : AV} (h : simple tb f (.field t x k) S = some (v, S')) :
 bX C tb.ng B ρ w S S' v ((execOp g o).run C.P w) := by
 have hx := hf x
 simp only [simple] at h
 obtain ⟨ti, e1, h1⟩ := lb h
 obtain ⟨i, hi, rfl⟩ := ht.ty _ _ e1
 obtain ⟨fl, e2, h2⟩ := lb h1
 rw [AJ] at e2
 cases hfx : f x <;> rw [hfx] at h2 hx <;> try exact (ar h2).elim
 rename_i l
 obtain ⟨h3, rfl⟩ := cS h2
 have e2 : ((fN C.P t).map (fJ C.P))[k]? = some fl := e2
 rw [List.getElem?_map] at e2
 cases hfk : (fN C.P t)[k]? with
 | none => rw [hfk] at e2; cases e2
 | some fd =>
  rw [hfk] at e2
  simp only [Option.map_some, Option.some.injEq] at e2
  subst e2
  cases hu : C.P.underlying t with
  | none => simp [fN, hu] at hfk
  | some d =>
   cases d <;> try (simp [fN, hu] at hfk; done)
   rename_i fs
   have hfk' : fs[k]? = some fd := by simpa [fN, hu] using hfk
   simp only [Rel] at hx
   obtain ⟨cs, e, hrel⟩ := hx
   have ee : ∃ it, C.P.info? fd.type = some it := by
    cases hb : isBad (a6 C.P fd.type) with
    | true => simp [part, fJ, hb] at h3
    | false =>
     cases hit : C.P.info? fd.type with
     | some it => exact ⟨it, rfl⟩
     | none => simp [a6, Program.underlying, hit, isBad] at hb
   obtain ⟨it, hit⟩ := ee
   obtain ⟨y, hy1, hy2⟩ := qH (w := w) hrel h3 (i := it) hit (by simp [fJ, Program.cellsOf, hit]) rfl rfl
   refine .same hF rfl (x := y) ?_ hy2
   have hy1 : (Go.part fd.type ⟨cs⟩ fd.offset).run C.P w = .ok y w := hy1
   simp [execOp, ho, e, Instr.field, run_underlying hu, hfk', asAgg, hy1]
theorem s_indexAddr (ht : TyOk C.P tb) (hF : Fits C tb.ng B ρ S.heap w) (hf : ∀ x, Rel C ρ (f x) (g x)) {t : Nat} {x ix : Operand} {o : Oper} (ho : o.op = .indexAddr t x ix) {v : AV} (hsy : jQ (f x) = none) (hsr : gX (f x) = none) (hpn : qJ (f x) (f ix) = none) (h : simple tb f (.indexAddr t x ix) S = some (v, S')) :
 bX C tb.ng B ρ w S S' v ((execOp g o).run C.P w) := by
 have hx := hf x
 simp only [simple, hsy, hsr, hpn] at h
 obtain ⟨ti, e1, h1⟩ := lb h
 obtain ⟨i, hi, rfl⟩ := ht.ty _ _ e1
 rw [cF] at h1
 cases hn : dy (f ix) with
 | none => rw [hn] at h1; cases hk : a6 C.P t <;> cases hfx : f x <;> rw [hk, hfx] at h1 <;> exact (ar h1).elim
 | some n =>
  obtain ⟨kk, hg⟩ := hY hn (hf ix)
  rw [hn] at h1
  cases hk : a6 C.P t <;> rw [hk] at h1 <;> try (cases hfx : f x <;> rw [hfx] at h1 <;> exact (ar h1).elim)
  ·rename_i e
   have hu := dq hk
   cases hfx : f x <;> rw [hfx] at h1 hx <;> try exact (ar h1).elim
   rename_i b off len cap rest
   obtain ⟨hlt, h2⟩ := bK h1
   have hlt : n < len := Nat.le_of_ble_eq_true hlt
   obtain ⟨te, e2, h3⟩ := lb h2
   obtain ⟨ie, hie, rfl⟩ := ht.ty _ _ e2
   obtain ⟨rfl, rfl⟩ := ae h3
   have : ∃ r cap', ρ b = some r ∧ g x = .slice (some ⟨r.blk, r.base + off, none⟩) len cap' := by
    cases rest
    ·simp only [Rel] at hx; obtain ⟨r, hr, _, e⟩ := hx; exact ⟨r, _, hr, e⟩
    ·simp only [Rel] at hx; obtain ⟨r, a, hr, _, e, ha⟩ := hx
     rcases ha with rfl | ha
     ·exact ⟨r, _, hr, e⟩
     ·omega
   obtain ⟨r, cap', hr, e'⟩ := this
   refine .same hF rfl (x := .pointer (some ⟨r.blk, r.base + (off + n * ie.size), none⟩)) ?_ (by simp only [Rel]; exact ⟨r, hr, rfl⟩)
   have h0 : (0 : Int) ≤ n ∧ (n : Int) < len := by omega
   simp [execOp, ho, hg, e', Instr.indexAt, asIntOf, run_underlying hu, h0, bp hie, Addr.add_lit, Nat.add_assoc, hlt]
  ·rename_i m e
   have hu := oR hk
   cases hfx : f x <;> rw [hfx] at h1 hx <;> try exact (ar h1).elim
   rename_i b off
   obtain ⟨hlt, h2⟩ := bK h1
   have hlt : n < m := Nat.le_of_ble_eq_true hlt
   obtain ⟨te, e2, h3⟩ := lb h2
   obtain ⟨ie, hie, rfl⟩ := ht.ty _ _ e2
   obtain ⟨rfl, rfl⟩ := ae h3
   simp only [Rel] at hx; obtain ⟨r, hr, e'⟩ := hx
   refine .same hF rfl (x := .pointer (some ⟨r.blk, r.base + (off + n * ie.size), none⟩)) ?_ (by simp only [Rel]; exact ⟨r, hr, rfl⟩)
   have h0 : (0 : Int) ≤ n ∧ (n : Int) < m := by omega
   simp [execOp, ho, hg, e', Instr.indexAt, asIntOf, run_underlying hu, h0, bp hie, Addr.add_lit, Nat.add_assoc, hlt, Instr.sureAddr]
end
end Go.AX
end
section
namespace Go.AX
theorem same_eq {a b : AV} (h : same a b = true) : a = b := by
 cases a <;> cases b <;> simp only [same] at h <;> try (cases h; done)
 ·simp at h; rw [h]
 ·simp only [Bool.and_eq_true, beq_iff_eq, lD, decide_eq_true_eq] at h; rw [h.1, h.2]
 ·simp only [Bool.and_eq_true] at h; rw [cH h.1, cH h.2]
 ·rw [cH h]
theorem tW : ∀ {a b : List AV}, n6 a b = true → a = b
 | [], [], _ => rfl
 | [], _ :: _, h => by cases h
 | _ :: _, [], h => by cases h
 | a :: l, b :: m, h => by simp only [n6, Bool.and_eq_true] at h; rw [same_eq h.1, tW h.2]
theorem binOp_beq {a b : BinOp} (h : (a == b) = true) : a = b := by simpa using h
theorem unOp_beq {a b : UnOp} (h : (a == b) = true) : a = b := by simpa using h
theorem iA {s : AV → AV → Bool} (hs : ∀ a b, s a b = true → a = b) : ∀ {l m : List AV}, cz s l m = true → l = m
 | [], [], _ => rfl
 | [], _ :: _, h => by cases h
 | _ :: _, [], h => by cases h
 | a :: l, b :: m, h => by simp only [cz, Bool.and_eq_true] at h; rw [hs _ _ h.1, iA hs h.2]
theorem iH : ∀ (d : Nat) (a b : AV), eu d a b = true → a = b
 | 0, a, b, h => same_eq h
 | d + 1, a, b, h => by
  have ih := iH d
  unfold eu at h
  split at h
  ·rw [iA ih h]
  ·rw [iA ih h]
  ·simp only [Bool.and_eq_true] at h; rw [cH h.1, ih _ _ h.2]
  all_goals first | rfl | (rw [cH h]; done) | exact same_eq h
theorem mY : ∀ (d : Nat) (a b : AV), fP d a b = true → a = b
 | 0, a, b, h => by cases h
 | d + 1, a, b, h => by
  have ih := mY d
  unfold fP at h
  split at h
  ·simp only [Bool.and_eq_true] at h; rw [Nat.eq_of_beq_eq_true h.1, Nat.eq_of_beq_eq_true h.2]
  ·simp only [Bool.and_eq_true, beq_iff_eq] at h; rw [Nat.eq_of_beq_eq_true h.1.1.1.1, Nat.eq_of_beq_eq_true h.1.1.1.2, Nat.eq_of_beq_eq_true h.1.1.2, Nat.eq_of_beq_eq_true h.1.2, h.2]
  ·rw [Nat.eq_of_beq_eq_true h]
  ·simp only [Bool.and_eq_true] at h; rw [Nat.eq_of_beq_eq_true h.1, ih _ _ h.2]
  ·rw [Nat.eq_of_beq_eq_true h]
  ·simp only [Bool.and_eq_true] at h; rw [Nat.eq_of_beq_eq_true h.1, ih _ _ h.2.1, Nat.eq_of_beq_eq_true h.2.2.1, Nat.eq_of_beq_eq_true h.2.2.2]
  ·rw [Nat.eq_of_beq_eq_true h]
  ·rw [Nat.eq_of_beq_eq_true h]
  ·simp only [Bool.and_eq_true] at h; rw [Nat.eq_of_beq_eq_true h.1.1, iA ih h.1.2, iA ih h.2]
  ·rw [iA ih h]
  ·rw [iA ih h]
  ·simp only [Bool.and_eq_true] at h; rw [Nat.eq_of_beq_eq_true h.1, ih _ _ h.2]
  all_goals first | rfl | (rw [Nat.eq_of_beq_eq_true h]; done) | exact same_eq h
theorem aK6 : ∀ {a b : Option AV}, B9 a b = true → a = b
 | none, none, _ => rfl
 | some a, some b, h => by rw [same_eq h]
 | none, some _, h => by cases h
 | some _, none, h => by cases h
theorem HK.same_eq {a b : HK} (h : a.same b = true) : a = b := by
 cases a <;> cases b <;> simp only [HK.same] at h <;> try (cases h; done)
 ·simp only [Bool.and_eq_true] at h; rw [binOp_beq h.1.1, AX.same_eq h.1.2, AX.same_eq h.2]
 ·simp only [Bool.and_eq_true] at h; rw [cH h.1, AX.same_eq h.2]
 ·simp only [Bool.and_eq_true] at h; rw [unOp_beq h.1, AX.same_eq h.2]
 ·simp only [Bool.and_eq_true] at h; rw [AX.same_eq h.1, AX.same_eq h.2]
 ·rw [AX.same_eq h]
 ·simp only [Bool.and_eq_true] at h; rw [AX.same_eq h.1.1, aK6 h.1.2, aK6 h.2]
 ·rw [tW h]
 ·simp only [Bool.and_eq_true] at h; rw [Nat.eq_of_beq_eq_true h.1.1, AX.same_eq h.1.2, AX.same_eq h.2]
 ·simp only [Bool.and_eq_true] at h; rw [Nat.eq_of_beq_eq_true h.1, iA (iH 8) h.2]
 ·simp only [Bool.and_eq_true] at h; rw [eq_of_beq h.1.1, AX.same_eq h.1.2, AX.same_eq h.2]
 ·simp only [Bool.and_eq_true] at h; rw [AX.same_eq h.1, AX.same_eq h.2]
 ·simp only [Bool.and_eq_true] at h; rw [AX.same_eq h.1.1, AX.same_eq h.1.2, AX.same_eq h.2]
 ·simp only [Bool.and_eq_true] at h; rw [AX.same_eq h.1, tW h.2]
 ·rw [AX.same_eq h]
 ·rw [AX.same_eq h]
 ·simp only [Bool.and_eq_true] at h; rw [Nat.eq_of_beq_eq_true h.1, iA (iH 8) h.2]
 ·simp only [Bool.and_eq_true] at h; rw [AX.same_eq h.1, iA (mY 8) h.2]
 ·simp only [Bool.and_eq_true] at h; rw [AX.same_eq h.1, Nat.eq_of_beq_eq_true h.2]
 ·simp only [Bool.and_eq_true] at h; rw [AX.same_eq h.1, AX.same_eq h.2.1, Nat.eq_of_beq_eq_true h.2.2.1, Nat.eq_of_beq_eq_true h.2.2.2]
 ·simp only [Bool.and_eq_true] at h; rw [AX.same_eq h.1, iA (mY 8) h.2]
 ·rfl
 ·simp only [Bool.and_eq_true] at h; rw [AX.same_eq h.1, Nat.eq_of_beq_eq_true h.2.1, Nat.eq_of_beq_eq_true h.2.2]
 ·simp only [Bool.and_eq_true] at h; rw [AX.same_eq h.1, AX.same_eq h.2]
 ·rw [AX.same_eq h]
 ·simp only [Bool.and_eq_true] at h; rw [AX.same_eq h.1, AX.same_eq h.2]
 ·simp only [Bool.and_eq_true] at h; rw [AX.same_eq h.1, AX.same_eq h.2.1, Nat.eq_of_beq_eq_true h.2.2]
 ·rw [AX.same_eq h]
 ·simp only [Bool.and_eq_true] at h; rw [AX.same_eq h.1.1, AX.same_eq h.1.2, AX.same_eq h.2]
 ·simp only [Bool.and_eq_true] at h; rw [Nat.eq_of_beq_eq_true h.1, AX.same_eq h.2]
 ·simp only [Bool.and_eq_true] at h; rw [AX.same_eq h.1.1, AX.same_eq h.1.2, tW h.2]
 ·simp only [Bool.and_eq_true] at h; rw [Nat.eq_of_beq_eq_true h.1.1, AX.same_eq h.1.2, AX.same_eq h.2]
theorem qu : ∀ {l : List (HK × AV)} {k : HK} {r : AV}, hl l k = some r → (k, r) ∈ l
 | [], _, _, h => by cases h
 | (a, x) :: l, k, r, h => by
  simp only [hl] at h
  cases hs : a.same k with
  | true => rw [hs] at h; simp only [cond_true, Option.some.injEq] at h; rw [HK.same_eq hs, h]; simp
  | false => rw [hs] at h; exact List.mem_cons_of_mem _ (qu h)
def aS (C : Cx) : HK → AV → Prop
 | .bin o x y, r => ∀ ρ vx vy, Rel C ρ x vx → Rel C ρ y vy →
  ((∃ k a b, vx = .int k a ∧ vy = .int k b) ∨ (∃ s u, vx = .string s ∧ vy = .string u) ∨ ((o = .shl ∨ o = .shr) ∧ ∃ k l a b, vx = .int k a ∧ vy = .int l b)) ∧
  ∃ v, Rel C ρ r v ∧ ∀ t w, (binOp o t vx vy).run C.P w = .ok v w
 | .conv t x, r => ∀ ρ vx, Rel C ρ x vx → ((∃ k n, vx = .int k n) ∨ ∃ s, vx = .string s) ∧ ∃ v, Rel C ρ r v ∧ ∀ src w, (C.P.underlying src).isSome = true → (convert src t vx).run C.P w = .ok v w
 | .un o x, r => ∀ ρ vx, Rel C ρ x vx → ∃ v, Rel C ρ r v ∧ ∀ w, (Op.unary o vx).run C.P w = .ok v w
 | .idx x y, r => ∀ ρ vx vy, Rel C ρ x vx → Rel C ρ y vy → ∃ v, Rel C ρ r v ∧ ∀ t w, C.P.underlying t = some .string → (Instr.index t vx vy).run C.P w = .ok v w
 | .len x, r => ∀ ρ vx, Rel C ρ x vx → ∃ v, Rel C ρ r v ∧ ∃ s, vx = .string s ∧ v = .int .i64 s.size
 | .sub x lo hi, r => ∀ ρ vx, Rel C ρ x vx → ∃ v, Rel C ρ r v ∧ ∀ vl vh, (match lo with | none => vl = none | some a => ∃ y, vl = some y ∧ Rel C ρ a y) → (match hi with | none => vh = none | some a => ∃ y, vh = some y ∧ Rel C ρ a y) →
  ∀ t w, C.P.underlying t = some .string → (Instr.slice t vx vl vh none).run C.P w = .ok v w
 | .bytes l, r => ∀ ρ vs, aH C ρ l vs → ∃ (bs : List UInt8) (v : Value), vs = bs.map (fun b => .int .u8 (b.toNat : Int)) ∧ v = .string ⟨bs.toArray⟩ ∧ Rel C ρ r v
 | .slen x, r => ∀ ρ vx, Rel C ρ x vx → ∃ (a : Option Addr) (n c : Nat), vx = .slice a n c ∧ Rel C ρ r (.int .i64 (n : Int))
 | .bI x y, r => ∃ b, r = .b b ∧ ∀ ρ vx vy, Rel C ρ x vx → Rel C ρ y vy → ∃ p q : Bool, vx = .bool p ∧ vy = .bool q ∧ b = (p == q)
 | .eq t x y, r => ∃ b, r = .b b ∧ ∀ ρ vx vy, Rel C ρ x vx → Rel C ρ y vy → ∀ D w, 1 ≤ D → (Op.equalIn D t vx vy).run C.P w = .ok b w
 | .call g l, r => ∀ ρ args, aH C ρ l args → ∀ w : World, C.inv w → C.cE ≤ w.heap.size → Calls C.P g ⟨args⟩ w fun e w' => ∃ x, e = .returned x ∧ Rel C ρ r x ∧ Below (Fz.lt w.heap.size) w w'
 | .mm mx x y, r => ∀ ρ vx vy, Rel C ρ x vx → Rel C ρ y vy → ∃ v, Rel C ρ r v ∧ ∀ w, ((if mx then Builtin.max2 vx vy else Builtin.min2 vx vy)).run C.P w = .ok v w
 | .cW x i, r => ∀ ρ vx vi, Rel C ρ x vx → Rel C ρ i vi → ∃ (l : List UInt8) (k : IntKind) (j : Nat) (b : UInt8), vx = .string ⟨l.toArray⟩ ∧ vi = .int k (Int.ofNat j) ∧ l[j]? = some b ∧ Rel C ρ r (.int .u8 (b.toNat : Int))
 | .set x i y, r => ∀ ρ vx vi vy, Rel C ρ x vx → Rel C ρ i vi → Rel C ρ y vy → ∃ (l : List UInt8) (k : IntKind) (j : Nat) (b : UInt8), vx = .string ⟨l.toArray⟩ ∧ vi = .int k (Int.ofNat j) ∧ j < l.length ∧ vy = .int .u8 (b.toNat : Int) ∧ Rel C ρ r (.string ⟨(l.set j b).toArray⟩)
 | .app x ys, r => ∀ ρ vx vs, Rel C ρ x vx → aH C ρ ys vs → ∃ (l bs : List UInt8), vx = .string ⟨l.toArray⟩ ∧ vs = bs.map (fun b => .int .u8 (b.toNat : Int)) ∧ Rel C ρ r (.string ⟨(l ++ bs).toArray⟩)
 | .fit x, _ => ∀ ρ vx, Rel C ρ x vx → ∃ l : List UInt8, vx = .string ⟨l.toArray⟩ ∧ l.length ≤ 140737488355328
 | .zer n, r => ∀ ρ vn, Rel C ρ n vn → ∃ (k : IntKind) (m : Nat), vn = .int k (Int.ofNat m) ∧ m ≤ 140737488355328 ∧ Rel C ρ r (.string ⟨(List.replicate m 0).toArray⟩)
 | .ext g l, r => ∀ ρ args, aH C ρ l args → ∀ fn, C.P.funcs[g]? = some fn → ∃ rr, Extern.findNext fn = none ∧ Extern.find fn = some rr ∧ ∀ w : World, ∃ x, (rr ⟨args⟩).run C.P w = .ok x w ∧ Rel C ρ r x
 | .tab l x, r => ∀ ρ vx, Rel C ρ x vx → ∃ (k : IntKind) (j : Nat) (a : AV), vx = .int k (Int.ofNat j) ∧ l[j]? = some a ∧ ∀ ρ' v, Rel C ρ' a v → Rel C ρ' r v
 | .rl x sz, r => ∀ ρ vx, Rel C ρ x vx → ∃ (cs : List Value) (n : Nat), vx = .tuple ⟨cs⟩ ∧ cs.length = n * sz ∧ Rel C ρ r (.int .i64 (n : Int))
 | .el x i sz off, r => ∀ ρ vx vi, Rel C ρ x vx → Rel C ρ i vi → ∃ (cs : List Value) (k : IntKind) (j : Nat) (c : Value), vx = .tuple ⟨cs⟩ ∧ vi = .int k (Int.ofNat j) ∧ cs[j * sz + off]? = some c ∧ Rel C ρ r c
 | .ra x l, r => ∀ ρ vx vs, Rel C ρ x vx → aH C ρ l vs → ∃ cs : List Value, vx = .tuple ⟨cs⟩ ∧ Rel C ρ r (.tuple ⟨cs ++ vs⟩)
 | .rn, r => ∀ ρ, Rel C ρ r (.tuple ⟨[]⟩)
 | .rr x y, r => ∀ ρ vx vy, Rel C ρ x vx → Rel C ρ y vy → ∃ cs ds : List Value, vx = .tuple ⟨cs⟩ ∧ vy = .tuple ⟨ds⟩ ∧ Rel C ρ r (.tuple ⟨cs ++ ds⟩)
 | .rt x h sz, r => ∀ ρ vx vh, Rel C ρ x vx → Rel C ρ h vh → ∃ (cs : List Value) (k : IntKind) (j : Nat), vx = .tuple ⟨cs⟩ ∧ vh = .int k (Int.ofNat j) ∧ j * sz ≤ cs.length ∧ Rel C ρ r (.tuple ⟨cs.take (j * sz)⟩)
 | .rz n, r => ∀ ρ vn, Rel C ρ n vn → ∃ (k : IntKind) (m : Nat), vn = .int k (Int.ofNat m) ∧ m * 16 ≤ 140737488355328 ∧ Rel C ρ r (.tuple ⟨List.replicate m (.string ⟨#[]⟩)⟩)
 | .rg e n, r => ∀ ρ vn, Rel C ρ n vn → ∃ (k : IntKind) (m : Nat) (i : TypeInfo) (z : Value), vn = .int k (Int.ofNat m) ∧ C.P.info? e = some i ∧ i.zero = some z ∧ z.cells.toList.length = i.size ∧ (∀ x, x ∈ z.cells.toList → x.oneCell' = true) ∧ m * i.bytes ≤ 140737488355328 ∧ m ≤ 140737488355328 ∧ Rel C ρ r (.tuple ⟨(List.replicate m z.cells.toList).flatten⟩)
 | .rs x i y, r => ∀ ρ vx vi vy, Rel C ρ x vx → Rel C ρ i vi → Rel C ρ y vy → ∃ (cs : List Value) (k : IntKind) (j : Nat) (s : ByteArray), vx = .tuple ⟨cs⟩ ∧ vi = .int k (Int.ofNat j) ∧ j < cs.length ∧ vy = .string s ∧ Rel C ρ r (.tuple ⟨cs.set j (.string s)⟩)
 | .rp x i l, r => ∀ ρ vx vi vs, Rel C ρ x vx → Rel C ρ i vi → aH C ρ l vs → ∃ (cs : List Value) (k : IntKind) (j : Nat), vx = .tuple ⟨cs⟩ ∧ vi = .int k (Int.ofNat j) ∧ j * l.length + l.length ≤ cs.length ∧ Rel C ρ r (.tuple ⟨bd cs (j * l.length) vs⟩)
 | .rc e x i, r => ∀ ρ vx vi, Rel C ρ x vx → Rel C ρ i vi → ∃ (cs : List Value) (k : IntKind) (j m : Nat) (ti : TypeInfo) (z : Value), vx = .tuple ⟨cs⟩ ∧ vi = .int k (Int.ofNat j) ∧ C.P.info? e = some ti ∧ ti.zero = some z ∧ z.cells.toList.length = ti.size ∧ (∀ x, x ∈ z.cells.toList → x.oneCell' = true) ∧ cs.length = (j + m) * ti.size ∧ Rel C ρ r (.tuple ⟨cs.take (j * ti.size) ++ (List.replicate m z.cells.toList).flatten⟩)
 | .rf x sz bytes, _ => ∀ ρ vx, Rel C ρ x vx → ∃ (cs : List Value) (n : Nat), vx = .tuple ⟨cs⟩ ∧ cs.length = n * sz ∧ n * bytes ≤ 140737488355328 ∧ n ≤ 140737488355328
structure HypOk (C : Cx) (tb : Tab) : Prop where
 hyp : ∀ k r, (k, r) ∈ tb.hyp → aS C k r
section
variable {C : Cx} {tb : Tab} {B : Fz} {ρ : ak} {w : World} {S S' : St}
variable {f : Operand → AV} {g : Operand → Value}
theorem bR (hh : HypOk C tb) {k : HK} {r : AV} (h : hl tb.hyp k = some r) : aS C k r := hh.hyp k r (qu h)
theorem oo : ∀ {l : List (HK × AV)} {k : HK}, hlq l k = hl l k
 | [], k => rfl
 | (a, r) :: l, k => by unfold hlq hl; rw [oo]
theorem nilStr_rel (hh : HypOk C tb) (ρ : ak) : Rel C ρ (Ce tb.hyp) (.string ⟨#[]⟩) := by
 unfold Ce
 rw [oo]
 cases hq : hl tb.hyp (.bytes []) with
 | none => simp only [Rel]; exact ⟨rfl, by simp⟩
 | some r =>
  cases r <;> first | (simp only [Rel]; exact ⟨rfl, by simp⟩) | skip
  obtain ⟨bs, v, g1, g2, g3⟩ := bR hh hq ρ [] (by simp only [aH])
  have : bs = [] := by cases bs with
   | nil => rfl
   | cons => cases g1
  subst this
  rw [g2] at g3; exact g3
theorem hypB_inv (hh : HypOk C tb) {k : HK} {r : Bool} (h : eS tb k S = some (r, S')) : aS C k (.b r) ∧ S' = S := by
 unfold eS at h
 cases hl' : hl tb.hyp k with
 | none => rw [hl'] at h; exact (ar h).elim
 | some x =>
  rw [hl'] at h
  cases x <;> try exact (ar h).elim
  obtain ⟨rfl, rfl⟩ := ae h
  exact ⟨bR hh hl', rfl⟩
theorem strEq {k l a c : Nat} (ha : a < 2 ^ (8 * k)) (hc : c < 2 ^ (8 * l)) : (Nat.beq k l && Nat.beq a c) = ((⟨(bV k a).toArray⟩ : ByteArray).toList == (⟨(bV l c).toArray⟩ : ByteArray).toList) := by
 rw [ByteArray.toList_eq, ByteArray.toList_eq]
 simp only []
 rw [Bool.eq_iff_iff]
 simp only [Bool.and_eq_true, beq_iff_eq, Nat.beq_eq]
 constructor
 ·rintro ⟨rfl, rfl⟩; rfl
 ·intro h
  have h1 : k = l := by have := congrArg List.length h; simpa [eP] using this
  subst h1
  exact ⟨rfl, strB_inj _ _ _ ha hc h⟩
theorem ptrEq_ok {a c o u : Nat} {ra rc : R} (ha : ρ a = some ra) (hc : ρ c = some rc) {r : Bool} (h : ptrEq a c o u S = some (r, S')) :
 S' = S ∧ (sameAddr ⟨ra.blk, ra.base + o, none⟩ ⟨rc.blk, rc.base + u, none⟩).run C.P w = .ok r w := by
 unfold ptrEq at h
 obtain ⟨hac, h1⟩ := bK h
 obtain ⟨rfl, rfl⟩ := ae h1
 have e := cH hac
 subst e
 rw [ha] at hc; injection hc with hc; subst hc
 refine ⟨rfl, ?_⟩
 simp only [sameAddr, beq_self_eq_true, if_true]
 show Result.ok _ w = _
 congr 1
 rw [Bool.eq_iff_iff]
 simp [beq_iff_eq]
def BF (C : Cx) (w : World) (d : Nat) (S S' : St) (t : Nat) (vx vy : Value) (r : Bool) : Prop :=
 S'.heap = S.heap ∧ S'.next = S.next ∧ ∀ D, d ≤ D → (Op.equalIn D t vx vy).run C.P w = .ok r w
theorem eqF_ok (ht : TyOk C.P tb) {eq : Nat → AV → AV → M Bool} {d : Nat} (heq : ∀ {S S' : St} {t : Nat} {x y : AV} {vx vy : Value} {r : Bool}, Rel C ρ x vx → Rel C ρ y vy → eq t x y S = some (r, S') → BF C w d S S' t vx vy r)
 {l m : List AV} {cs ds : List Value} (hl : aH C ρ l cs) (hm : aH C ρ m ds) : ∀ (fs : List Field) {S S' : St} {r : Bool}, eqF eq l m (fs.map (fJ C.P)) S = some (r, S') →
 S'.heap = S.heap ∧ S'.next = S.next ∧ ∀ D, d ≤ D → (Op.eqFields D ⟨cs⟩ ⟨ds⟩ fs).run C.P w = .ok r w := by
 intro fs
 induction fs with
 | nil => intro S S' r h; obtain ⟨rfl, rfl⟩ := ae h; exact ⟨rfl, rfl, fun D _ => by simp [Op.eqFields]⟩
 | cons fd fs ih =>
  intro S S' r h
  simp only [List.map_cons, eqF] at h
  cases hnm : (fJ C.P fd).nm with
  | false =>
   rw [hnm] at h
   obtain ⟨h1, h2, h3⟩ := ih h
   refine ⟨h1, h2, fun D hD => ?_⟩
   have : fd.name = "_" := by simpa [fJ] using hnm
   simp only [Op.eqFields, this, ne_eq, not_true_eq_false, if_false]
   exact h3 D hD
  | true =>
   rw [hnm] at h
   have hne : fd.name ≠ "_" := by simpa [fJ] using hnm
   obtain ⟨x, h1, h2⟩ := lb h
   obtain ⟨y, h3, h4⟩ := lb h2
   obtain ⟨q, S1, h5, h6⟩ := bP h4
   have ee : ∃ it, C.P.info? fd.type = some it := by
    cases hb : isBad (a6 C.P fd.type) with
    | true => simp [part, fJ, hb] at h1
    | false =>
     cases hit : C.P.info? fd.type with
     | some it => exact ⟨it, rfl⟩
     | none => simp [a6, Program.underlying, hit, isBad] at hb
   obtain ⟨it, hit⟩ := ee
   obtain ⟨vx, x1, x2⟩ := qH (w := w) hl h1 (i := it) hit (by simp [fJ, Program.cellsOf, hit]) rfl rfl
   obtain ⟨vy, y1, y2⟩ := qH (w := w) hm h3 (i := it) hit (by simp [fJ, Program.cellsOf, hit]) rfl rfl
   have x1 : (Go.part fd.type ⟨cs⟩ fd.offset).run C.P w = .ok vx w := x1
   have y1 : (Go.part fd.type ⟨ds⟩ fd.offset).run C.P w = .ok vy w := y1
   obtain ⟨q1, q2, q3⟩ := heq x2 y2 h5
   have q3 : ∀ D, d ≤ D → (Op.equalIn D fd.type vx vy).run C.P w = .ok q w := q3
   cases q with
   | true =>
    obtain ⟨r1, r2, r3⟩ := ih h6
    refine ⟨by rw [r1, q1], by rw [r2, q2], fun D hD => ?_⟩
    simp only [Op.eqFields, ne_eq, hne, not_false_eq_true, if_true, Sem.run_bind, x1, y1, q3 D hD, Result.andThen_ok, Bool.not_true, Bool.false_eq_true, if_false]
    exact r3 D hD
   | false =>
    obtain ⟨rfl, rfl⟩ := ae h6
    refine ⟨q1, q2, fun D hD => ?_⟩
    simp only [Op.eqFields, ne_eq, hne, not_false_eq_true, if_true, Sem.run_bind, x1, y1, q3 D hD, Result.andThen_ok, Bool.not_false, Sem.run_pure]
theorem eqI_ne {P : Program} {w : World} {t ta tc D : Nat} {xa xc : Value} {ms : Array (String × TypeId)} (hu : P.underlying t = some (.interface ms)) (h : ta ≠ tc) : (Op.equalIn (D + 1) t (.iface ta xa) (.iface tc xc)).run P w = .ok false w := by
 simp [Op.equalIn, run_underlying hu, h]
theorem eqI_eq {P : Program} {w : World} {t ta D : Nat} {xa xc : Value} {ms : Array (String × TypeId)} {i : TypeInfo} (hu : P.underlying t = some (.interface ms)) (hi : P.info? ta = some i) (hc : i.comparable = true) : (Op.equalIn (D + 1) t (.iface ta xa) (.iface ta xc)).run P w = (Op.equalIn D ta xa xc).run P w := by
 simp [Op.equalIn, run_underlying hu, dh hi, hc]
set_option maxHeartbeats 1000000 in
theorem eqT_ok (ht : TyOk C.P tb) (hh : HypOk C tb) : ∀ (d : Nat) {S S' : St} {t : Nat} {x y : AV} {vx vy : Value} {r : Bool}, Rel C ρ x vx → Rel C ρ y vy → eU tb d t x y S = some (r, S') → BF C w d S S' t vx vy r := by
 intro d
 induction d with
 | zero => intro S S' t x y vx vy r hx hy h; exact (ar h).elim
 | succ d ih =>
  intro S S' t x y vx vy r hx hy h
  simp only [eU] at h
  obtain ⟨ti, e1, h1⟩ := lb h
  obtain ⟨i, hi, rfl⟩ := ht.ty _ _ e1
  rw [cF] at h1
  have hyp : ∀ {S S' : St} {x y : AV} {r : Bool}, Rel C ρ x vx → Rel C ρ y vy → eS tb (.eq t x y) S = some (r, S') → BF C w (d + 1) S S' t vx vy r := by
   intro S S' x y r hx hy h
   obtain ⟨⟨b, hb, hrun⟩, rfl⟩ := hypB_inv hh h
   injection hb with hb; subst hb
   exact ⟨rfl, rfl, fun D hD => hrun ρ vx vy hx hy D w (by omega)⟩
  have done : ∀ {S' : St} {r : Bool}, S' = S → (∀ D, (Op.equalIn (D + 1) t vx vy).run C.P w = .ok r w) → BF C w (d + 1) S S' t vx vy r := by
   intro S' r e hrun
   subst e
   refine ⟨rfl, rfl, fun D hD => ?_⟩
   obtain ⟨D, rfl⟩ : ∃ D', D = D' + 1 := ⟨D - 1, by omega⟩
   exact hrun D
  cases hk : a6 C.P t <;> rw [hk] at h1
  case other => cases x <;> cases y <;> exact (ar h1).elim
  case bad => cases x <;> cases y <;> exact (ar h1).elim
  case lq => cases x <;> cases y <;> exact (ar h1).elim
  case arr => cases x <;> cases y <;> exact (ar h1).elim
  case map => cases x <;> cases y <;> exact (ar h1).elim
  case bool =>
   have hu := aN6 hk
   cases x <;> cases y <;> try exact (ar h1).elim
   obtain ⟨rfl, rfl⟩ := ae h1
   simp only [Rel] at hx hy; subst hx; subst hy
   exact done rfl fun D => by simp [Op.equalIn, run_underlying hu]
  case int k =>
   have hu := qe hk
   cases x <;> cases y <;> first
    | exact (ar h1).elim
    | exact hyp hx hy h1
    | (obtain ⟨hke, h2⟩ := bK h1
       obtain ⟨rfl, rfl⟩ := ae h2
       have := C6 hke
       subst this
       simp only [Rel] at hx hy; subst hx; subst hy
       exact done rfl fun D => by rw [run_equalIn_int w D t _ k _ _ hu, lD]; congr 1)
  case str =>
   have hu := kv hk
   cases x <;> cases y <;> first
    | exact (ar h1).elim
    | exact hyp hx hy h1
    | (obtain ⟨rfl, rfl⟩ := ae h1
       simp only [Rel] at hx hy; obtain ⟨rfl, hx2⟩ := hx; obtain ⟨rfl, hy2⟩ := hy
       exact done rfl fun D => by rw [run_equalIn_string w D t _ _ hu, strEq hx2 hy2])
  case ptr e =>
   have hu := qd hk
   cases x <;> cases y <;> first
    | exact (ar h1).elim
    | (obtain ⟨rfl, rfl⟩ := ae h1
       simp only [Rel] at hx hy
       first
        | (subst hx; subst hy; exact done rfl fun D => by simp [Op.equalIn, run_underlying hu]; done)
        | (subst hx; obtain ⟨r, _, rfl⟩ := hy; exact done rfl fun D => by simp [Op.equalIn, run_underlying hu]; done)
        | (subst hy; obtain ⟨r, _, rfl⟩ := hx; exact done rfl fun D => by simp [Op.equalIn, run_underlying hu]; done))
    | (obtain ⟨te, e2, h2⟩ := lb h1
       obtain ⟨ie, hie, rfl⟩ := ht.ty _ _ e2
       obtain ⟨hsz, h3⟩ := cond_inv' h2
       obtain ⟨rfl, rfl⟩ := ae h3
       simp only [Rel] at hx hy
       subst hx; subst hy
       have hsz' : ie.size ≠ 0 := gN hsz
       exact done rfl fun D => by
        simp [Op.equalIn, run_underlying hu, bp hie, hsz', typeHandle, sameAddr]
        rw [Bool.eq_iff_iff]; simp [Nat.beq_eq, beq_iff_eq])
    | (obtain ⟨te, e2, h2⟩ := lb h1
       obtain ⟨ie, hie, rfl⟩ := ht.ty _ _ e2
       obtain ⟨hsz, h3⟩ := cond_inv' h2
       simp only [Rel] at hx hy
       obtain ⟨ra, hra, rfl⟩ := hx
       obtain ⟨rc, hrc, rfl⟩ := hy
       obtain ⟨rfl, hrun⟩ := ptrEq_ok (C := C) (w := w) hra hrc h3
       have hsz' : ie.size ≠ 0 := gN hsz
       exact done rfl fun D => by simp [Op.equalIn, run_underlying hu, bp hie, hsz', hrun])
  case slice e =>
   have hu := dq hk
   have hsl : ∀ {b o n c : Nat} {q : Bool} {v : Value}, Rel C ρ (.sl b o n c q) v → ∃ a n c, v = .slice (some a) n c := by
    intro b o n c q v hv
    cases q <;> simp only [Rel] at hv
    ·obtain ⟨r, _, _, rfl⟩ := hv; exact ⟨_, _, _, rfl⟩
    ·obtain ⟨r, a, _, _, rfl, _⟩ := hv; exact ⟨_, _, _, rfl⟩
   cases x <;> cases y <;> first
    | exact (ar h1).elim
    | (obtain ⟨rfl, rfl⟩ := ae h1
       first
        | (simp only [Rel] at hx hy; subst hx; subst hy; exact done rfl fun D => by simp [Op.equalIn, run_underlying hu]; done)
        | (obtain ⟨a, n, c, rfl⟩ := hsl hx; simp only [Rel] at hy; subst hy; exact done rfl fun D => by simp [Op.equalIn, run_underlying hu]; done)
        | (obtain ⟨a, n, c, rfl⟩ := hsl hy; simp only [Rel] at hx; subst hx; exact done rfl fun D => by simp [Op.equalIn, run_underlying hu]; done)
        | (simp only [Rel] at hx hy; obtain ⟨r, _, _, rfl⟩ := hx; subst hy; exact done rfl fun D => by simp [Op.equalIn, run_underlying hu]; done))
  case func =>
   obtain ⟨a, b, c, hu⟩ := kOf_func hk
   cases x <;> cases y <;> first
    | exact (ar h1).elim
    | (obtain ⟨rfl, rfl⟩ := ae h1
       simp only [Rel] at hx hy
       first
        | (subst hx; subst hy; exact done rfl fun D => by simp [Op.equalIn, run_underlying hu]; done)
        | (subst hx; obtain ⟨p, q, rfl, _⟩ := hy; exact done rfl fun D => by simp [Op.equalIn, run_underlying hu]; done)
        | (subst hy; obtain ⟨p, q, rfl, _⟩ := hx; exact done rfl fun D => by simp [Op.equalIn, run_underlying hu]; done))
  case iface b =>
   obtain ⟨ms, hu⟩ := aH2 hk
   cases x <;> cases y <;> first
    | exact (ar h1).elim
    | (obtain ⟨rfl, rfl⟩ := ae h1
       simp only [Rel] at hx hy
       first
        | (subst hx; obtain ⟨p, rfl, _⟩ := hy; exact done rfl fun D => by simp [Op.equalIn, run_underlying hu]; done)
        | (subst hy; obtain ⟨p, rfl, _⟩ := hx; exact done rfl fun D => by simp [Op.equalIn, run_underlying hu]; done))
    | (rename_i ta va tc vc
       simp only [Rel] at hx hy
       obtain ⟨xa, rfl, hxa⟩ := hx
       obtain ⟨xc, rfl, hxc⟩ := hy
       change (cond (Nat.beq ta tc) (bnd (aK (tb.ty.get ta)) fun tA => cond tA.cmp (eU tb d ta va vc) fail) (ret false)) S = some (r, S') at h1
       cases hac : Nat.beq ta tc with
       | false =>
        rw [hac] at h1
        obtain ⟨rfl, rfl⟩ := ae h1
        have := gN hac
        exact done rfl fun D => eqI_ne hu this
       | true =>
        rw [hac] at h1
        have e := cH hac
        subst e
        obtain ⟨te, e2, h2⟩ := lb h1
        obtain ⟨ie, hie, rfl⟩ := ht.ty _ _ e2
        obtain ⟨hcmp, h3⟩ := bK h2
        obtain ⟨q1, q2, q3⟩ := ih hxa hxc h3
        refine ⟨q1, q2, fun D hD => ?_⟩
        obtain ⟨D, rfl⟩ : ∃ D', D = D' + 1 := ⟨D - 1, by omega⟩
        have hcmp : ie.comparable = true := hcmp
        rw [eqI_eq hu hie hcmp]; exact q3 D (by omega))
  case struct =>
   obtain ⟨fs, hu, hfl, hfo, hin⟩ := aD8 hk
   cases x <;> cases y <;> try exact (ar h1).elim
   simp only [Rel] at hx hy
   obtain ⟨cs, rfl, hl⟩ := hx
   obtain ⟨ds, rfl, hm⟩ := hy
   obtain ⟨hes, h2⟩ := bK h1
   have hes : rE C.P t = true := hes
   have hso : C.P.stoodInHeld t = false := by
    simp only [rE, hk, Bool.and_eq_true, Bool.not_eq_true'] at hes; exact hes.1
   have h2 : eqF (eU tb d) _ _ ((fN C.P t).map (fJ C.P)) S = some (r, S') := h2
   rw [hfl] at h2
   obtain ⟨q1, q2, q3⟩ := eqF_ok ht (d := d) (fun hx hy h => ih hx hy h) hl hm fs.toList h2
   refine ⟨q1, q2, fun D hD => ?_⟩
   obtain ⟨D, rfl⟩ : ∃ D', D = D' + 1 := ⟨D - 1, by omega⟩
   rw [run_equalIn_struct w D t _ _ (by rw [hfo]; exact hu) hso, hfo]
   exact q3 D (by omega)
end
end Go.AX
end
