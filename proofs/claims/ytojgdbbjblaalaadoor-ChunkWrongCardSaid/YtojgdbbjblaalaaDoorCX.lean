/- A part of the proof: an interpreter of the model's own code on partly known states, and that what it answers is what the program answers. No condition of its own. -/
import Derived.Test.YtojgdbbjblaalaaDoorFX
set_option linter.unusedVariables false
set_option linter.unusedSimpArgs false
namespace Go.AX
noncomputable section
/- a twin by continuations: quick in the kernel; what it says true the interpreter answers -/
def CM (α : Type) := (α → St → Bool) → St → Bool
def retC {α : Type} (a : α) (k : α → St → Bool) (S : St) : Bool := k a S
def failC {α : Type} (k : α → St → Bool) (S : St) : Bool := false
def bndC {α β : Type} (m : CM α) (f : α → CM β) (k : β → St → Bool) (S : St) : Bool := m (fun a => f a k) S
def lftC {α : Type} (o : Option α) (k : α → St → Bool) (S : St) : Bool := Option.rec (motive := fun _ => Bool) false (fun a => k a S) o
def embC {α : Type} (m : M α) (k : α → St → Bool) (S : St) : Bool := Option.rec (motive := fun _ => Bool) false (fun p => Prod.rec (motive := fun _ => Bool) k p) (m S)
def ifC {α : Type} (b : Bool) (x y : CM α) (k : α → St → Bool) (S : St) : Bool := Bool.rec (motive := fun _ => Bool) (y k S) (x k S) b
def rdC (v : Nat) (k : Blk → St → Bool) (S : St) : Bool := St.rec (motive := fun _ => Bool) (fun heap next acc wr => Option.rec (motive := fun _ => Bool) false (fun b => k b ⟨heap, next, Nat.lor acc (bit v), wr⟩) (T.get heap v)) S
def Sim {α : Type} (mC : CM α) (m : M α) : Prop := ∀ k S, mC k S = true → ∃ a S', m S = some (a, S') ∧ k a S' = true
theorem Sim.ret {α : Type} (a : α) : Sim (retC a) (ret a) := fun k S h => ⟨a, S, rfl, h⟩
theorem Sim.fail {α : Type} : Sim (failC : CM α) fail := fun k S h => by cases h
theorem Sim.bnd {α β : Type} {mC : CM α} {m : M α} {fC : α → CM β} {f : α → M β} (hm : Sim mC m) (hf : ∀ a, Sim (fC a) (f a)) : Sim (bndC mC fC) (bnd m f) := fun k S h => by
  obtain ⟨a, S1, h1, h2⟩ := hm _ _ h
  obtain ⟨b, S2, h3, h4⟩ := hf a _ _ h2
  exact ⟨b, S2, by unfold AX.bnd; rw [h1]; exact h3, h4⟩
theorem Sim.lft {α : Type} (o : Option α) : Sim (lftC o) (lft o) := fun k S h => by
  cases o with
  | none => cases h
  | some a => exact ⟨a, S, rfl, h⟩
theorem Sim.emb {α : Type} (m : M α) : Sim (embC m) m := fun k S h => by
  unfold embC at h
  cases hm : m S with
  | none => rw [hm] at h; cases h
  | some p => obtain ⟨a, S'⟩ := p; rw [hm] at h; exact ⟨a, S', rfl, h⟩
theorem Sim.embD {α : Type} {mC : CM α} {m : M α} (h : mC = embC m) : Sim mC m := h ▸ Sim.emb m
theorem Sim.cond {α : Type} {b : Bool} {x y : CM α} {x' y' : M α} (hx : Sim x x') (hy : Sim y y') : Sim (ifC b x y) (_root_.cond b x' y') := by
  cases b
  · exact hy
  · exact hx
theorem Sim.rd (v : Nat) : Sim (rdC v) (rd v) := fun k S h => by
  obtain ⟨heap, next, acc, wr⟩ := S
  unfold rdC at h
  unfold AX.rd
  simp only [] at h ⊢
  cases hg : heap.get v with
  | none => rw [hg] at h; cases h
  | some b => rw [hg] at h; exact ⟨b, _, rfl, h⟩
theorem Sim.of_eq {α : Type} {mC : CM α} {m m' : M α} (h : Sim mC m) (e : m = m') : Sim mC m' := e ▸ h
/- operations -/
def kn : IntKind → Nat
  | .i8 => 0
  | .i16 => 1
  | .i32 => 2
  | .i64 => 3
  | .u8 => 4
  | .u16 => 5
  | .u32 => 6
  | .u64 => 7
theorem kn_eq (k l : IntKind) : Nat.beq (kn k) (kn l) = kEq k l := by cases k <;> cases l <;> rfl
def kC (k l : IntKind) (v : AV) : CM AV := ifC (Nat.beq (kn k) (kn l)) (retC v) failC
theorem Sim.kC {k l : IntKind} {v : AV} {m : M AV} (h : m = _root_.cond (kEq k l) (AX.ret v) AX.fail) : Sim (kC k l v) m := by
  subst h
  rw [← kn_eq]
  exact Sim.cond (Sim.ret _) Sim.fail
def binShC (o : BinOp) (k l : IntKind) (a c : Int) : CM AV := match o with
  | .add => kC k l (mkI k (a + c))
  | .sub => kC k l (mkI k (a - c))
  | .lss => kC k l (.b (ilt a c))
  | .leq => kC k l (.b (ile a c))
  | .gtr => kC k l (.b (ilt c a))
  | .geq => kC k l (.b (ile c a))
  | .eql => kC k l (.b (ieq a c))
  | .neq => kC k l (.b (!(ieq a c)))
  | o => embC (binSh o k l a c)
theorem Sim.binSh (o : BinOp) (k l : IntKind) (a c : Int) : Sim (binShC o k l a c) (AX.binSh o k l a c) := by
  cases o <;> first | exact Sim.emb _ | exact Sim.kC rfl
def binI1C (tb : Tab) (o : BinOp) (t : Nat) (cx : Bool) (k : IntKind) (a : Int) (y : AV) : CM AV := match y with
  | .i l c => binShC o k l a c
  | y => embC (binH tb o t cx (.i k a) y)
def binFC (tb : Tab) (o : BinOp) (t : Nat) (cx : Bool) (x y : AV) : CM AV := match x with
  | .i k a => binI1C tb o t cx k a y
  | x => embC (binF tb o t cx x y)
theorem Sim.binF (tb : Tab) (o : BinOp) (t : Nat) (cx : Bool) (x y : AV) : Sim (binFC tb o t cx x y) (bin tb o t cx x y) := by
  rw [← binF_eq]
  cases x with
  | i k a => cases y <;> first | exact Sim.binSh _ _ _ _ _ | exact Sim.emb _
  | _ => exact Sim.emb _
def pickC (p q : AV) (v : AV) : CM AV := match v with
  | .b b => retC (Bool.rec (motive := fun _ => AV) q p b)
  | _ => failC
theorem Sim.pick (p q v : AV) : Sim (pickC p q v) (pickB p q v) := by
  cases v with
  | b x => cases x <;> exact Sim.ret _
  | _ => exact Sim.fail
def newC (b : Blk) (k : Nat → St → Bool) (S : St) : Bool := St.rec (motive := fun _ => Bool) (fun heap next acc wr => Bool.rec (motive := fun _ => Bool) false (k next ⟨heap.set next b, Nat.succ next, Nat.lor acc (bit next), Nat.lor wr (bit next)⟩) (Nat.ble next 16777213)) S
theorem Sim.new (b : Blk) : Sim (newC b) (AX.new b) := fun k S h => by
  obtain ⟨heap, next, acc, wr⟩ := S
  unfold newC at h
  unfold AX.new
  simp only [] at h ⊢
  cases hg : Nat.ble next 16777213 with
  | false => rw [hg] at h; cases h
  | true => rw [hg] at h; exact ⟨_, _, rfl, h⟩
def allocK (e : Nat) (zs : Bool) (zc : Cells) (z : Option AV) : CM AV := fun k S => Option.rec (motive := fun _ => Bool) false (fun _ => ifC zs (bndC (newC (mkBlk e zc)) fun v => retC (.p v 0)) failC k S) z
def allocC (tb : Tab) (e : Nat) : CM AV := bndC (lftC (tb.ty.get e)) fun ti => allocK e ti.zs ti.zc ti.zero
theorem Sim.alloc (tb : Tab) (e : Nat) : Sim (allocC tb e) (xAlloc tb e) := by
  refine Sim.bnd (Sim.lft _) fun ti => ?_
  cases h : ti.zero with
  | none => exact fun k S h => by cases h
  | some z => exact Sim.cond (Sim.bnd (Sim.new _) fun _ => Sim.ret _) Sim.fail
def loadC (tb : Tab) (t : Nat) (x : AV) : CM AV := match x with
  | .p v o => bndC (lftC (tb.ty.get t)) fun ti => bndC (rdC v) fun k => ifC (isAgg ti.k) (bndC (lftC (k.c.sub o ti.size)) fun c => retC (.ag c.toL)) (ifC (isBad ti.k) failC (lftC (k.c.get o)))
  | _ => failC
theorem Sim.load (tb : Tab) (t : Nat) (x : AV) : Sim (loadC tb t x) (AX.load tb t x) := by
  cases x with
  | p v o => exact Sim.bnd (Sim.lft _) fun ti => Sim.bnd (Sim.rd _) fun k => Sim.cond (Sim.bnd (Sim.lft _) fun c => Sim.ret _) (Sim.cond Sim.fail (Sim.lft _))
  | _ => exact Sim.fail
def updC (v : Nat) (b : Blk) (k : Unit → St → Bool) (S : St) : Bool := St.rec (motive := fun _ => Bool) (fun heap next acc wr => Bool.rec (motive := fun _ => Bool) false (k () ⟨heap.set v b, next, Nat.lor acc (bit v), Nat.lor wr (bit v)⟩) (Nat.blt v next && Nat.ble v 16777213)) S
theorem Sim.upd (v : Nat) (b : Blk) : Sim (updC v b) (AX.upd v b) := fun k S h => by
  obtain ⟨heap, next, acc, wr⟩ := S
  unfold updC at h
  unfold AX.upd
  simp only [] at h ⊢
  cases hg : (Nat.blt v next && Nat.ble v 16777213) with
  | false => rw [hg] at h; cases h
  | true => rw [hg] at h; exact ⟨_, _, rfl, h⟩
def storeOne (v o sz : Nat) (k : Blk) (y : AV) : CM Unit := ifC (scal y && Nat.beq sz 1) (bndC (lftC (k.c.set1 o y)) fun c => updC v { k with c }) failC
def storeY (v o sz : Nat) (k : Blk) (y : AV) : CM Unit := match y with
  | .ag l => ifC (Nat.beq l.length sz && Nat.ble (Nat.add o sz) k.c.len && l.all scal) (bndC (lftC (k.c.put o (.l l))) fun c => updC v { k with c }) failC
  | y => storeOne v o sz k y
def storeC (tb : Tab) (t : Nat) (x y : AV) : CM Unit := match x with
  | .p v o => bndC (lftC (tb.ty.get t)) fun ti => bndC (rdC v) fun k => ifC (Nat.ble k.fr o) (storeY v o ti.size k y) failC
  | _ => failC
theorem Sim.storeOne (v o sz : Nat) (k : Blk) (y : AV) : Sim (storeOne v o sz k y) (_root_.cond (scal y && Nat.beq sz 1) (AX.bnd (AX.lft (k.c.set1 o y)) fun c => AX.upd v { k with c }) AX.fail) := Sim.cond (Sim.bnd (Sim.lft _) fun c => Sim.upd _ _) Sim.fail
theorem Sim.storeAg (v o sz : Nat) (k : Blk) (l : List AV) : Sim (storeY v o sz k (.ag l)) (_root_.cond (Nat.beq l.length sz && Nat.ble (Nat.add o sz) k.c.len && l.all scal) (AX.bnd (AX.lft (k.c.put o (.l l))) fun c => AX.upd v { k with c }) AX.fail) := Sim.cond (Sim.bnd (Sim.lft _) fun c => Sim.upd _ _) Sim.fail
theorem Sim.store (tb : Tab) (t : Nat) (x y : AV) : Sim (storeC tb t x y) (AX.store tb t x y) := by
  cases x with
  | p v o =>
    refine Sim.bnd (Sim.lft _) fun ti => Sim.bnd (Sim.rd _) fun k => Sim.cond ?_ Sim.fail
    cases y <;> first | exact Sim.storeAg _ _ _ _ _ | exact Sim.storeOne _ _ _ _ _
  | _ => exact Sim.fail
def fieldK (fl : Fl) (x : AV) : CM AV := match x with
  | .ag l => lftC (part l fl)
  | _ => failC
def fieldC (tb : Tab) (t i : Nat) (x : AV) : CM AV := bndC (lftC (tb.ty.get t)) fun ti => bndC (lftC (fget ti.fs i)) fun fl => fieldK fl x
def fieldAddrK (fl : Fl) (x : AV) : CM AV := match x with
  | .p v o => ifC (Nat.beq fl.sz 0) failC (retC (.p v (Nat.add o fl.off)))
  | _ => failC
def fieldAddrC (tb : Tab) (t i : Nat) (x : AV) : CM AV := bndC (lftC (tb.ty.get t)) fun ti => bndC (lftC (fget ti.fs i)) fun fl => fieldAddrK fl x
theorem Sim.field (tb : Tab) (f : Operand → AV) (t i : Nat) (x : Operand) : Sim (fieldC tb t i (f x)) (xField tb f t x i) := by
  refine Sim.bnd (Sim.lft _) fun ti => Sim.bnd (Sim.lft _) fun fl => ?_
  generalize f x = y
  cases y <;> first | exact Sim.lft _ | exact Sim.fail
theorem Sim.fieldAddr (tb : Tab) (f : Operand → AV) (t i : Nat) (x : Operand) : Sim (fieldAddrC tb t i (f x)) (xFieldAddr tb f t x i) := by
  refine Sim.bnd (Sim.lft _) fun ti => Sim.bnd (Sim.lft _) fun fl => ?_
  generalize f x = y
  cases y <;> first | exact Sim.cond Sim.fail (Sim.ret _) | exact Sim.fail
def idxSl (tb : Tab) (e : Nat) (x : AV) (i : Nat) : CM AV := match x with
  | .sl v o n _ _ => ifC (Nat.blt i n) (bndC (lftC (tb.ty.get e)) fun te => retC (.p v (Nat.add o (Nat.mul i te.size)))) failC
  | _ => failC
def idxAC (tb : Tab) (k : K) (x : AV) (i : Nat) : CM AV := match k with
  | .slice e => idxSl tb e x i
  | k => embC (idxA tb k x i)
def indexAddrC (tb : Tab) (t : Nat) (x y : AV) : CM AV := bndC (lftC (tb.ty.get t)) fun ti => bndC (lftC (asN y)) fun i => idxAC tb ti.k x i
theorem Sim.indexAddr (tb : Tab) (f : Operand → AV) (t : Nat) (x ix : Operand) : Sim (indexAddrC tb t (f x) (f ix)) (xIndexAddr tb f t x ix) := by
  refine Sim.bnd (Sim.lft _) fun ti => Sim.bnd (Sim.lft _) fun i => ?_
  generalize f x = y
  generalize ti.k = q
  cases q with
  | slice e => cases y <;> first | exact Sim.cond (Sim.bnd (Sim.lft _) fun _ => Sim.ret _) Sim.fail | exact Sim.fail
  | arr n e => exact Sim.emb (idxA tb (.arr n e) y i)
  | bool => exact Sim.emb (idxA tb .bool y i)
  | int k => exact Sim.emb (idxA tb (.int k) y i)
  | str => exact Sim.emb (idxA tb .str y i)
  | struct => exact Sim.emb (idxA tb .struct y i)
  | ptr e => exact Sim.emb (idxA tb (.ptr e) y i)
  | iface e => exact Sim.emb (idxA tb (.iface e) y i)
  | uptr => exact Sim.emb (idxA tb .uptr y i)
  | func => exact Sim.emb (idxA tb .func y i)
  | other => exact Sim.emb (idxA tb .other y i)
  | bad => exact Sim.emb (idxA tb .bad y i)
def idxSC (n k : Nat) (i : Nat) : CM AV := ifC (Nat.blt i k) (retC (.i .u8 (.ofNat (byteAt n i)))) failC
def idxStr (tb : Tab) (x y : AV) : CM AV := match x with
  | .s k n => bndC (lftC (asN y)) fun i => idxSC n k i
  | x => embC (idxS tb x y)
def idxKC (tb : Tab) (k : K) (x y : AV) : CM AV := match k with
  | .str => idxStr tb x y
  | k => embC (idxK tb k x y)
def indexC (tb : Tab) (t : Nat) (x y : AV) : CM AV := bndC (lftC (tb.ty.get t)) fun ti => idxKC tb ti.k x y
theorem Sim.index (tb : Tab) (f : Operand → AV) (t : Nat) (x ix : Operand) : Sim (indexC tb t (f x) (f ix)) (xIndex tb f t x ix) := by
  refine Sim.bnd (Sim.lft _) fun ti => ?_
  generalize f x = y
  generalize f ix = z
  generalize ti.k = q
  have hs : ∀ y, Sim (idxStr tb y z) (idxS tb y z) := fun y => by
    cases y with
    | s k n =>
      have h : Sim (bndC (lftC (asN z)) fun i => idxSC n k i) (AX.bnd (AX.lft (asN z)) fun i => _root_.cond (Nat.blt i k) (AX.ret (.i .u8 (.ofNat (byteAt n i)))) AX.fail) := Sim.bnd (Sim.lft _) fun i => Sim.cond (Sim.ret _) Sim.fail
      refine Sim.of_eq (mC := idxStr tb (.s k n) z) h ?_
      unfold idxS
      cases asN z <;> rfl
    | _ => exact Sim.embD rfl
  cases q with
  | str => exact hs y
  | arr n e => exact Sim.emb (idxK tb (.arr n e) y z)
  | bool => exact Sim.emb (idxK tb .bool y z)
  | int k => exact Sim.emb (idxK tb (.int k) y z)
  | slice e => exact Sim.emb (idxK tb (.slice e) y z)
  | struct => exact Sim.emb (idxK tb .struct y z)
  | ptr e => exact Sim.emb (idxK tb (.ptr e) y z)
  | iface e => exact Sim.emb (idxK tb (.iface e) y z)
  | uptr => exact Sim.emb (idxK tb .uptr y z)
  | func => exact Sim.emb (idxK tb .func y z)
  | other => exact Sim.emb (idxK tb .other y z)
  | bad => exact Sim.emb (idxK tb .bad y z)
def extractC (x : AV) (k : Nat) : CM AV := match x with
  | .tu l => lftC (lget l k)
  | _ => failC
theorem Sim.extract (f : Operand → AV) (x : Operand) (k : Nat) : Sim (extractC (f x) k) (xExtract f x k) := by
  unfold xExtract
  generalize f x = y
  cases y <;> first | exact Sim.lft _ | exact Sim.fail
def nilC (x : AV) : CM AV := match x with
  | .p v o => retC (.p v o)
  | .h t => retC (.h t)
  | .ifc t v => retC (.ifc t v)
  | .fn g a c => retC (.fn g a c)
  | _ => failC
theorem Sim.nil (f : Operand → AV) (x : Operand) : Sim (nilC (f x)) (xNil f x) := by
  unfold xNil
  generalize f x = y
  cases y <;> first | exact Sim.ret _ | exact Sim.fail
def convI (k : K) (n : Int) (m : M AV) : CM AV := match k with
  | .int q => retC (mkI q n)
  | _ => embC m
def convC (tb : Tab) (src dst : Nat) (x : AV) (m : M AV) : CM AV := match x with
  | .i _ n => bndC (lftC (tb.ty.get src)) fun ts => bndC (lftC (tb.ty.get dst)) fun td => ifC (isBad ts.k) failC (convI td.k n m)
  | _ => embC m
theorem Sim.conv (tb : Tab) (f : Operand → AV) (src dst : Nat) (x : Operand) : Sim (convC tb src dst (f x) (simple tb f (.convert src dst x))) (simple tb f (.convert src dst x)) := by
  generalize hm : simple tb f (.convert src dst x) = m
  generalize hx : f x = y
  cases y <;> first | exact Sim.emb _ | skip
  rename_i q n
  intro k S h
  obtain ⟨ts, S1, h1, h2⟩ := Sim.lft _ _ _ h
  obtain ⟨h3, rfl⟩ := lft_inv h1
  obtain ⟨td, S2, h4, h5⟩ := Sim.lft _ _ _ h2
  obtain ⟨h6, rfl⟩ := lft_inv h4
  have h5 : ifC (isBad ts.k) failC (convI td.k n m) k S2 = true := h5
  cases hb : isBad ts.k with
  | true => rw [hb] at h5; cases h5
  | false =>
    rw [hb] at h5
    have h5 : convI td.k n m k S2 = true := h5
    cases hk : td.k with
    | int q' =>
      rw [hk] at h5
      refine ⟨_, _, ?_, h5⟩
      rw [← hm]
      simp only [AX.simple, AX.bnd, AX.lft, h3, h6, hb, hk, hx, cond_false]
      first | done | rfl
    | _ => rw [hk] at h5; exact Sim.emb m k S2 h5
def mkIfK (k : K) (t : Nat) (x : AV) : CM AV := match k with
  | .iface _ => failC
  | .bad => failC
  | _ => retC (.ifc t x)
def mkIfC (tb : Tab) (t : Nat) (x : AV) : CM AV := bndC (lftC (tb.ty.get t)) fun ti => mkIfK ti.k t x
theorem Sim.mkIf (tb : Tab) (f : Operand → AV) (t : Nat) (x : Operand) : Sim (mkIfC tb t (f x)) (simple tb f (.makeInterface t x)) := by
  refine Sim.bnd (Sim.lft _) fun ti => ?_
  cases ti.k <;> first | exact Sim.fail | exact Sim.ret _
def simpleC (tb : Tab) (f : Operand → AV) (o : Op) : CM AV := match o with
  | .move x => retC (f x)
  | .assign x => retC (f x)
  | .pick c a d => pickC (f a) (f d) (f c)
  | .alloc e => allocC tb e
  | .load t a => loadC tb t (f a)
  | .store t a x => bndC (storeC tb t (f a) (f x)) fun _ => retC .und
  | .nilCheck x => nilC (f x)
  | .binOp o t x y _ => binFC tb o t (isC x || isC y) (f x) (f y)
  | .convert src dst x => convC tb src dst (f x) (simple tb f (.convert src dst x))
  | .makeInterface t x => mkIfC tb t (f x)
  | .fieldAddr t x i => fieldAddrC tb t i (f x)
  | .field t x i => fieldC tb t i (f x)
  | .indexAddr t x ix => indexAddrC tb t (f x) (f ix)
  | .index t x ix => indexC tb t (f x) (f ix)
  | .extract x k => extractC (f x) k
  | o => embC (simple tb f o)
theorem Sim.simple (tb : Tab) (f : Operand → AV) (o : Op) : Sim (simpleC tb f o) (AX.simple tb f o) := by
  cases o with
  | move x => exact Sim.ret _
  | assign x => exact Sim.ret _
  | pick c a d => rw [← simpleF_eq]; exact Sim.pick _ _ _
  | alloc e => exact Sim.alloc tb e
  | load t a => exact Sim.load _ _ _
  | store t a x => exact Sim.bnd (Sim.store _ _ _ _) fun _ => Sim.ret _
  | nilCheck x => exact Sim.nil f x
  | binOp o t x y u => exact Sim.binF _ _ _ _ _ _
  | convert src dst x => exact Sim.conv tb f src dst x
  | makeInterface t x => exact Sim.mkIf tb f t x
  | fieldAddr t x i => exact Sim.fieldAddr tb f t i x
  | field t x i => exact Sim.field tb f t i x
  | indexAddr t x ix => rw [← simpleF_eq]; exact Sim.indexAddr tb f t x ix
  | index t x ix => rw [← simpleF_eq]; exact Sim.index tb f t x ix
  | extract x k => exact Sim.extract f x k
  | _ => exact Sim.embD rfl
structure FsC where
  code : Code → Env → (Ex → Env → St → Bool) → St → Bool
  opsT : List Oper → List Oper → Env → (Env → St → Bool) → St → Bool
  opsD : List Oper → List Oper → Nat → Env → List Rec → (Env → List Rec → St → Bool) → St → Bool
  oper : Oper → Env → (AV → St → Bool) → St → Bool
  call : Nat → List AV → (AV → St → Bool) → St → Bool
structure SimF (tb : Tab) (f : Nat) (R : FsC) : Prop where
  code : ∀ c E k S, R.code c E k S = true → ∃ ex E' S', AX.code tb f c E S = some ((ex, E'), S') ∧ k ex E' S' = true
  opsT : ∀ all r E k S, R.opsT all r E k S = true → ∃ E' S', AX.opsT tb f all r E S = some (E', S') ∧ k E' S' = true
  opsD : ∀ all r n E l k S, R.opsD all r n E l k S = true → ∃ E' l' S', AX.opsD tb f all r n E l S = some ((E', l'), S') ∧ k E' l' S' = true
  oper : ∀ o E, Sim (R.oper o E) (AX.oper tb f o E)
  call : ∀ g l, Sim (R.call g l) (AX.call tb f g l)
def C0 : FsC := ⟨fun _ _ _ _ => false, fun _ _ _ _ _ => false, fun _ _ _ _ _ _ _ => false, fun _ _ _ _ => false, fun _ _ _ _ => false⟩
def seqC (R : FsC) (b : Code) (k : Ex → Env → St → Bool) (ex : Ex) (E : Env) (S : St) : Bool := match ex with
  | .normal => R.code b E k S
  | ex => k ex E S
def condC (R : FsC) (x y : Code) (E : Env) (v : AV) (k : Ex → Env → St → Bool) (S : St) : Bool := match v with
  | .b b => Bool.rec (motive := fun _ => Bool) (R.code y E k S) (R.code x E k S) b
  | _ => false
def blockC (id : Nat) (k : Ex → Env → St → Bool) (ex : Ex) (E : Env) (S : St) : Bool := match ex with
  | .exit j => Bool.rec (motive := fun _ => Bool) (k (.exit j) E S) (k .normal E S) (Nat.beq j id)
  | ex => k ex E S
def regDC (R : FsC) (ops : List Oper) (E : Env) (k : Ex → Env → St → Bool) (S : St) : Bool :=
  R.opsD ops ops 0 E [] (fun E l S => Bool.rec (motive := fun _ => Bool) false (k .normal E S) (!(anyClash l) || orderOk (anc ops 0 .leaf) l)) S
def codeBC (tb : Tab) (R : FsC) (c : Code) (E : Env) (k : Ex → Env → St → Bool) (S : St) : Bool := match c with
    | .skip => k .normal E S
    | .label _ => k .normal E S
    | .seq a b => R.code a E (seqC R b k) S
    | .cond c x y => condC R x y E (op tb.ng E.tm c) k S
    | .block id body => R.code body E (blockC id k) S
    | .loop body => R.code body E (seqC R (.loop body) k) S
    | .exit id => k (.exit id) E S
    | .goto l => k (.goto l) E S
    | .ret => k .ret E S
    | .region _ ops draw => Bool.rec (motive := fun _ => Bool) (R.opsT ops.toList ops.toList E (k .normal) S) (regDC R ops.toList E k S) draw
    | _ => false
def putC (E : Env) (d : Option Tmp) (v : AV) (k : Env → St → Bool) (S : St) : Bool := Option.rec (motive := fun _ => Bool) (k E S) (fun d => Env.rec (motive := fun _ => Bool) (fun tm nt => Bool.rec (motive := fun _ => Bool) false (k ⟨tm.set d v, nt⟩ S) (Nat.blt d nt)) E) d
def runTC (R : FsC) (all : List Oper) (o : Oper) (r : List Oper) (E : Env) (k : Env → St → Bool) (S : St) : Bool :=
  R.oper o E (fun v => putC E o.dst v (fun E => R.opsT all r E k)) S
def skipTC (R : FsC) (all : List Oper) (o : Oper) (r : List Oper) (E : Env) (k : Env → St → Bool) (S : St) : Bool := putC E o.dst (.tu []) (fun E => R.opsT all r E k) S
def opsTBC (R : FsC) (all : List Oper) (l : List Oper) (E : Env) (k : Env → St → Bool) (S : St) : Bool :=
  List.rec (motive := fun _ => Bool) (k E S) (fun o r _ => Option.rec (motive := fun _ => Bool) (runTC R all o r E k S)
    (fun _ => Option.rec (motive := fun _ => Bool) false (fun w => Bool.rec (motive := fun _ => Bool) (skipTC R all o r E k S) (runTC R all o r E k S) w) (wanted all E o)) o.guard) l
def runDC (R : FsC) (all : List Oper) (o : Oper) (r : List Oper) (n : Nat) (E : Env) (l : List Rec) (k : Env → List Rec → St → Bool) (S : St) : Bool :=
  St.rec (motive := fun _ => Bool) (fun heap next acc wr => R.oper o E (fun v S' => St.rec (motive := fun _ => Bool) (fun heap' next' acc' wr' =>
    putC E o.dst v (fun E => R.opsD all r (Nat.succ n) E (Bool.rec (motive := fun _ => List Rec) (⟨n, acc', wr'⟩ :: l) l (Nat.beq acc' 0)) k) ⟨heap', next', Nat.lor acc acc', Nat.lor wr wr'⟩) S') ⟨heap, next, 0, 0⟩) S
def skipDC (R : FsC) (all : List Oper) (o : Oper) (r : List Oper) (n : Nat) (E : Env) (l : List Rec) (k : Env → List Rec → St → Bool) (S : St) : Bool := putC E o.dst (.tu []) (fun E => R.opsD all r (Nat.succ n) E l k) S
def opsDBC (R : FsC) (all : List Oper) (l : List Oper) (n : Nat) (E : Env) (recs : List Rec) (k : Env → List Rec → St → Bool) (S : St) : Bool :=
  List.rec (motive := fun _ => Bool) (k E recs S) (fun o r _ => Option.rec (motive := fun _ => Bool) (runDC R all o r n E recs k S)
    (fun _ => Option.rec (motive := fun _ => Bool) false (fun w => Bool.rec (motive := fun _ => Bool) (skipDC R all o r n E recs k S) (runDC R all o r n E recs k S) w) (wanted all E o)) o.guard) l
def callVC (R : FsC) (args : List AV) (v : AV) : CM AV := match v with
  | .fn g first cap => R.call g (first ++ args ++ cap)
  | _ => failC
def callIC (tb : Tab) (R : FsC) (m : String) (args : List AV) (v : AV) : CM AV := match v with
  | .ifc t v => bndC (lftC (methd tb.met t m)) fun g => bndC (lftC (recv g.2 v)) fun v => R.call g.1 (v :: args)
  | _ => failC
def callCC (tb : Tab) (R : FsC) (φ : Operand → AV) (c : Call) : CM AV := match c.callee with
  | .builtin b => embC (builtinF tb b c.argTypes.toList (c.args.toList.map φ))
  | .value g => callVC R (c.args.toList.map φ) (φ g)
  | .invoke r m => callIC tb R m (c.args.toList.map φ) (φ r)
def operBC (tb : Tab) (R : FsC) (o : Oper) (E : Env) : CM AV := match o.op with
  | .call c => callCC tb R (op tb.ng E.tm) c
  | x => simpleC tb (op tb.ng E.tm) x
def endC (tb : Tab) (res : List ResultVar) (k : AV → St → Bool) (ex : Ex) (E : Env) (S : St) : Bool := match ex with
  | .normal => embC (results tb res E) k S
  | .ret => embC (results tb res E) k S
  | _ => false
def bodyC (tb : Tab) (R : FsC) (fi : FI) (args : List AV) (k : AV → St → Bool) (S : St) : Bool := Option.rec (motive := fun _ => Bool) (embC (ext tb fi.ext args) k S)
  (fun c => Bool.rec (motive := fun _ => Bool) false (R.code c ⟨args0 args 0 .leaf, fi.ntmps⟩ (endC tb fi.res k) S) (Nat.ble args.length fi.ntmps && Nat.ble fi.ntmps 16777213)) fi.body
def sumC (tb : Tab) (R : FsC) (fi : FI) (args : List AV) (k : AV → St → Bool) (S : St) : Bool := Option.rec (motive := fun _ => Bool) (bodyC tb R fi args k S)
  (fun v => List.rec (motive := fun _ => Bool) (k v S) (fun _ _ _ => bodyC tb R fi args k S) args) fi.sum
def callBC (tb : Tab) (R : FsC) (g : Nat) (args : List AV) : CM AV := bndC (lftC (tb.fn.get g)) fun fi => sumC tb R fi args
def cstep (tb : Tab) (R : FsC) : FsC := ⟨codeBC tb R, opsTBC R, opsDBC R, operBC tb R, callBC tb R⟩
def cs (tb : Tab) (f : Nat) : FsC := Nat.rec (motive := fun _ => FsC) C0 (fun _ R => cstep tb R) f
theorem putC_inv {E : Env} {d : Option Tmp} {v : AV} {k : Env → St → Bool} {S : St} (h : putC E d v k S = true) : ∃ E', E.put d v = some E' ∧ k E' S = true := by
  cases d with
  | none => exact ⟨E, rfl, h⟩
  | some d =>
    obtain ⟨tm, nt⟩ := E
    unfold putC at h
    rw [Env.put_some]
    simp only [] at h ⊢
    cases hb : Nat.blt d nt with
    | false => rw [hb] at h; cases h
    | true => rw [hb] at h; exact ⟨_, rfl, h⟩
theorem bnd_of {α β : Type} {m : M α} {f : α → M β} {S S1 : St} {a : α} (h : m S = some (a, S1)) : bnd m f S = f a S1 := by unfold bnd; rw [h]
theorem simF (tb : Tab) : ∀ f, SimF tb f (cs tb f)
  | 0 => ⟨fun _ _ _ _ h => (by cases h), fun _ _ _ _ _ h => (by cases h), fun _ _ _ _ _ _ _ h => (by cases h), fun _ _ _ _ h => (by cases h), fun _ _ _ _ h => (by cases h)⟩
  | f + 1 => by
    have ih := simF tb f
    have hR : cs tb (f + 1) = cstep tb (cs tb f) := rfl
    rw [hR]
    generalize cs tb f = R at ih
    refine ⟨fun c E k S h => ?_, fun all r E k S h => ?_, fun all r n E l k S h => ?_, fun o E => ?_, fun g l => ?_⟩
    · have h : codeBC tb R c E k S = true := h
      have e : AX.code tb (f + 1) c E = codeB tb ⟨AX.code tb f, AX.opsT tb f, AX.opsD tb f, AX.oper tb f, AX.call tb f⟩ c E := by
        have := congrArg Fs.code (fs_eq tb (f + 1))
        have h2 : (fs tb (f + 1)).code = codeB tb (fs tb f) := rfl
        rw [h2, fs_eq tb f] at this
        exact (congrFun (congrFun this c) E).symm
      rw [e]
      generalize hF : (⟨AX.code tb f, AX.opsT tb f, AX.opsD tb f, AX.oper tb f, AX.call tb f⟩ : Fs) = F
      have hc : F.code = AX.code tb f := by rw [← hF]
      have hT : F.opsT = AX.opsT tb f := by rw [← hF]
      have hD : F.opsD = AX.opsD tb f := by rw [← hF]
      have ihc := ih.code
      rw [← hc] at ihc
      have ihT := ih.opsT
      rw [← hT] at ihT
      have ihD := ih.opsD
      rw [← hD] at ihD
      cases c with
      | skip => exact ⟨_, _, _, rfl, h⟩
      | label l => exact ⟨_, _, _, rfl, h⟩
      | exit id => exact ⟨_, _, _, rfl, h⟩
      | goto l => exact ⟨_, _, _, rfl, h⟩
      | ret => exact ⟨_, _, _, rfl, h⟩
      | seq a b =>
        obtain ⟨ex, E1, S1, h1, h2⟩ := ihc _ _ _ _ (show R.code a E (seqC R b k) S = true from h)
        have g : codeB tb F (.seq a b) E S = seqK F b (ex, E1) S1 := bnd_of h1
        cases ex with
        | normal =>
          obtain ⟨ex2, E2, S2, h3, h4⟩ := ihc _ _ _ _ (show R.code b E1 k S1 = true from h2)
          exact ⟨ex2, E2, S2, by rw [g]; exact h3, h4⟩
        | exit id => exact ⟨_, _, _, g, h2⟩
        | goto l => exact ⟨_, _, _, g, h2⟩
        | ret => exact ⟨_, _, _, g, h2⟩
      | loop a =>
        obtain ⟨ex, E1, S1, h1, h2⟩ := ihc _ _ _ _ (show R.code a E (seqC R (.loop a) k) S = true from h)
        have g : codeB tb F (.loop a) E S = seqK F (.loop a) (ex, E1) S1 := bnd_of h1
        cases ex with
        | normal =>
          obtain ⟨ex2, E2, S2, h3, h4⟩ := ihc _ _ _ _ (show R.code (.loop a) E1 k S1 = true from h2)
          exact ⟨ex2, E2, S2, by rw [g]; exact h3, h4⟩
        | exit id => exact ⟨_, _, _, g, h2⟩
        | goto l => exact ⟨_, _, _, g, h2⟩
        | ret => exact ⟨_, _, _, g, h2⟩
      | block id a =>
        obtain ⟨ex, E1, S1, h1, h2⟩ := ihc _ _ _ _ (show R.code a E (blockC id k) S = true from h)
        have g : codeB tb F (.block id a) E S = blockK id (ex, E1) S1 := bnd_of h1
        cases ex with
        | exit j =>
          have h2 : Bool.rec (motive := fun _ => Bool) (k (.exit j) E1 S1) (k .normal E1 S1) (Nat.beq j id) = true := h2
          have g2 : blockK id (.exit j, E1) S1 = (_root_.cond (Nat.beq j id) (AX.ret (Ex.normal, E1)) (AX.ret (Ex.exit j, E1))) S1 := rfl
          cases hj : Nat.beq j id with
          | true => rw [hj] at h2 g2; exact ⟨_, _, _, g.trans g2, h2⟩
          | false => rw [hj] at h2 g2; exact ⟨_, _, _, g.trans g2, h2⟩
        | normal => exact ⟨_, _, _, g, h2⟩
        | goto l => exact ⟨_, _, _, g, h2⟩
        | ret => exact ⟨_, _, _, g, h2⟩
      | cond c x y =>
        have h : condC R x y E (op tb.ng E.tm c) k S = true := h
        show ∃ ex E' S', condK F x y E (op tb.ng E.tm c) S = some ((ex, E'), S') ∧ k ex E' S' = true
        cases hv : op tb.ng E.tm c with
        | b v =>
          rw [hv] at h
          cases v with
          | true => exact ihc _ _ _ _ (show R.code x E k S = true from h)
          | false => exact ihc _ _ _ _ (show R.code y E k S = true from h)
        | _ => rw [hv] at h; cases h
      | region id ops draw =>
        cases draw with
        | false =>
          obtain ⟨E1, S1, h1, h2⟩ := ihT _ _ _ _ _ (show R.opsT ops.toList ops.toList E (k .normal) S = true from h)
          have g : codeB tb F (.region id ops false) E S = AX.ret (Ex.normal, E1) S1 := bnd_of h1
          exact ⟨_, E1, S1, g, h2⟩
        | true =>
          obtain ⟨E1, l1, S1, h1, h2⟩ := ihD _ _ _ _ _ _ _ (show R.opsD ops.toList ops.toList 0 E [] (fun E l S => Bool.rec (motive := fun _ => Bool) false (k .normal E S) (!(anyClash l) || orderOk (anc ops.toList 0 .leaf) l)) S = true from h)
          have g : codeB tb F (.region id ops true) E S = (_root_.cond (!(anyClash l1) || orderOk (anc ops.toList 0 .leaf) l1) (AX.ret (Ex.normal, E1)) AX.fail) S1 := bnd_of h1
          cases ho : (!(anyClash l1) || orderOk (anc ops.toList 0 .leaf) l1) with
          | false => rw [ho] at h2; cases h2
          | true => rw [ho] at h2 g; exact ⟨_, E1, S1, g, h2⟩
      | _ => cases h
    · have h : opsTBC R all r E k S = true := h
      cases r with
      | nil => exact ⟨_, _, by unfold AX.opsT; rfl, h⟩
      | cons o r =>
        have run : wanted all E o = some true → runTC R all o r E k S = true → ∃ E' S', AX.opsT tb (f + 1) all (o :: r) E S = some (E', S') ∧ k E' S' = true := fun hw h => by
          obtain ⟨v, S1, h1, h2⟩ := ih.oper o E _ _ h
          obtain ⟨E1, h3, h4⟩ := putC_inv h2
          obtain ⟨E2, S2, h5, h6⟩ := ih.opsT _ _ _ _ _ h4
          exact ⟨E2, S2, by unfold AX.opsT; simp only [AX.bnd, AX.lft, hw, cond_true, h1, h3]; exact h5, h6⟩
        have skip : wanted all E o = some false → skipTC R all o r E k S = true → ∃ E' S', AX.opsT tb (f + 1) all (o :: r) E S = some (E', S') ∧ k E' S' = true := fun hw h => by
          obtain ⟨E1, h3, h4⟩ := putC_inv h
          obtain ⟨E2, S2, h5, h6⟩ := ih.opsT _ _ _ _ _ h4
          exact ⟨E2, S2, by unfold AX.opsT; simp only [AX.bnd, AX.lft, hw, cond_false, h3]; exact h5, h6⟩
        unfold opsTBC at h
        simp only [] at h
        cases hg : o.guard with
        | none => rw [hg] at h; exact run (by unfold wanted; rw [hg]) h
        | some g =>
          rw [hg] at h
          simp only [] at h
          cases hw : wanted all E o with
          | none => rw [hw] at h; cases h
          | some b =>
            rw [hw] at h
            cases b with
            | true => exact run hw h
            | false => exact skip hw h
    · have h : opsDBC R all r n E l k S = true := h
      cases r with
      | nil => exact ⟨_, _, _, by unfold AX.opsD; rfl, h⟩
      | cons o r =>
        have run : wanted all E o = some true → runDC R all o r n E l k S = true → ∃ E' l' S', AX.opsD tb (f + 1) all (o :: r) n E l S = some ((E', l'), S') ∧ k E' l' S' = true := fun hw h => by
          obtain ⟨heap, next, acc, wr⟩ := S
          obtain ⟨v, S1, h1, h2⟩ := ih.oper o E _ _ h
          obtain ⟨heap', next', acc', wr'⟩ := S1
          obtain ⟨E1, h3, h4⟩ := putC_inv h2
          obtain ⟨E2, l2, S2, h5, h6⟩ := ih.opsD _ _ _ _ _ _ _ h4
          refine ⟨E2, l2, S2, ?_, h6⟩
          unfold AX.opsD
          simp only [AX.bnd, AX.lft, AX.ownRun, hw, cond_true, h1, h3]
          rw [← h5]
          cases Nat.beq acc' 0 <;> rfl
        have skip : wanted all E o = some false → skipDC R all o r n E l k S = true → ∃ E' l' S', AX.opsD tb (f + 1) all (o :: r) n E l S = some ((E', l'), S') ∧ k E' l' S' = true := fun hw h => by
          obtain ⟨E1, h3, h4⟩ := putC_inv h
          obtain ⟨E2, l2, S2, h5, h6⟩ := ih.opsD _ _ _ _ _ _ _ h4
          exact ⟨E2, l2, S2, by unfold AX.opsD; simp only [AX.bnd, AX.lft, hw, cond_false, h3]; exact h5, h6⟩
        unfold opsDBC at h
        simp only [] at h
        cases hg : o.guard with
        | none => rw [hg] at h; exact run (by unfold wanted; rw [hg]) h
        | some g =>
          rw [hg] at h
          simp only [] at h
          cases hw : wanted all E o with
          | none => rw [hw] at h; cases h
          | some b =>
            rw [hw] at h
            cases b with
            | true => exact run hw h
            | false => exact skip hw h
    · have e : AX.oper tb (f + 1) o E = operB tb ⟨AX.code tb f, AX.opsT tb f, AX.opsD tb f, AX.oper tb f, AX.call tb f⟩ o E := by
        have := congrArg Fs.oper (fs_eq tb (f + 1))
        have h2 : (fs tb (f + 1)).oper = operB tb (fs tb f) := rfl
        rw [h2, fs_eq tb f] at this
        exact (congrFun (congrFun this o) E).symm
      rw [e]
      show Sim (operBC tb R o E) (operB tb _ o E)
      unfold operBC operB
      cases o.op with
      | call c =>
        show Sim (callCC tb R (op tb.ng E.tm) c) (callC tb _ (op tb.ng E.tm) c)
        cases c
        rename_i callee args tys
        cases callee with
        | builtin b => exact Sim.embD rfl
        | value g =>
          show Sim (callVC R _ (op tb.ng E.tm g)) (callV _ _ (op tb.ng E.tm g))
          cases op tb.ng E.tm g <;> first | exact ih.call _ _ | exact Sim.fail
        | invoke r m =>
          show Sim (callIC tb R m _ (op tb.ng E.tm r)) (callI tb _ m _ (op tb.ng E.tm r))
          cases op tb.ng E.tm r <;> first | exact Sim.bnd (Sim.lft _) fun _ => Sim.bnd (Sim.lft _) fun _ => ih.call _ _ | exact Sim.fail
      | _ =>
        show Sim (simpleC tb (op tb.ng E.tm) _) (simpleF tb (op tb.ng E.tm) _)
        rw [simpleF_eq]
        exact Sim.simple _ _ _
    · have e : AX.call tb (f + 1) g l = callB tb ⟨AX.code tb f, AX.opsT tb f, AX.opsD tb f, AX.oper tb f, AX.call tb f⟩ g l := by
        have := congrArg Fs.call (fs_eq tb (f + 1))
        have h2 : (fs tb (f + 1)).call = callB tb (fs tb f) := rfl
        rw [h2, fs_eq tb f] at this
        exact (congrFun (congrFun this g) l).symm
      rw [e]
      refine Sim.bnd (Sim.lft _) fun fi => ?_
      have hb : Sim (bodyC tb R fi l) (bodyK tb ⟨AX.code tb f, AX.opsT tb f, AX.opsD tb f, AX.oper tb f, AX.call tb f⟩ fi l fi.body) := fun k S h => by
        unfold bodyC at h
        cases hbd : fi.body with
        | none => rw [hbd] at h; exact Sim.emb _ k S h
        | some c =>
          rw [hbd] at h
          simp only [] at h
          cases hc : (Nat.ble l.length fi.ntmps && Nat.ble fi.ntmps 16777213) with
          | false => rw [hc] at h; cases h
          | true =>
            rw [hc] at h
            obtain ⟨ex, E1, S1, h1, h2⟩ := ih.code _ _ _ _ h
            have fin : embC (results tb fi.res E1) k S1 = true → (ex = .normal ∨ ex = .ret) → ∃ a S', bodyK tb ⟨AX.code tb f, AX.opsT tb f, AX.opsD tb f, AX.oper tb f, AX.call tb f⟩ fi l (some c) S = some (a, S') ∧ k a S' = true := fun h hex => by
              obtain ⟨a, S2, h3, h4⟩ := Sim.emb _ _ _ h
              refine ⟨a, S2, ?_, h4⟩
              unfold bodyK
              simp only [hc, cond_true, AX.bnd, h1]
              rcases hex with rfl | rfl <;> exact h3
            cases ex with
            | normal => exact fin h2 (.inl rfl)
            | ret => exact fin h2 (.inr rfl)
            | exit id => cases h2
            | goto l => cases h2
      show Sim (sumC tb R fi l) (sumK tb _ fi l fi.sum)
      intro k S h
      unfold sumC at h
      cases hs : fi.sum with
      | none => rw [hs] at h; exact hb k S h
      | some v =>
        rw [hs] at h
        cases l with
        | nil => exact ⟨v, S, rfl, h⟩
        | cons x l => exact hb k S h
def isB (v : AV) (S : St) : Bool := match v with
  | .b b => b
  | _ => false
/-- what the twin says true, the interpreter answers true -/
theorem run_cs {tb : Tab} {f g : Nat} {l : List AV} {S : St} (h : (cs tb f).call g l isB S = true) : ∃ S', call tb f g l S = some (.b true, S') := by
  obtain ⟨a, S', h1, h2⟩ := (simF tb f).call g l _ _ h
  cases a <;> first | (cases h2; done) | skip
  rename_i x
  have h2 : x = true := h2
  subst h2
  exact ⟨S', h1⟩
end
end Go.AX
