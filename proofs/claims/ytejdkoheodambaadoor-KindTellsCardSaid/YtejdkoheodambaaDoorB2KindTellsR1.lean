/- A part of the proof: an interpreter of the model's own code on partly known states, and that what it answers is what the program answers. No condition of its own. -/
import Derived.Test.YtejdkoheodambaaDoorB2KindTellsO
set_option maxRecDepth 100000
set_option linter.unusedVariables false
set_option linter.unusedSimpArgs false
namespace Go.Proofs.YtejdkoheodambaaDoor.kindTells
open Go Go.AX Go.Proofs Go.Proofs.YtejdkoheodambaaDoor
def hy12 : List (HK × AV) := [(.len (.x 6), .x 8),
  (.bin .gtr (.x 8) (.i .i64 (.ofNat 200)), .b false),
  (.bin .neq (.x 4) (.i .i64 (.ofNat 1)), .b true),
  (.bin .neq (.x 4) (.i .i64 (.ofNat 3)), .b false),
  (.bin .neq (.x 8) (.i .i64 (.ofNat 8)), .b true),
  (.eq 3 (.x 0) (.x 0), .b true),
  (.bin .shr (.x 1) (.i .u64 (.ofNat 24)), .x 9),
  (.conv 5 (.x 9), .x 10),
  (.bin .shr (.x 1) (.i .u64 (.ofNat 16)), .x 11),
  (.conv 5 (.x 11), .x 12),
  (.bin .shr (.x 1) (.i .u64 (.ofNat 8)), .x 13),
  (.conv 5 (.x 13), .x 14),
  (.conv 5 (.x 1), .x 15),
  (.conv 5 (.x 2), .x 16),
  (.bytes [.x 10, .x 12, .x 14, .x 15, .x 16], .x 17),
  (.len (.x 17), .i .i64 (.ofNat 5)),
  (.bin .add (.x 17) (.s 3 0), .x 18),
  (.bytes [.x 10, .x 12, .x 14, .x 15, .x 16, .i .u8 (.ofNat 0), .i .u8 (.ofNat 0), .i .u8 (.ofNat 0)], .x 19),
  (.eq 9 (.x 18) (.x 19), .b true),
  (.conv 5 (.x 3), .x 20),
  (.bytes [.x 20], .x 21),
  (.len (.x 21), .i .i64 (.ofNat 1)),
  (.bin .add (.x 21) (.s 7 0), .x 22),
  (.bytes [.x 20, .i .u8 (.ofNat 0), .i .u8 (.ofNat 0), .i .u8 (.ofNat 0), .i .u8 (.ofNat 0), .i .u8 (.ofNat 0), .i .u8 (.ofNat 0), .i .u8 (.ofNat 0)], .x 23),
  (.eq 9 (.x 22) (.x 23), .b true),
  (.call 53 [.x 3], .x 24),
  (.call 54 [.x 3], .x 25),
  (.bin .eql (.x 24) (.x 25), .b true)]
noncomputable def tab12 : Tab := { tabk with hyp := hy12 }
theorem run12 (e : Nat) : okB (call tab12 9000 7 [.x 0, .b true, .ag [.x 1, .x 2], .x 3, .ag [.x 4, .x 5, .x 6, .x 7]] ⟨H0 e , 7, 0, 0⟩) = true := by kernel_rfl
def nu12 (id : Int) (ap : Int) (pr : Int) (t : Int) (rt : Int) (ri : Int) (c : List UInt8) (rp : Int) : List Value := [.int .i64 (id),
  .int .u32 (ap),
  .int .i64 (pr),
  .int .i64 (t),
  .int .i64 (rt),
  .int .i64 (ri),
  St' c,
  .int .i64 (rp),
  .int .i64 ((c.length : Int)),
  .int .u32 (ap / 16777216),
  .int .u8 (ap / 16777216),
  .int .u32 (ap / 65536),
  .int .u8 ((ap / 65536) % 256),
  .int .u32 (ap / 256),
  .int .u8 ((ap / 256) % 256),
  .int .u8 (ap % 256),
  .int .u8 (pr % 256),
  St' ([u8 (ap / 16777216), u8 ((ap / 65536) % 256), u8 ((ap / 256) % 256), u8 (ap % 256), u8 (pr % 256)]),
  St' ([u8 (ap / 16777216), u8 ((ap / 65536) % 256), u8 ((ap / 256) % 256), u8 (ap % 256), u8 (pr % 256), u8 0, u8 0, u8 0]),
  St' ([u8 (ap / 16777216), u8 ((ap / 65536) % 256), u8 ((ap / 256) % 256), u8 (ap % 256), u8 (pr % 256), u8 0, u8 0, u8 0]),
  .int .u8 (t % 256),
  St' ([u8 (t % 256)]),
  St' ([u8 (t % 256), u8 0, u8 0, u8 0, u8 0, u8 0, u8 0, u8 0]),
  St' ([u8 (t % 256), u8 0, u8 0, u8 0, u8 0, u8 0, u8 0, u8 0]),
  St' ((nameL t)),
  St' ((nameL t))]
theorem one12 (id : Int) (ap : Int) (pr : Int) (t : Int) (rt : Int) (ri : Int) (c : List UInt8) (rp : Int) : ∀ j, (nuL (nu12 id ap pr t rt ri c rp) j).oneCell' = true := nuL_one (l := nu12 id ap pr t rt ri c rp) rfl
set_option maxHeartbeats 2000000 in
theorem hyOk12 (id : Int) (ap : Int) (pr : Int) (t : Int) (rt : Int) (ri : Int) (c : List UInt8) (rp : Int) (b0 : -9223372036854775808 ≤ id) (b1 : id ≤ 9223372036854775807) (b2 : 0 ≤ ap) (b3 : ap ≤ 4294967295) (b4 : -9223372036854775808 ≤ pr) (b5 : pr ≤ 9223372036854775807) (b6 : -9223372036854775808 ≤ t) (b7 : t ≤ 9223372036854775807) (b8 : -9223372036854775808 ≤ rt) (b9 : rt ≤ 9223372036854775807) (b10 : -9223372036854775808 ≤ ri) (b11 : ri ≤ 9223372036854775807) (b12 : c.length ≤ 9223372036854775807) (b13 : -9223372036854775808 ≤ rp) (b14 : rp ≤ 9223372036854775807) (h0 : ¬ (200 < (c.length : Int))) (h1 : ¬ (rt = 1)) (h2 : rt = 3) (h3 : ¬ ((c.length : Int) = 8)) : ∀ k r, (k, r) ∈ hy12 → HOk (cx (nuL (nu12 id ap pr t rt ri c rp)) (one12 id ap pr t rt ri c rp) 1 laidE laidE_stab) k r := by
  unfold hy12
  refine hcons (kLenE (isX rfl) (denX rfl) (by first | omega | (simp only [List.length_append, List.length_cons, List.length_nil, List.length_take, List.length_drop, Int.natCast_add] at *; omega))) ?_
  refine hcons (kGt (isX rfl) (isZ (m := 200) rfl) (decide_eq_false (by omega))) ?_
  refine hcons (kNeI (isX rfl) (isZ (m := 1) rfl) (neT (by omega))) ?_
  refine hcons (kNeI (isX rfl) (isZ (m := 3) rfl) (neF (by omega))) ?_
  refine hcons (kNeI (isX rfl) (isZ (m := 8) rfl) (neT (by omega))) ?_
  refine hcons (kEqT (isX rfl) (isX rfl) tu3 (decide_eq_true (by omega))) ?_
  refine hcons (kShrM 24 16777216 rfl (isX rfl) (isZ (m := 24) rfl) (denX rfl) rfl (by decide) (by omega) rfl) ?_
  refine hcons (kConvF (isX rfl) tu5 (denX rfl) (fU8 (by omega) (by omega))) ?_
  refine hcons (kShrM 16 65536 rfl (isX rfl) (isZ (m := 16) rfl) (denX rfl) rfl (by decide) (by omega) rfl) ?_
  refine hcons (kConv8 (isX rfl) tu5 (denX rfl) rfl) ?_
  refine hcons (kShrM 8 256 rfl (isX rfl) (isZ (m := 8) rfl) (denX rfl) rfl (by decide) (by omega) rfl) ?_
  refine hcons (kConv8 (isX rfl) tu5 (denX rfl) rfl) ?_
  refine hcons (kConv8 (isX rfl) tu5 (denX rfl) rfl) ?_
  refine hcons (kConv8 (isX rfl) tu5 (denX rfl) rfl) ?_
  refine hcons (kBytesB (bs := [u8 (ap / 16777216), u8 ((ap / 65536) % 256), u8 ((ap / 256) % 256), u8 (ap % 256), u8 (pr % 256)]) (.cons (isB8 (isX rfl) (by omega) (by omega)) (.cons (isB8 (isX rfl) (by omega) (by omega)) (.cons (isB8 (isX rfl) (by omega) (by omega)) (.cons (isB8 (isX rfl) (by omega) (by omega)) (.cons (isB8 (isX rfl) (by omega) (by omega)) .nil))))) (denX rfl)) ?_
  refine hcons (kLenE (isX rfl) (denZ (m := 5) rfl) (by first | omega | (simp only [List.length_append, List.length_cons, List.length_nil, List.length_take, List.length_drop, Int.natCast_add] at *; omega))) ?_
  refine hcons (kCat (isX rfl) (isSx (l := [u8 0, u8 0, u8 0]) 3 0 rfl) (denX rfl) (by first | rfl | (simp only [List.append_assoc, List.cons_append, List.nil_append, List.append_nil]; done)) (by first | omega | (simp only [List.length_append, List.length_cons, List.length_nil, List.length_take, List.length_drop, Int.natCast_add] at *; omega))) ?_
  refine hcons (kBytesB (bs := [u8 (ap / 16777216), u8 ((ap / 65536) % 256), u8 ((ap / 256) % 256), u8 (ap % 256), u8 (pr % 256), u8 0, u8 0, u8 0]) (.cons (isB8 (isX rfl) (by omega) (by omega)) (.cons (isB8 (isX rfl) (by omega) (by omega)) (.cons (isB8 (isX rfl) (by omega) (by omega)) (.cons (isB8 (isX rfl) (by omega) (by omega)) (.cons (isB8 (isX rfl) (by omega) (by omega)) (.cons (isB8 (isZ (m := 0) rfl) (by omega) (by omega)) (.cons (isB8 (isZ (m := 0) rfl) (by omega) (by omega)) (.cons (isB8 (isZ (m := 0) rfl) (by omega) (by omega)) .nil)))))))) (denX rfl)) ?_
  refine hcons (kEqTS (isX rfl) (isX rfl) tu9 (decide_eq_true rfl)) ?_
  refine hcons (kConv8 (isX rfl) tu5 (denX rfl) rfl) ?_
  refine hcons (kBytesB (bs := [u8 (t % 256)]) (.cons (isB8 (isX rfl) (by omega) (by omega)) .nil) (denX rfl)) ?_
  refine hcons (kLenE (isX rfl) (denZ (m := 1) rfl) (by first | omega | (simp only [List.length_append, List.length_cons, List.length_nil, List.length_take, List.length_drop, Int.natCast_add] at *; omega))) ?_
  refine hcons (kCat (isX rfl) (isSx (l := [u8 0, u8 0, u8 0, u8 0, u8 0, u8 0, u8 0]) 7 0 rfl) (denX rfl) (by first | rfl | (simp only [List.append_assoc, List.cons_append, List.nil_append, List.append_nil]; done)) (by first | omega | (simp only [List.length_append, List.length_cons, List.length_nil, List.length_take, List.length_drop, Int.natCast_add] at *; omega))) ?_
  refine hcons (kBytesB (bs := [u8 (t % 256), u8 0, u8 0, u8 0, u8 0, u8 0, u8 0, u8 0]) (.cons (isB8 (isX rfl) (by omega) (by omega)) (.cons (isB8 (isZ (m := 0) rfl) (by omega) (by omega)) (.cons (isB8 (isZ (m := 0) rfl) (by omega) (by omega)) (.cons (isB8 (isZ (m := 0) rfl) (by omega) (by omega)) (.cons (isB8 (isZ (m := 0) rfl) (by omega) (by omega)) (.cons (isB8 (isZ (m := 0) rfl) (by omega) (by omega)) (.cons (isB8 (isZ (m := 0) rfl) (by omega) (by omega)) (.cons (isB8 (isZ (m := 0) rfl) (by omega) (by omega)) .nil)))))))) (denX rfl)) ?_
  refine hcons (kEqTS (isX rfl) (isX rfl) tu9 (decide_eq_true rfl)) ?_
  refine hcons (hokg53 rfl rfl (by omega) (by omega)) ?_
  refine hcons (hokg54 rfl rfl (by omega) (by omega)) ?_
  refine hcons (kEqS (isX rfl) (isX rfl) (decide_eq_true rfl)) ?_
  exact hnil
theorem path12 (id : Int) (ap : Int) (pr : Int) (t : Int) (rt : Int) (ri : Int) (c : List UInt8) (rp : Int) (b0 : -9223372036854775808 ≤ id) (b1 : id ≤ 9223372036854775807) (b2 : 0 ≤ ap) (b3 : ap ≤ 4294967295) (b4 : -9223372036854775808 ≤ pr) (b5 : pr ≤ 9223372036854775807) (b6 : -9223372036854775808 ≤ t) (b7 : t ≤ 9223372036854775807) (b8 : -9223372036854775808 ≤ rt) (b9 : rt ≤ 9223372036854775807) (b10 : -9223372036854775808 ≤ ri) (b11 : ri ≤ 9223372036854775807) (b12 : c.length ≤ 9223372036854775807) (b13 : -9223372036854775808 ≤ rp) (b14 : rp ≤ 9223372036854775807) (h0 : ¬ (200 < (c.length : Int))) (h1 : ¬ (rt = 1)) (h2 : rt = 3) (h3 : ¬ ((c.length : Int) = 8)) (w : World) (hl : laidE w) : Calls Tryd.prog 7 #[.int .i64 id, .bool true, .agg #[.int .u32 ap, .int .i64 pr], .int .i64 t, .agg #[.int .i64 rt, .int .i64 ri, St' c, .int .i64 rp]] w fun e w' => e = .returned (.bool true) ∧ Go.AX.Below w.heap.size w w' := by
  obtain ⟨fi, hfi, hb⟩ : ∃ fi, tabk.fn.get 7 = some fi ∧ fi.body.isSome = true := ⟨_, rfl, by kernel_rfl⟩
  exact runP (tb := tab12) ((tabkOk (nuL (nu12 id ap pr t rt ri c rp)) (one12 id ap pr t rt ri c rp)).hyps (hyOk12 id ap pr t rt ri c rp b0 b1 b2 b3 b4 b5 b6 b7 b8 b9 b10 b11 b12 b13 b14 h0 h1 h2 h3)) rfl hfi hb (fun e => run12 e ) (args := [.int .i64 id, .bool true, .agg #[.int .u32 ap, .int .i64 pr], .int .i64 t, .agg #[.int .i64 rt, .int .i64 ri, St' c, .int .i64 rp]]) (by simp only [RelL, Rel]; exact ⟨_, _, rfl, rfl, ⟨_, _, rfl, rfl, ⟨_, _, rfl, ⟨_, rfl, ⟨_, _, rfl, rfl, ⟨_, _, rfl, rfl, rfl⟩⟩⟩, ⟨_, _, rfl, rfl, ⟨_, _, rfl, ⟨_, rfl, ⟨_, _, rfl, rfl, ⟨_, _, rfl, rfl, ⟨_, _, rfl, rfl, ⟨_, _, rfl, rfl, rfl⟩⟩⟩⟩⟩, rfl⟩⟩⟩⟩⟩) w hl
def hy13 : List (HK × AV) := [(.len (.x 6), .x 8),
  (.bin .gtr (.x 8) (.i .i64 (.ofNat 200)), .b false),
  (.bin .neq (.x 4) (.i .i64 (.ofNat 1)), .b true),
  (.bin .neq (.x 4) (.i .i64 (.ofNat 3)), .b true),
  (.eq 3 (.x 0) (.x 0), .b true),
  (.bin .shr (.x 1) (.i .u64 (.ofNat 24)), .x 9),
  (.conv 5 (.x 9), .x 10),
  (.bin .shr (.x 1) (.i .u64 (.ofNat 16)), .x 11),
  (.conv 5 (.x 11), .x 12),
  (.bin .shr (.x 1) (.i .u64 (.ofNat 8)), .x 13),
  (.conv 5 (.x 13), .x 14),
  (.conv 5 (.x 1), .x 15),
  (.conv 5 (.x 2), .x 16),
  (.bytes [.x 10, .x 12, .x 14, .x 15, .x 16], .x 17),
  (.len (.x 17), .i .i64 (.ofNat 5)),
  (.bin .add (.x 17) (.s 3 0), .x 18),
  (.bytes [.x 10, .x 12, .x 14, .x 15, .x 16, .i .u8 (.ofNat 0), .i .u8 (.ofNat 0), .i .u8 (.ofNat 0)], .x 19),
  (.eq 9 (.x 18) (.x 19), .b true),
  (.conv 5 (.x 3), .x 20),
  (.bytes [.x 20], .x 21),
  (.len (.x 21), .i .i64 (.ofNat 1)),
  (.bin .add (.x 21) (.s 7 0), .x 22),
  (.bytes [.x 20, .i .u8 (.ofNat 0), .i .u8 (.ofNat 0), .i .u8 (.ofNat 0), .i .u8 (.ofNat 0), .i .u8 (.ofNat 0), .i .u8 (.ofNat 0), .i .u8 (.ofNat 0)], .x 23),
  (.eq 9 (.x 22) (.x 23), .b true),
  (.call 53 [.x 3], .x 24),
  (.call 54 [.x 3], .x 25),
  (.bin .eql (.x 24) (.x 25), .b true)]
noncomputable def tab13 : Tab := { tabk with hyp := hy13 }
theorem run13 (e : Nat) : okB (call tab13 9000 7 [.x 0, .b true, .ag [.x 1, .x 2], .x 3, .ag [.x 4, .x 5, .x 6, .x 7]] ⟨H0 e , 7, 0, 0⟩) = true := by kernel_rfl
def nu13 (id : Int) (ap : Int) (pr : Int) (t : Int) (rt : Int) (ri : Int) (c : List UInt8) (rp : Int) : List Value := [.int .i64 (id),
  .int .u32 (ap),
  .int .i64 (pr),
  .int .i64 (t),
  .int .i64 (rt),
  .int .i64 (ri),
  St' c,
  .int .i64 (rp),
  .int .i64 ((c.length : Int)),
  .int .u32 (ap / 16777216),
  .int .u8 (ap / 16777216),
  .int .u32 (ap / 65536),
  .int .u8 ((ap / 65536) % 256),
  .int .u32 (ap / 256),
  .int .u8 ((ap / 256) % 256),
  .int .u8 (ap % 256),
  .int .u8 (pr % 256),
  St' ([u8 (ap / 16777216), u8 ((ap / 65536) % 256), u8 ((ap / 256) % 256), u8 (ap % 256), u8 (pr % 256)]),
  St' ([u8 (ap / 16777216), u8 ((ap / 65536) % 256), u8 ((ap / 256) % 256), u8 (ap % 256), u8 (pr % 256), u8 0, u8 0, u8 0]),
  St' ([u8 (ap / 16777216), u8 ((ap / 65536) % 256), u8 ((ap / 256) % 256), u8 (ap % 256), u8 (pr % 256), u8 0, u8 0, u8 0]),
  .int .u8 (t % 256),
  St' ([u8 (t % 256)]),
  St' ([u8 (t % 256), u8 0, u8 0, u8 0, u8 0, u8 0, u8 0, u8 0]),
  St' ([u8 (t % 256), u8 0, u8 0, u8 0, u8 0, u8 0, u8 0, u8 0]),
  St' ((nameL t)),
  St' ((nameL t))]
theorem one13 (id : Int) (ap : Int) (pr : Int) (t : Int) (rt : Int) (ri : Int) (c : List UInt8) (rp : Int) : ∀ j, (nuL (nu13 id ap pr t rt ri c rp) j).oneCell' = true := nuL_one (l := nu13 id ap pr t rt ri c rp) rfl
set_option maxHeartbeats 2000000 in
theorem hyOk13 (id : Int) (ap : Int) (pr : Int) (t : Int) (rt : Int) (ri : Int) (c : List UInt8) (rp : Int) (b0 : -9223372036854775808 ≤ id) (b1 : id ≤ 9223372036854775807) (b2 : 0 ≤ ap) (b3 : ap ≤ 4294967295) (b4 : -9223372036854775808 ≤ pr) (b5 : pr ≤ 9223372036854775807) (b6 : -9223372036854775808 ≤ t) (b7 : t ≤ 9223372036854775807) (b8 : -9223372036854775808 ≤ rt) (b9 : rt ≤ 9223372036854775807) (b10 : -9223372036854775808 ≤ ri) (b11 : ri ≤ 9223372036854775807) (b12 : c.length ≤ 9223372036854775807) (b13 : -9223372036854775808 ≤ rp) (b14 : rp ≤ 9223372036854775807) (h0 : ¬ (200 < (c.length : Int))) (h1 : ¬ (rt = 1)) (h2 : ¬ (rt = 3)) : ∀ k r, (k, r) ∈ hy13 → HOk (cx (nuL (nu13 id ap pr t rt ri c rp)) (one13 id ap pr t rt ri c rp) 1 laidE laidE_stab) k r := by
  unfold hy13
  refine hcons (kLenE (isX rfl) (denX rfl) (by first | omega | (simp only [List.length_append, List.length_cons, List.length_nil, List.length_take, List.length_drop, Int.natCast_add] at *; omega))) ?_
  refine hcons (kGt (isX rfl) (isZ (m := 200) rfl) (decide_eq_false (by omega))) ?_
  refine hcons (kNeI (isX rfl) (isZ (m := 1) rfl) (neT (by omega))) ?_
  refine hcons (kNeI (isX rfl) (isZ (m := 3) rfl) (neT (by omega))) ?_
  refine hcons (kEqT (isX rfl) (isX rfl) tu3 (decide_eq_true (by omega))) ?_
  refine hcons (kShrM 24 16777216 rfl (isX rfl) (isZ (m := 24) rfl) (denX rfl) rfl (by decide) (by omega) rfl) ?_
  refine hcons (kConvF (isX rfl) tu5 (denX rfl) (fU8 (by omega) (by omega))) ?_
  refine hcons (kShrM 16 65536 rfl (isX rfl) (isZ (m := 16) rfl) (denX rfl) rfl (by decide) (by omega) rfl) ?_
  refine hcons (kConv8 (isX rfl) tu5 (denX rfl) rfl) ?_
  refine hcons (kShrM 8 256 rfl (isX rfl) (isZ (m := 8) rfl) (denX rfl) rfl (by decide) (by omega) rfl) ?_
  refine hcons (kConv8 (isX rfl) tu5 (denX rfl) rfl) ?_
  refine hcons (kConv8 (isX rfl) tu5 (denX rfl) rfl) ?_
  refine hcons (kConv8 (isX rfl) tu5 (denX rfl) rfl) ?_
  refine hcons (kBytesB (bs := [u8 (ap / 16777216), u8 ((ap / 65536) % 256), u8 ((ap / 256) % 256), u8 (ap % 256), u8 (pr % 256)]) (.cons (isB8 (isX rfl) (by omega) (by omega)) (.cons (isB8 (isX rfl) (by omega) (by omega)) (.cons (isB8 (isX rfl) (by omega) (by omega)) (.cons (isB8 (isX rfl) (by omega) (by omega)) (.cons (isB8 (isX rfl) (by omega) (by omega)) .nil))))) (denX rfl)) ?_
  refine hcons (kLenE (isX rfl) (denZ (m := 5) rfl) (by first | omega | (simp only [List.length_append, List.length_cons, List.length_nil, List.length_take, List.length_drop, Int.natCast_add] at *; omega))) ?_
  refine hcons (kCat (isX rfl) (isSx (l := [u8 0, u8 0, u8 0]) 3 0 rfl) (denX rfl) (by first | rfl | (simp only [List.append_assoc, List.cons_append, List.nil_append, List.append_nil]; done)) (by first | omega | (simp only [List.length_append, List.length_cons, List.length_nil, List.length_take, List.length_drop, Int.natCast_add] at *; omega))) ?_
  refine hcons (kBytesB (bs := [u8 (ap / 16777216), u8 ((ap / 65536) % 256), u8 ((ap / 256) % 256), u8 (ap % 256), u8 (pr % 256), u8 0, u8 0, u8 0]) (.cons (isB8 (isX rfl) (by omega) (by omega)) (.cons (isB8 (isX rfl) (by omega) (by omega)) (.cons (isB8 (isX rfl) (by omega) (by omega)) (.cons (isB8 (isX rfl) (by omega) (by omega)) (.cons (isB8 (isX rfl) (by omega) (by omega)) (.cons (isB8 (isZ (m := 0) rfl) (by omega) (by omega)) (.cons (isB8 (isZ (m := 0) rfl) (by omega) (by omega)) (.cons (isB8 (isZ (m := 0) rfl) (by omega) (by omega)) .nil)))))))) (denX rfl)) ?_
  refine hcons (kEqTS (isX rfl) (isX rfl) tu9 (decide_eq_true rfl)) ?_
  refine hcons (kConv8 (isX rfl) tu5 (denX rfl) rfl) ?_
  refine hcons (kBytesB (bs := [u8 (t % 256)]) (.cons (isB8 (isX rfl) (by omega) (by omega)) .nil) (denX rfl)) ?_
  refine hcons (kLenE (isX rfl) (denZ (m := 1) rfl) (by first | omega | (simp only [List.length_append, List.length_cons, List.length_nil, List.length_take, List.length_drop, Int.natCast_add] at *; omega))) ?_
  refine hcons (kCat (isX rfl) (isSx (l := [u8 0, u8 0, u8 0, u8 0, u8 0, u8 0, u8 0]) 7 0 rfl) (denX rfl) (by first | rfl | (simp only [List.append_assoc, List.cons_append, List.nil_append, List.append_nil]; done)) (by first | omega | (simp only [List.length_append, List.length_cons, List.length_nil, List.length_take, List.length_drop, Int.natCast_add] at *; omega))) ?_
  refine hcons (kBytesB (bs := [u8 (t % 256), u8 0, u8 0, u8 0, u8 0, u8 0, u8 0, u8 0]) (.cons (isB8 (isX rfl) (by omega) (by omega)) (.cons (isB8 (isZ (m := 0) rfl) (by omega) (by omega)) (.cons (isB8 (isZ (m := 0) rfl) (by omega) (by omega)) (.cons (isB8 (isZ (m := 0) rfl) (by omega) (by omega)) (.cons (isB8 (isZ (m := 0) rfl) (by omega) (by omega)) (.cons (isB8 (isZ (m := 0) rfl) (by omega) (by omega)) (.cons (isB8 (isZ (m := 0) rfl) (by omega) (by omega)) (.cons (isB8 (isZ (m := 0) rfl) (by omega) (by omega)) .nil)))))))) (denX rfl)) ?_
  refine hcons (kEqTS (isX rfl) (isX rfl) tu9 (decide_eq_true rfl)) ?_
  refine hcons (hokg53 rfl rfl (by omega) (by omega)) ?_
  refine hcons (hokg54 rfl rfl (by omega) (by omega)) ?_
  refine hcons (kEqS (isX rfl) (isX rfl) (decide_eq_true rfl)) ?_
  exact hnil
theorem path13 (id : Int) (ap : Int) (pr : Int) (t : Int) (rt : Int) (ri : Int) (c : List UInt8) (rp : Int) (b0 : -9223372036854775808 ≤ id) (b1 : id ≤ 9223372036854775807) (b2 : 0 ≤ ap) (b3 : ap ≤ 4294967295) (b4 : -9223372036854775808 ≤ pr) (b5 : pr ≤ 9223372036854775807) (b6 : -9223372036854775808 ≤ t) (b7 : t ≤ 9223372036854775807) (b8 : -9223372036854775808 ≤ rt) (b9 : rt ≤ 9223372036854775807) (b10 : -9223372036854775808 ≤ ri) (b11 : ri ≤ 9223372036854775807) (b12 : c.length ≤ 9223372036854775807) (b13 : -9223372036854775808 ≤ rp) (b14 : rp ≤ 9223372036854775807) (h0 : ¬ (200 < (c.length : Int))) (h1 : ¬ (rt = 1)) (h2 : ¬ (rt = 3)) (w : World) (hl : laidE w) : Calls Tryd.prog 7 #[.int .i64 id, .bool true, .agg #[.int .u32 ap, .int .i64 pr], .int .i64 t, .agg #[.int .i64 rt, .int .i64 ri, St' c, .int .i64 rp]] w fun e w' => e = .returned (.bool true) ∧ Go.AX.Below w.heap.size w w' := by
  obtain ⟨fi, hfi, hb⟩ : ∃ fi, tabk.fn.get 7 = some fi ∧ fi.body.isSome = true := ⟨_, rfl, by kernel_rfl⟩
  exact runP (tb := tab13) ((tabkOk (nuL (nu13 id ap pr t rt ri c rp)) (one13 id ap pr t rt ri c rp)).hyps (hyOk13 id ap pr t rt ri c rp b0 b1 b2 b3 b4 b5 b6 b7 b8 b9 b10 b11 b12 b13 b14 h0 h1 h2)) rfl hfi hb (fun e => run13 e ) (args := [.int .i64 id, .bool true, .agg #[.int .u32 ap, .int .i64 pr], .int .i64 t, .agg #[.int .i64 rt, .int .i64 ri, St' c, .int .i64 rp]]) (by simp only [RelL, Rel]; exact ⟨_, _, rfl, rfl, ⟨_, _, rfl, rfl, ⟨_, _, rfl, ⟨_, rfl, ⟨_, _, rfl, rfl, ⟨_, _, rfl, rfl, rfl⟩⟩⟩, ⟨_, _, rfl, rfl, ⟨_, _, rfl, ⟨_, rfl, ⟨_, _, rfl, rfl, ⟨_, _, rfl, rfl, ⟨_, _, rfl, rfl, ⟨_, _, rfl, rfl, rfl⟩⟩⟩⟩⟩, rfl⟩⟩⟩⟩⟩) w hl
end Go.Proofs.YtejdkoheodambaaDoor.kindTells
