/- A part of the proof: an interpreter of the model's own code on partly known states, and that what it answers is what the program answers. No condition of its own. -/
import Derived.Test.YtejdkoheodambaaDoorB2KindTellsO
set_option maxRecDepth 100000
set_option linter.unusedVariables false
set_option linter.unusedSimpArgs false
namespace Go.Proofs.YtejdkoheodambaaDoor.kindTells
open Go Go.AX Go.Proofs Go.Proofs.YtejdkoheodambaaDoor
def hy0 : List (HK × AV) := [(.len (.x 6), .x 8),
  (.bin .gtr (.x 8) (.i .i64 (.ofNat 200)), .b false),
  (.bin .neq (.x 4) (.i .i64 (.ofNat 1)), .b false),
  (.bin .neq (.x 8) (.i .i64 (.ofNat 8)), .b false),
  (.idx (.x 6) (.i .i64 (.ofNat 0)), .x 9),
  (.conv 3 (.x 9), .x 10),
  (.bin .shl (.x 10) (.i .u64 (.ofNat 8)), .x 11),
  (.idx (.x 6) (.i .i64 (.ofNat 1)), .x 12),
  (.conv 3 (.x 12), .x 13),
  (.bin .or (.x 11) (.x 13), .x 14),
  (.idx (.x 6) (.i .i64 (.ofNat 2)), .x 15),
  (.bin .and (.x 15) (.i .u8 (.ofNat 1)), .x 16),
  (.bin .neq (.x 16) (.i .u8 (.ofNat 0)), .b true),
  (.bin .mul (.x 10) (.i .i64 (.ofNat 256)), .x 17),
  (.bin .add (.x 17) (.x 13), .x 18),
  (.bin .eql (.x 16) (.i .u8 (.ofNat 1)), .b true),
  (.bin .neq (.x 4) (.i .i64 (.ofNat 3)), .b true),
  (.eq 3 (.x 0) (.x 0), .b true),
  (.bin .eql (.x 14) (.x 18), .b true),
  (.bin .shr (.x 1) (.i .u64 (.ofNat 24)), .x 19),
  (.conv 5 (.x 19), .x 20),
  (.bin .shr (.x 1) (.i .u64 (.ofNat 16)), .x 21),
  (.conv 5 (.x 21), .x 22),
  (.bin .shr (.x 1) (.i .u64 (.ofNat 8)), .x 23),
  (.conv 5 (.x 23), .x 24),
  (.conv 5 (.x 1), .x 25),
  (.conv 5 (.x 2), .x 26),
  (.bytes [.x 20, .x 22, .x 24, .x 25, .x 26], .x 27),
  (.len (.x 27), .i .i64 (.ofNat 5)),
  (.bin .add (.x 27) (.s 3 0), .x 28),
  (.bytes [.x 20, .x 22, .x 24, .x 25, .x 26, .i .u8 (.ofNat 0), .i .u8 (.ofNat 0), .i .u8 (.ofNat 0)], .x 29),
  (.eq 9 (.x 28) (.x 29), .b true),
  (.conv 5 (.x 3), .x 30),
  (.bytes [.x 30], .x 31),
  (.len (.x 31), .i .i64 (.ofNat 1)),
  (.bin .add (.x 31) (.s 7 0), .x 32),
  (.bytes [.x 30, .i .u8 (.ofNat 0), .i .u8 (.ofNat 0), .i .u8 (.ofNat 0), .i .u8 (.ofNat 0), .i .u8 (.ofNat 0), .i .u8 (.ofNat 0), .i .u8 (.ofNat 0)], .x 33),
  (.eq 9 (.x 32) (.x 33), .b true),
  (.call 53 [.x 3], .x 34),
  (.call 54 [.x 3], .x 35),
  (.bin .eql (.x 34) (.x 35), .b true)]
noncomputable def tab0 : Tab := { tabk with hyp := hy0 }
theorem run0 (e : Nat) : okB (call tab0 9000 7 [.x 0, .b false, .ag [.x 1, .x 2], .x 3, .ag [.x 4, .x 5, .x 6, .x 7]] ⟨H0 e , 7, 0, 0⟩) = true := by kernel_rfl
def nu0 (id : Int) (ap : Int) (pr : Int) (t : Int) (rt : Int) (ri : Int) (c : List UInt8) (rp : Int) : List Value := [.int .i64 (id),
  .int .u32 (ap),
  .int .i64 (pr),
  .int .i64 (t),
  .int .i64 (rt),
  .int .i64 (ri),
  St' c,
  .int .i64 (rp),
  .int .i64 ((c.length : Int)),
  .int .u8 (bt c 0),
  .int .i64 (bt c 0),
  .int .i64 ((bt c 0) * 256),
  .int .u8 (bt c 1),
  .int .i64 (bt c 1),
  .int .i64 (((bt c 0) * 256) + (bt c 1)),
  .int .u8 (bt c 2),
  .int .u8 ((bt c 2) % 2),
  .int .i64 ((bt c 0) * 256),
  .int .i64 (((bt c 0) * 256) + (bt c 1)),
  .int .u32 (ap / 16777216),
  .int .u8 (ap / 16777216),
  .int .u32 (ap / 65536),
  .int .u8 ((ap / 65536) % 256),
  .int .u32 (ap / 256),
  .int .u8 ((ap / 256) % 256),
  .int .u8 (ap % 256),
  .int .u8 (pr % 256),
  St' ([u8 (ap / 16777216), u8 ((ap / 65536) % 256), u8 ((ap / 256) % 256), u8 (ap % 256), u8 (pr % 256)]),
  St' ([u8 (ap / 16777216), u8 ((ap / 65536) % 256), u8 ((ap / 256) % 256), u8 (ap % 256), u8 (pr % 256), u8 0, u8 0, u8 0]),
  St' ([u8 (ap / 16777216), u8 ((ap / 65536) % 256), u8 ((ap / 256) % 256), u8 (ap % 256), u8 (pr % 256), u8 0, u8 0, u8 0]),
  .int .u8 (t % 256),
  St' ([u8 (t % 256)]),
  St' ([u8 (t % 256), u8 0, u8 0, u8 0, u8 0, u8 0, u8 0, u8 0]),
  St' ([u8 (t % 256), u8 0, u8 0, u8 0, u8 0, u8 0, u8 0, u8 0]),
  St' ((nameL t)),
  St' ((nameL t))]
theorem one0 (id : Int) (ap : Int) (pr : Int) (t : Int) (rt : Int) (ri : Int) (c : List UInt8) (rp : Int) : ∀ j, (nuL (nu0 id ap pr t rt ri c rp) j).oneCell' = true := nuL_one (l := nu0 id ap pr t rt ri c rp) rfl
set_option maxHeartbeats 2000000 in
theorem hyOk0 (id : Int) (ap : Int) (pr : Int) (t : Int) (rt : Int) (ri : Int) (c : List UInt8) (rp : Int) (b0 : -9223372036854775808 ≤ id) (b1 : id ≤ 9223372036854775807) (b2 : 0 ≤ ap) (b3 : ap ≤ 4294967295) (b4 : -9223372036854775808 ≤ pr) (b5 : pr ≤ 9223372036854775807) (b6 : -9223372036854775808 ≤ t) (b7 : t ≤ 9223372036854775807) (b8 : -9223372036854775808 ≤ rt) (b9 : rt ≤ 9223372036854775807) (b10 : -9223372036854775808 ≤ ri) (b11 : ri ≤ 9223372036854775807) (b12 : c.length ≤ 9223372036854775807) (b13 : -9223372036854775808 ≤ rp) (b14 : rp ≤ 9223372036854775807) (h0 : ¬ (200 < (c.length : Int))) (h1 : rt = 1) (h2 : (c.length : Int) = 8) (h3 : ¬ ((bt c 2) % 2 = 0)) : ∀ k r, (k, r) ∈ hy0 → HOk (cx (nuL (nu0 id ap pr t rt ri c rp)) (one0 id ap pr t rt ri c rp) 1 laidE laidE_stab) k r := by
  have := bt_lo c 0; have := bt_hi c 0
  have := bt_lo c 1; have := bt_hi c 1
  have := bt_lo c 2; have := bt_hi c 2
  unfold hy0
  refine hcons (kLenE (isX rfl) (denX rfl) (by first | omega | (simp only [List.length_append, List.length_cons, List.length_nil, List.length_take, List.length_drop, Int.natCast_add] at *; omega))) ?_
  refine hcons (kGt (isX rfl) (isZ (m := 200) rfl) (decide_eq_false (by omega))) ?_
  refine hcons (kNeI (isX rfl) (isZ (m := 1) rfl) (neF (by omega))) ?_
  refine hcons (kNeI (isX rfl) (isZ (m := 8) rfl) (neF (by omega))) ?_
  refine hcons (kIdxE (i := 0) (isX rfl) (isZ (m := 0) rfl) (denX rfl) rfl (by first | omega | (simp only [List.length_append, List.length_cons, List.length_nil, List.length_take, List.length_drop, Int.natCast_add] at *; omega)) rfl) ?_
  refine hcons (kConvF (isX rfl) tu3 (denX rfl) (fI64 (by omega) (by omega))) ?_
  refine hcons (kShlM 8 256 rfl (isX rfl) (isZ (m := 8) rfl) (denX rfl) rfl (by decide) rfl (fI64 (by omega) (by omega))) ?_
  refine hcons (kIdxE (i := 1) (isX rfl) (isZ (m := 1) rfl) (denX rfl) rfl (by first | omega | (simp only [List.length_append, List.length_cons, List.length_nil, List.length_take, List.length_drop, Int.natCast_add] at *; omega)) rfl) ?_
  refine hcons (kConvF (isX rfl) tu3 (denX rfl) (fI64 (by omega) (by omega))) ?_
  refine hcons (kOrM 8 256 rfl (isX rfl) (isX rfl) (denX rfl) (by omega) (by omega) (fI64 (by omega) (by omega)) (fI64 (by omega) (by omega)) (by omega) (by omega) rfl (fI64 (by omega) (by omega))) ?_
  refine hcons (kIdxE (i := 2) (isX rfl) (isZ (m := 2) rfl) (denX rfl) rfl (by first | omega | (simp only [List.length_append, List.length_cons, List.length_nil, List.length_take, List.length_drop, Int.natCast_add] at *; omega)) rfl) ?_
  refine hcons (kAndM 1 2 rfl (isX rfl) (isZ (m := 1) rfl) (denX rfl) (by omega) (fU8 (by omega) (by omega)) (fU8 (by omega) (by omega)) rfl rfl) ?_
  refine hcons (kNeI (isX rfl) (isZ (m := 0) rfl) (neT (by omega))) ?_
  refine hcons (kMul (isX rfl) (isZ (m := 256) rfl) (denX rfl) rfl (fI64 (by omega) (by omega))) ?_
  refine hcons (kAdd (isX rfl) (isX rfl) (denX rfl) rfl (fI64 (by omega) (by omega))) ?_
  refine hcons (kEqI (isX rfl) (isZ (m := 1) rfl) (decide_eq_true (by omega))) ?_
  refine hcons (kNeI (isX rfl) (isZ (m := 3) rfl) (neT (by omega))) ?_
  refine hcons (kEqT (isX rfl) (isX rfl) tu3 (decide_eq_true (by omega))) ?_
  refine hcons (kEqI (isX rfl) (isX rfl) (decide_eq_true (by omega))) ?_
  refine hcons (kShrM 24 16777216 rfl (isX rfl) (isZ (m := 24) rfl) (denX rfl) rfl (by decide) (by omega) rfl) ?_
  refine hcons (kConvF (isX rfl) tu5 (denX rfl) (fU8 (by omega) (by omega))) ?_
  refine hcons (kShrM 16 65536 rfl (isX rfl) (isZ (m := 16) rfl) (denX rfl) rfl (by decide) (by omega) rfl) ?_
  refine hcons (kConv8 (isX rfl) tu5 (denX rfl) rfl) ?_
  refine hcons (kShrM 8 256 rfl (isX rfl) (isZ (m := 8) rfl) (denX rfl) rfl (by decide) (by omega) rfl) ?_
  refine hcons (kConv8 (isX rfl) tu5 (denX rfl) rfl) ?_
  refine hcons (kConv8 (isX rfl) tu5 (denX rfl) rfl) ?_
  refine hcons (kConv8 (isX rfl) tu5 (denX rfl) rfl) ?_
  refine hcons (kBytesB (bs := [u8 (ap / 16777216), u8 ((ap / 65536) % 256), u8 ((ap / 256) % 256), u8 (ap % 256), u8 (pr % 256)]) (.cons (isB8 (isX rfl) (by omega) (by omega)) (.cons (isB8 (isX rfl) (by omega) (by omega)) (.cons (isB8 (isX rfl) (by omega) (by omega)) (.cons (isB8 (isX rfl) (by omega) (by omega)) (.cons (isB8 (isX rfl) (by omega) (by omega)) .nil))))) (denX rfl)) ?_
  refine hcons (kLenE (isX rfl) (denZ (m := 5) rfl) (by first | omega | (simp only [List.length_append, List.length_cons, List.length_nil, List.length_take, List.length_drop, Int.natCast_add] at *; omega))) ?_
  refine hcons (kCat (isX rfl) (isSx (l := [u8 0, u8 0, u8 0]) 3 0 rfl) (denX rfl) (by first | rfl | (simp only [List.append_assoc, List.cons_append, List.nil_append, List.append_nil]; done)) (by first | omega | (simp only [List.length_append, List.length_cons, List.length_nil, List.length_take, List.length_drop, Int.natCast_add] at *; omega))) ?_
  refine hcons (kBytesB (bs := [u8 (ap / 16777216), u8 ((ap / 65536) % 256), u8 ((ap / 256) % 256), u8 (ap % 256), u8 (pr % 256), u8 0, u8 0, u8 0]) (.cons (isB8 (isX rfl) (by omega) (by omega)) (.cons (isB8 (isX rfl) (by omega) (by omega)) (.cons (isB8 (isX rfl) (by omega) (by omega)) (.cons (isB8 (isX rfl) (by omega) (by omega)) (.cons (isB8 (isX rfl) (by omega) (by omega)) (.cons (isB8 (isZ (m := 0) rfl) (by omega) (by omega)) (.cons (isB8 (isZ (m := 0) rfl) (by omega) (by omega)) (.cons (isB8 (isZ (m := 0) rfl) (by omega) (by omega)) .nil)))))))) (denX rfl)) ?_
  refine hcons (kEqTS (isX rfl) (isX rfl) tu9 (decide_eq_true rfl)) ?_
  refine hcons (kConv8 (isX rfl) tu5 (denX rfl) rfl) ?_
  refine hcons (kBytesB (bs := [u8 (t % 256)]) (.cons (isB8 (isX rfl) (by omega) (by omega)) .nil) (denX rfl)) ?_
  refine hcons (kLenE (isX rfl) (denZ (m := 1) rfl) (by first | omega | (simp only [List.length_append, List.length_cons, List.length_nil, List.length_take, List.length_drop, Int.natCast_add] at *; omega))) ?_
  refine hcons (kCat (isX rfl) (isSx (l := [u8 0, u8 0, u8 0, u8 0, u8 0, u8 0, u8 0]) 7 0 rfl) (denX rfl) (by first | rfl | (simp only [List.append_assoc, List.cons_append, List.nil_append, List.append_nil]; done)) (by first | omega | (simp only [List.length_append, List.length_cons, List.length_nil, List.length_take, List.length_drop, Int.natCast_add] at *; omega))) ?_
  refine hcons (kBytesB (bs := [u8 (t % 256), u8 0, u8 0, u8 0, u8 0, u8 0, u8 0, u8 0]) (.cons (isB8 (isX rfl) (by omega) (by omega)) (.cons (isB8 (isZ (m := 0) rfl) (by omega) (by omega)) (.cons (isB8 (isZ (m := 0) rfl) (by omega) (by omega)) (.cons (isB8 (isZ (m := 0) rfl) (by omega) (by omega)) (.cons (isB8 (isZ (m := 0) rfl) (by omega) (by omega)) (.cons (isB8 (isZ (m := 0) rfl) (by omega) (by omega)) (.cons (isB8 (isZ (m := 0) rfl) (by omega) (by omega)) (.cons (isB8 (isZ (m := 0) rfl) (by omega) (by omega)) .nil)))))))) (denX rfl)) ?_
  refine hcons (kEqTS (isX rfl) (isX rfl) tu9 (decide_eq_true rfl)) ?_
  refine hcons (hokg53 rfl rfl (by omega) (by omega)) ?_
  refine hcons (hokg54 rfl rfl (by omega) (by omega)) ?_
  refine hcons (kEqS (isX rfl) (isX rfl) (decide_eq_true rfl)) ?_
  exact hnil
theorem path0 (id : Int) (ap : Int) (pr : Int) (t : Int) (rt : Int) (ri : Int) (c : List UInt8) (rp : Int) (b0 : -9223372036854775808 ≤ id) (b1 : id ≤ 9223372036854775807) (b2 : 0 ≤ ap) (b3 : ap ≤ 4294967295) (b4 : -9223372036854775808 ≤ pr) (b5 : pr ≤ 9223372036854775807) (b6 : -9223372036854775808 ≤ t) (b7 : t ≤ 9223372036854775807) (b8 : -9223372036854775808 ≤ rt) (b9 : rt ≤ 9223372036854775807) (b10 : -9223372036854775808 ≤ ri) (b11 : ri ≤ 9223372036854775807) (b12 : c.length ≤ 9223372036854775807) (b13 : -9223372036854775808 ≤ rp) (b14 : rp ≤ 9223372036854775807) (h0 : ¬ (200 < (c.length : Int))) (h1 : rt = 1) (h2 : (c.length : Int) = 8) (h3 : ¬ ((bt c 2) % 2 = 0)) (w : World) (hl : laidE w) : Calls Tryd.prog 7 #[.int .i64 id, .bool false, .agg #[.int .u32 ap, .int .i64 pr], .int .i64 t, .agg #[.int .i64 rt, .int .i64 ri, St' c, .int .i64 rp]] w fun e w' => e = .returned (.bool true) ∧ Go.AX.Below w.heap.size w w' := by
  obtain ⟨fi, hfi, hb⟩ : ∃ fi, tabk.fn.get 7 = some fi ∧ fi.body.isSome = true := ⟨_, rfl, by kernel_rfl⟩
  exact runP (tb := tab0) ((tabkOk (nuL (nu0 id ap pr t rt ri c rp)) (one0 id ap pr t rt ri c rp)).hyps (hyOk0 id ap pr t rt ri c rp b0 b1 b2 b3 b4 b5 b6 b7 b8 b9 b10 b11 b12 b13 b14 h0 h1 h2 h3)) rfl hfi hb (fun e => run0 e ) (args := [.int .i64 id, .bool false, .agg #[.int .u32 ap, .int .i64 pr], .int .i64 t, .agg #[.int .i64 rt, .int .i64 ri, St' c, .int .i64 rp]]) (by simp only [RelL, Rel]; exact ⟨_, _, rfl, rfl, ⟨_, _, rfl, rfl, ⟨_, _, rfl, ⟨_, rfl, ⟨_, _, rfl, rfl, ⟨_, _, rfl, rfl, rfl⟩⟩⟩, ⟨_, _, rfl, rfl, ⟨_, _, rfl, ⟨_, rfl, ⟨_, _, rfl, rfl, ⟨_, _, rfl, rfl, ⟨_, _, rfl, rfl, ⟨_, _, rfl, rfl, rfl⟩⟩⟩⟩⟩, rfl⟩⟩⟩⟩⟩) w hl
def hy1 : List (HK × AV) := [(.len (.x 6), .x 8),
  (.bin .gtr (.x 8) (.i .i64 (.ofNat 200)), .b false),
  (.bin .neq (.x 4) (.i .i64 (.ofNat 1)), .b false),
  (.bin .neq (.x 8) (.i .i64 (.ofNat 8)), .b false),
  (.idx (.x 6) (.i .i64 (.ofNat 0)), .x 9),
  (.conv 3 (.x 9), .x 10),
  (.bin .shl (.x 10) (.i .u64 (.ofNat 8)), .x 11),
  (.idx (.x 6) (.i .i64 (.ofNat 1)), .x 12),
  (.conv 3 (.x 12), .x 13),
  (.bin .or (.x 11) (.x 13), .x 14),
  (.idx (.x 6) (.i .i64 (.ofNat 2)), .x 15),
  (.bin .and (.x 15) (.i .u8 (.ofNat 1)), .x 16),
  (.bin .neq (.x 16) (.i .u8 (.ofNat 0)), .b false),
  (.bin .mul (.x 10) (.i .i64 (.ofNat 256)), .x 17),
  (.bin .add (.x 17) (.x 13), .x 18),
  (.bin .eql (.x 16) (.i .u8 (.ofNat 1)), .b false),
  (.bin .neq (.x 4) (.i .i64 (.ofNat 3)), .b true),
  (.eq 3 (.x 0) (.x 0), .b true),
  (.bin .eql (.x 14) (.x 18), .b true),
  (.bin .shr (.x 1) (.i .u64 (.ofNat 24)), .x 19),
  (.conv 5 (.x 19), .x 20),
  (.bin .shr (.x 1) (.i .u64 (.ofNat 16)), .x 21),
  (.conv 5 (.x 21), .x 22),
  (.bin .shr (.x 1) (.i .u64 (.ofNat 8)), .x 23),
  (.conv 5 (.x 23), .x 24),
  (.conv 5 (.x 1), .x 25),
  (.conv 5 (.x 2), .x 26),
  (.bytes [.x 20, .x 22, .x 24, .x 25, .x 26], .x 27),
  (.len (.x 27), .i .i64 (.ofNat 5)),
  (.bin .add (.x 27) (.s 3 0), .x 28),
  (.bytes [.x 20, .x 22, .x 24, .x 25, .x 26, .i .u8 (.ofNat 0), .i .u8 (.ofNat 0), .i .u8 (.ofNat 0)], .x 29),
  (.eq 9 (.x 28) (.x 29), .b true),
  (.conv 5 (.x 3), .x 30),
  (.bytes [.x 30], .x 31),
  (.len (.x 31), .i .i64 (.ofNat 1)),
  (.bin .add (.x 31) (.s 7 0), .x 32),
  (.bytes [.x 30, .i .u8 (.ofNat 0), .i .u8 (.ofNat 0), .i .u8 (.ofNat 0), .i .u8 (.ofNat 0), .i .u8 (.ofNat 0), .i .u8 (.ofNat 0), .i .u8 (.ofNat 0)], .x 33),
  (.eq 9 (.x 32) (.x 33), .b true),
  (.call 53 [.x 3], .x 34),
  (.call 54 [.x 3], .x 35),
  (.bin .eql (.x 34) (.x 35), .b true)]
noncomputable def tab1 : Tab := { tabk with hyp := hy1 }
theorem run1 (e : Nat) : okB (call tab1 9000 7 [.x 0, .b false, .ag [.x 1, .x 2], .x 3, .ag [.x 4, .x 5, .x 6, .x 7]] ⟨H0 e , 7, 0, 0⟩) = true := by kernel_rfl
def nu1 (id : Int) (ap : Int) (pr : Int) (t : Int) (rt : Int) (ri : Int) (c : List UInt8) (rp : Int) : List Value := [.int .i64 (id),
  .int .u32 (ap),
  .int .i64 (pr),
  .int .i64 (t),
  .int .i64 (rt),
  .int .i64 (ri),
  St' c,
  .int .i64 (rp),
  .int .i64 ((c.length : Int)),
  .int .u8 (bt c 0),
  .int .i64 (bt c 0),
  .int .i64 ((bt c 0) * 256),
  .int .u8 (bt c 1),
  .int .i64 (bt c 1),
  .int .i64 (((bt c 0) * 256) + (bt c 1)),
  .int .u8 (bt c 2),
  .int .u8 ((bt c 2) % 2),
  .int .i64 ((bt c 0) * 256),
  .int .i64 (((bt c 0) * 256) + (bt c 1)),
  .int .u32 (ap / 16777216),
  .int .u8 (ap / 16777216),
  .int .u32 (ap / 65536),
  .int .u8 ((ap / 65536) % 256),
  .int .u32 (ap / 256),
  .int .u8 ((ap / 256) % 256),
  .int .u8 (ap % 256),
  .int .u8 (pr % 256),
  St' ([u8 (ap / 16777216), u8 ((ap / 65536) % 256), u8 ((ap / 256) % 256), u8 (ap % 256), u8 (pr % 256)]),
  St' ([u8 (ap / 16777216), u8 ((ap / 65536) % 256), u8 ((ap / 256) % 256), u8 (ap % 256), u8 (pr % 256), u8 0, u8 0, u8 0]),
  St' ([u8 (ap / 16777216), u8 ((ap / 65536) % 256), u8 ((ap / 256) % 256), u8 (ap % 256), u8 (pr % 256), u8 0, u8 0, u8 0]),
  .int .u8 (t % 256),
  St' ([u8 (t % 256)]),
  St' ([u8 (t % 256), u8 0, u8 0, u8 0, u8 0, u8 0, u8 0, u8 0]),
  St' ([u8 (t % 256), u8 0, u8 0, u8 0, u8 0, u8 0, u8 0, u8 0]),
  St' ((nameL t)),
  St' ((nameL t))]
theorem one1 (id : Int) (ap : Int) (pr : Int) (t : Int) (rt : Int) (ri : Int) (c : List UInt8) (rp : Int) : ∀ j, (nuL (nu1 id ap pr t rt ri c rp) j).oneCell' = true := nuL_one (l := nu1 id ap pr t rt ri c rp) rfl
set_option maxHeartbeats 2000000 in
theorem hyOk1 (id : Int) (ap : Int) (pr : Int) (t : Int) (rt : Int) (ri : Int) (c : List UInt8) (rp : Int) (b0 : -9223372036854775808 ≤ id) (b1 : id ≤ 9223372036854775807) (b2 : 0 ≤ ap) (b3 : ap ≤ 4294967295) (b4 : -9223372036854775808 ≤ pr) (b5 : pr ≤ 9223372036854775807) (b6 : -9223372036854775808 ≤ t) (b7 : t ≤ 9223372036854775807) (b8 : -9223372036854775808 ≤ rt) (b9 : rt ≤ 9223372036854775807) (b10 : -9223372036854775808 ≤ ri) (b11 : ri ≤ 9223372036854775807) (b12 : c.length ≤ 9223372036854775807) (b13 : -9223372036854775808 ≤ rp) (b14 : rp ≤ 9223372036854775807) (h0 : ¬ (200 < (c.length : Int))) (h1 : rt = 1) (h2 : (c.length : Int) = 8) (h3 : (bt c 2) % 2 = 0) : ∀ k r, (k, r) ∈ hy1 → HOk (cx (nuL (nu1 id ap pr t rt ri c rp)) (one1 id ap pr t rt ri c rp) 1 laidE laidE_stab) k r := by
  have := bt_lo c 0; have := bt_hi c 0
  have := bt_lo c 1; have := bt_hi c 1
  have := bt_lo c 2; have := bt_hi c 2
  unfold hy1
  refine hcons (kLenE (isX rfl) (denX rfl) (by first | omega | (simp only [List.length_append, List.length_cons, List.length_nil, List.length_take, List.length_drop, Int.natCast_add] at *; omega))) ?_
  refine hcons (kGt (isX rfl) (isZ (m := 200) rfl) (decide_eq_false (by omega))) ?_
  refine hcons (kNeI (isX rfl) (isZ (m := 1) rfl) (neF (by omega))) ?_
  refine hcons (kNeI (isX rfl) (isZ (m := 8) rfl) (neF (by omega))) ?_
  refine hcons (kIdxE (i := 0) (isX rfl) (isZ (m := 0) rfl) (denX rfl) rfl (by first | omega | (simp only [List.length_append, List.length_cons, List.length_nil, List.length_take, List.length_drop, Int.natCast_add] at *; omega)) rfl) ?_
  refine hcons (kConvF (isX rfl) tu3 (denX rfl) (fI64 (by omega) (by omega))) ?_
  refine hcons (kShlM 8 256 rfl (isX rfl) (isZ (m := 8) rfl) (denX rfl) rfl (by decide) rfl (fI64 (by omega) (by omega))) ?_
  refine hcons (kIdxE (i := 1) (isX rfl) (isZ (m := 1) rfl) (denX rfl) rfl (by first | omega | (simp only [List.length_append, List.length_cons, List.length_nil, List.length_take, List.length_drop, Int.natCast_add] at *; omega)) rfl) ?_
  refine hcons (kConvF (isX rfl) tu3 (denX rfl) (fI64 (by omega) (by omega))) ?_
  refine hcons (kOrM 8 256 rfl (isX rfl) (isX rfl) (denX rfl) (by omega) (by omega) (fI64 (by omega) (by omega)) (fI64 (by omega) (by omega)) (by omega) (by omega) rfl (fI64 (by omega) (by omega))) ?_
  refine hcons (kIdxE (i := 2) (isX rfl) (isZ (m := 2) rfl) (denX rfl) rfl (by first | omega | (simp only [List.length_append, List.length_cons, List.length_nil, List.length_take, List.length_drop, Int.natCast_add] at *; omega)) rfl) ?_
  refine hcons (kAndM 1 2 rfl (isX rfl) (isZ (m := 1) rfl) (denX rfl) (by omega) (fU8 (by omega) (by omega)) (fU8 (by omega) (by omega)) rfl rfl) ?_
  refine hcons (kNeI (isX rfl) (isZ (m := 0) rfl) (neF (by omega))) ?_
  refine hcons (kMul (isX rfl) (isZ (m := 256) rfl) (denX rfl) rfl (fI64 (by omega) (by omega))) ?_
  refine hcons (kAdd (isX rfl) (isX rfl) (denX rfl) rfl (fI64 (by omega) (by omega))) ?_
  refine hcons (kEqI (isX rfl) (isZ (m := 1) rfl) (decide_eq_false (by omega))) ?_
  refine hcons (kNeI (isX rfl) (isZ (m := 3) rfl) (neT (by omega))) ?_
  refine hcons (kEqT (isX rfl) (isX rfl) tu3 (decide_eq_true (by omega))) ?_
  refine hcons (kEqI (isX rfl) (isX rfl) (decide_eq_true (by omega))) ?_
  refine hcons (kShrM 24 16777216 rfl (isX rfl) (isZ (m := 24) rfl) (denX rfl) rfl (by decide) (by omega) rfl) ?_
  refine hcons (kConvF (isX rfl) tu5 (denX rfl) (fU8 (by omega) (by omega))) ?_
  refine hcons (kShrM 16 65536 rfl (isX rfl) (isZ (m := 16) rfl) (denX rfl) rfl (by decide) (by omega) rfl) ?_
  refine hcons (kConv8 (isX rfl) tu5 (denX rfl) rfl) ?_
  refine hcons (kShrM 8 256 rfl (isX rfl) (isZ (m := 8) rfl) (denX rfl) rfl (by decide) (by omega) rfl) ?_
  refine hcons (kConv8 (isX rfl) tu5 (denX rfl) rfl) ?_
  refine hcons (kConv8 (isX rfl) tu5 (denX rfl) rfl) ?_
  refine hcons (kConv8 (isX rfl) tu5 (denX rfl) rfl) ?_
  refine hcons (kBytesB (bs := [u8 (ap / 16777216), u8 ((ap / 65536) % 256), u8 ((ap / 256) % 256), u8 (ap % 256), u8 (pr % 256)]) (.cons (isB8 (isX rfl) (by omega) (by omega)) (.cons (isB8 (isX rfl) (by omega) (by omega)) (.cons (isB8 (isX rfl) (by omega) (by omega)) (.cons (isB8 (isX rfl) (by omega) (by omega)) (.cons (isB8 (isX rfl) (by omega) (by omega)) .nil))))) (denX rfl)) ?_
  refine hcons (kLenE (isX rfl) (denZ (m := 5) rfl) (by first | omega | (simp only [List.length_append, List.length_cons, List.length_nil, List.length_take, List.length_drop, Int.natCast_add] at *; omega))) ?_
  refine hcons (kCat (isX rfl) (isSx (l := [u8 0, u8 0, u8 0]) 3 0 rfl) (denX rfl) (by first | rfl | (simp only [List.append_assoc, List.cons_append, List.nil_append, List.append_nil]; done)) (by first | omega | (simp only [List.length_append, List.length_cons, List.length_nil, List.length_take, List.length_drop, Int.natCast_add] at *; omega))) ?_
  refine hcons (kBytesB (bs := [u8 (ap / 16777216), u8 ((ap / 65536) % 256), u8 ((ap / 256) % 256), u8 (ap % 256), u8 (pr % 256), u8 0, u8 0, u8 0]) (.cons (isB8 (isX rfl) (by omega) (by omega)) (.cons (isB8 (isX rfl) (by omega) (by omega)) (.cons (isB8 (isX rfl) (by omega) (by omega)) (.cons (isB8 (isX rfl) (by omega) (by omega)) (.cons (isB8 (isX rfl) (by omega) (by omega)) (.cons (isB8 (isZ (m := 0) rfl) (by omega) (by omega)) (.cons (isB8 (isZ (m := 0) rfl) (by omega) (by omega)) (.cons (isB8 (isZ (m := 0) rfl) (by omega) (by omega)) .nil)))))))) (denX rfl)) ?_
  refine hcons (kEqTS (isX rfl) (isX rfl) tu9 (decide_eq_true rfl)) ?_
  refine hcons (kConv8 (isX rfl) tu5 (denX rfl) rfl) ?_
  refine hcons (kBytesB (bs := [u8 (t % 256)]) (.cons (isB8 (isX rfl) (by omega) (by omega)) .nil) (denX rfl)) ?_
  refine hcons (kLenE (isX rfl) (denZ (m := 1) rfl) (by first | omega | (simp only [List.length_append, List.length_cons, List.length_nil, List.length_take, List.length_drop, Int.natCast_add] at *; omega))) ?_
  refine hcons (kCat (isX rfl) (isSx (l := [u8 0, u8 0, u8 0, u8 0, u8 0, u8 0, u8 0]) 7 0 rfl) (denX rfl) (by first | rfl | (simp only [List.append_assoc, List.cons_append, List.nil_append, List.append_nil]; done)) (by first | omega | (simp only [List.length_append, List.length_cons, List.length_nil, List.length_take, List.length_drop, Int.natCast_add] at *; omega))) ?_
  refine hcons (kBytesB (bs := [u8 (t % 256), u8 0, u8 0, u8 0, u8 0, u8 0, u8 0, u8 0]) (.cons (isB8 (isX rfl) (by omega) (by omega)) (.cons (isB8 (isZ (m := 0) rfl) (by omega) (by omega)) (.cons (isB8 (isZ (m := 0) rfl) (by omega) (by omega)) (.cons (isB8 (isZ (m := 0) rfl) (by omega) (by omega)) (.cons (isB8 (isZ (m := 0) rfl) (by omega) (by omega)) (.cons (isB8 (isZ (m := 0) rfl) (by omega) (by omega)) (.cons (isB8 (isZ (m := 0) rfl) (by omega) (by omega)) (.cons (isB8 (isZ (m := 0) rfl) (by omega) (by omega)) .nil)))))))) (denX rfl)) ?_
  refine hcons (kEqTS (isX rfl) (isX rfl) tu9 (decide_eq_true rfl)) ?_
  refine hcons (hokg53 rfl rfl (by omega) (by omega)) ?_
  refine hcons (hokg54 rfl rfl (by omega) (by omega)) ?_
  refine hcons (kEqS (isX rfl) (isX rfl) (decide_eq_true rfl)) ?_
  exact hnil
theorem path1 (id : Int) (ap : Int) (pr : Int) (t : Int) (rt : Int) (ri : Int) (c : List UInt8) (rp : Int) (b0 : -9223372036854775808 ≤ id) (b1 : id ≤ 9223372036854775807) (b2 : 0 ≤ ap) (b3 : ap ≤ 4294967295) (b4 : -9223372036854775808 ≤ pr) (b5 : pr ≤ 9223372036854775807) (b6 : -9223372036854775808 ≤ t) (b7 : t ≤ 9223372036854775807) (b8 : -9223372036854775808 ≤ rt) (b9 : rt ≤ 9223372036854775807) (b10 : -9223372036854775808 ≤ ri) (b11 : ri ≤ 9223372036854775807) (b12 : c.length ≤ 9223372036854775807) (b13 : -9223372036854775808 ≤ rp) (b14 : rp ≤ 9223372036854775807) (h0 : ¬ (200 < (c.length : Int))) (h1 : rt = 1) (h2 : (c.length : Int) = 8) (h3 : (bt c 2) % 2 = 0) (w : World) (hl : laidE w) : Calls Tryd.prog 7 #[.int .i64 id, .bool false, .agg #[.int .u32 ap, .int .i64 pr], .int .i64 t, .agg #[.int .i64 rt, .int .i64 ri, St' c, .int .i64 rp]] w fun e w' => e = .returned (.bool true) ∧ Go.AX.Below w.heap.size w w' := by
  obtain ⟨fi, hfi, hb⟩ : ∃ fi, tabk.fn.get 7 = some fi ∧ fi.body.isSome = true := ⟨_, rfl, by kernel_rfl⟩
  exact runP (tb := tab1) ((tabkOk (nuL (nu1 id ap pr t rt ri c rp)) (one1 id ap pr t rt ri c rp)).hyps (hyOk1 id ap pr t rt ri c rp b0 b1 b2 b3 b4 b5 b6 b7 b8 b9 b10 b11 b12 b13 b14 h0 h1 h2 h3)) rfl hfi hb (fun e => run1 e ) (args := [.int .i64 id, .bool false, .agg #[.int .u32 ap, .int .i64 pr], .int .i64 t, .agg #[.int .i64 rt, .int .i64 ri, St' c, .int .i64 rp]]) (by simp only [RelL, Rel]; exact ⟨_, _, rfl, rfl, ⟨_, _, rfl, rfl, ⟨_, _, rfl, ⟨_, rfl, ⟨_, _, rfl, rfl, ⟨_, _, rfl, rfl, rfl⟩⟩⟩, ⟨_, _, rfl, rfl, ⟨_, _, rfl, ⟨_, rfl, ⟨_, _, rfl, rfl, ⟨_, _, rfl, rfl, ⟨_, _, rfl, rfl, ⟨_, _, rfl, rfl, rfl⟩⟩⟩⟩⟩, rfl⟩⟩⟩⟩⟩) w hl
def hy2 : List (HK × AV) := [(.len (.x 6), .x 8),
  (.bin .gtr (.x 8) (.i .i64 (.ofNat 200)), .b false),
  (.bin .neq (.x 4) (.i .i64 (.ofNat 1)), .b false),
  (.bin .neq (.x 8) (.i .i64 (.ofNat 8)), .b true),
  (.bin .neq (.x 4) (.i .i64 (.ofNat 3)), .b true),
  (.eq 3 (.x 0) (.x 0), .b true),
  (.bin .shr (.x 1) (.i .u64 (.ofNat 24)), .x 9),
  (.conv 5 (.x 9), .x 10),
  (.bin .shr (.x 1) (.i .u64 (.ofNat 16)), .x 11),
  (.conv 5 (.x 11), .x 12),
  (.bin .shr (.x 1) (.i .u64 (.ofNat 8)), .x 13),
  (.conv 5 (.x 13), .x 14),
  (.conv 5 (.x 1), .x 15),
  (.conv 5 (.x 2), .x 16),
  (.bytes [.x 10, .x 12, .x 14, .x 15, .x 16], .x 17),
  (.len (.x 17), .i .i64 (.ofNat 5)),
  (.bin .add (.x 17) (.s 3 0), .x 18),
  (.bytes [.x 10, .x 12, .x 14, .x 15, .x 16, .i .u8 (.ofNat 0), .i .u8 (.ofNat 0), .i .u8 (.ofNat 0)], .x 19),
  (.eq 9 (.x 18) (.x 19), .b true),
  (.conv 5 (.x 3), .x 20),
  (.bytes [.x 20], .x 21),
  (.len (.x 21), .i .i64 (.ofNat 1)),
  (.bin .add (.x 21) (.s 7 0), .x 22),
  (.bytes [.x 20, .i .u8 (.ofNat 0), .i .u8 (.ofNat 0), .i .u8 (.ofNat 0), .i .u8 (.ofNat 0), .i .u8 (.ofNat 0), .i .u8 (.ofNat 0), .i .u8 (.ofNat 0)], .x 23),
  (.eq 9 (.x 22) (.x 23), .b true),
  (.call 53 [.x 3], .x 24),
  (.call 54 [.x 3], .x 25),
  (.bin .eql (.x 24) (.x 25), .b true)]
noncomputable def tab2 : Tab := { tabk with hyp := hy2 }
theorem run2 (e : Nat) : okB (call tab2 9000 7 [.x 0, .b false, .ag [.x 1, .x 2], .x 3, .ag [.x 4, .x 5, .x 6, .x 7]] ⟨H0 e , 7, 0, 0⟩) = true := by kernel_rfl
def nu2 (id : Int) (ap : Int) (pr : Int) (t : Int) (rt : Int) (ri : Int) (c : List UInt8) (rp : Int) : List Value := [.int .i64 (id),
  .int .u32 (ap),
  .int .i64 (pr),
  .int .i64 (t),
  .int .i64 (rt),
  .int .i64 (ri),
  St' c,
  .int .i64 (rp),
  .int .i64 ((c.length : Int)),
  .int .u32 (ap / 16777216),
  .int .u8 (ap / 16777216),
  .int .u32 (ap / 65536),
  .int .u8 ((ap / 65536) % 256),
  .int .u32 (ap / 256),
  .int .u8 ((ap / 256) % 256),
  .int .u8 (ap % 256),
  .int .u8 (pr % 256),
  St' ([u8 (ap / 16777216), u8 ((ap / 65536) % 256), u8 ((ap / 256) % 256), u8 (ap % 256), u8 (pr % 256)]),
  St' ([u8 (ap / 16777216), u8 ((ap / 65536) % 256), u8 ((ap / 256) % 256), u8 (ap % 256), u8 (pr % 256), u8 0, u8 0, u8 0]),
  St' ([u8 (ap / 16777216), u8 ((ap / 65536) % 256), u8 ((ap / 256) % 256), u8 (ap % 256), u8 (pr % 256), u8 0, u8 0, u8 0]),
  .int .u8 (t % 256),
  St' ([u8 (t % 256)]),
  St' ([u8 (t % 256), u8 0, u8 0, u8 0, u8 0, u8 0, u8 0, u8 0]),
  St' ([u8 (t % 256), u8 0, u8 0, u8 0, u8 0, u8 0, u8 0, u8 0]),
  St' ((nameL t)),
  St' ((nameL t))]
theorem one2 (id : Int) (ap : Int) (pr : Int) (t : Int) (rt : Int) (ri : Int) (c : List UInt8) (rp : Int) : ∀ j, (nuL (nu2 id ap pr t rt ri c rp) j).oneCell' = true := nuL_one (l := nu2 id ap pr t rt ri c rp) rfl
set_option maxHeartbeats 2000000 in
theorem hyOk2 (id : Int) (ap : Int) (pr : Int) (t : Int) (rt : Int) (ri : Int) (c : List UInt8) (rp : Int) (b0 : -9223372036854775808 ≤ id) (b1 : id ≤ 9223372036854775807) (b2 : 0 ≤ ap) (b3 : ap ≤ 4294967295) (b4 : -9223372036854775808 ≤ pr) (b5 : pr ≤ 9223372036854775807) (b6 : -9223372036854775808 ≤ t) (b7 : t ≤ 9223372036854775807) (b8 : -9223372036854775808 ≤ rt) (b9 : rt ≤ 9223372036854775807) (b10 : -9223372036854775808 ≤ ri) (b11 : ri ≤ 9223372036854775807) (b12 : c.length ≤ 9223372036854775807) (b13 : -9223372036854775808 ≤ rp) (b14 : rp ≤ 9223372036854775807) (h0 : ¬ (200 < (c.length : Int))) (h1 : rt = 1) (h2 : ¬ ((c.length : Int) = 8)) : ∀ k r, (k, r) ∈ hy2 → HOk (cx (nuL (nu2 id ap pr t rt ri c rp)) (one2 id ap pr t rt ri c rp) 1 laidE laidE_stab) k r := by
  unfold hy2
  refine hcons (kLenE (isX rfl) (denX rfl) (by first | omega | (simp only [List.length_append, List.length_cons, List.length_nil, List.length_take, List.length_drop, Int.natCast_add] at *; omega))) ?_
  refine hcons (kGt (isX rfl) (isZ (m := 200) rfl) (decide_eq_false (by omega))) ?_
  refine hcons (kNeI (isX rfl) (isZ (m := 1) rfl) (neF (by omega))) ?_
  refine hcons (kNeI (isX rfl) (isZ (m := 8) rfl) (neT (by omega))) ?_
  refine hcons (kNeI (isX rfl) (isZ (m := 3) rfl) (neT (by omega))) ?_
  refine hcons (kEqT (isX rfl) (isX rfl) tu3 (decide_eq_true (by omega))) ?_
  refine hcons (kShrM 24 16777216 rfl (isX rfl) (isZ (m := 24) rfl) (denX rfl) rfl (by decide) (by omega) rfl) ?_
  refine hcons (kConvF (isX rfl) tu5 (denX rfl) (fU8 (by omega) (by omega))) ?_
  refine hcons (kShrM 16 65536 rfl (isX rfl) (isZ (m := 16) rfl) (denX rfl) rfl (by decide) (by omega) rfl) ?_
  refine hcons (kConv8 (isX rfl) tu5 (denX rfl) rfl) ?_
  refine hcons (kShrM 8 256 rfl (isX rfl) (isZ (m := 8) rfl) (denX rfl) rfl (by decide) (by omega) rfl) ?_
  refine hcons (kConv8 (isX rfl) tu5 (denX rfl) rfl) ?_
  refine hcons (kConv8 (isX rfl) tu5 (denX rfl) rfl) ?_
  refine hcons (kConv8 (isX rfl) tu5 (denX rfl) rfl) ?_
  refine hcons (kBytesB (bs := [u8 (ap / 16777216), u8 ((ap / 65536) % 256), u8 ((ap / 256) % 256), u8 (ap % 256), u8 (pr % 256)]) (.cons (isB8 (isX rfl) (by omega) (by omega)) (.cons (isB8 (isX rfl) (by omega) (by omega)) (.cons (isB8 (isX rfl) (by omega) (by omega)) (.cons (isB8 (isX rfl) (by omega) (by omega)) (.cons (isB8 (isX rfl) (by omega) (by omega)) .nil))))) (denX rfl)) ?_
  refine hcons (kLenE (isX rfl) (denZ (m := 5) rfl) (by first | omega | (simp only [List.length_append, List.length_cons, List.length_nil, List.length_take, List.length_drop, Int.natCast_add] at *; omega))) ?_
  refine hcons (kCat (isX rfl) (isSx (l := [u8 0, u8 0, u8 0]) 3 0 rfl) (denX rfl) (by first | rfl | (simp only [List.append_assoc, List.cons_append, List.nil_append, List.append_nil]; done)) (by first | omega | (simp only [List.length_append, List.length_cons, List.length_nil, List.length_take, List.length_drop, Int.natCast_add] at *; omega))) ?_
  refine hcons (kBytesB (bs := [u8 (ap / 16777216), u8 ((ap / 65536) % 256), u8 ((ap / 256) % 256), u8 (ap % 256), u8 (pr % 256), u8 0, u8 0, u8 0]) (.cons (isB8 (isX rfl) (by omega) (by omega)) (.cons (isB8 (isX rfl) (by omega) (by omega)) (.cons (isB8 (isX rfl) (by omega) (by omega)) (.cons (isB8 (isX rfl) (by omega) (by omega)) (.cons (isB8 (isX rfl) (by omega) (by omega)) (.cons (isB8 (isZ (m := 0) rfl) (by omega) (by omega)) (.cons (isB8 (isZ (m := 0) rfl) (by omega) (by omega)) (.cons (isB8 (isZ (m := 0) rfl) (by omega) (by omega)) .nil)))))))) (denX rfl)) ?_
  refine hcons (kEqTS (isX rfl) (isX rfl) tu9 (decide_eq_true rfl)) ?_
  refine hcons (kConv8 (isX rfl) tu5 (denX rfl) rfl) ?_
  refine hcons (kBytesB (bs := [u8 (t % 256)]) (.cons (isB8 (isX rfl) (by omega) (by omega)) .nil) (denX rfl)) ?_
  refine hcons (kLenE (isX rfl) (denZ (m := 1) rfl) (by first | omega | (simp only [List.length_append, List.length_cons, List.length_nil, List.length_take, List.length_drop, Int.natCast_add] at *; omega))) ?_
  refine hcons (kCat (isX rfl) (isSx (l := [u8 0, u8 0, u8 0, u8 0, u8 0, u8 0, u8 0]) 7 0 rfl) (denX rfl) (by first | rfl | (simp only [List.append_assoc, List.cons_append, List.nil_append, List.append_nil]; done)) (by first | omega | (simp only [List.length_append, List.length_cons, List.length_nil, List.length_take, List.length_drop, Int.natCast_add] at *; omega))) ?_
  refine hcons (kBytesB (bs := [u8 (t % 256), u8 0, u8 0, u8 0, u8 0, u8 0, u8 0, u8 0]) (.cons (isB8 (isX rfl) (by omega) (by omega)) (.cons (isB8 (isZ (m := 0) rfl) (by omega) (by omega)) (.cons (isB8 (isZ (m := 0) rfl) (by omega) (by omega)) (.cons (isB8 (isZ (m := 0) rfl) (by omega) (by omega)) (.cons (isB8 (isZ (m := 0) rfl) (by omega) (by omega)) (.cons (isB8 (isZ (m := 0) rfl) (by omega) (by omega)) (.cons (isB8 (isZ (m := 0) rfl) (by omega) (by omega)) (.cons (isB8 (isZ (m := 0) rfl) (by omega) (by omega)) .nil)))))))) (denX rfl)) ?_
  refine hcons (kEqTS (isX rfl) (isX rfl) tu9 (decide_eq_true rfl)) ?_
  refine hcons (hokg53 rfl rfl (by omega) (by omega)) ?_
  refine hcons (hokg54 rfl rfl (by omega) (by omega)) ?_
  refine hcons (kEqS (isX rfl) (isX rfl) (decide_eq_true rfl)) ?_
  exact hnil
theorem path2 (id : Int) (ap : Int) (pr : Int) (t : Int) (rt : Int) (ri : Int) (c : List UInt8) (rp : Int) (b0 : -9223372036854775808 ≤ id) (b1 : id ≤ 9223372036854775807) (b2 : 0 ≤ ap) (b3 : ap ≤ 4294967295) (b4 : -9223372036854775808 ≤ pr) (b5 : pr ≤ 9223372036854775807) (b6 : -9223372036854775808 ≤ t) (b7 : t ≤ 9223372036854775807) (b8 : -9223372036854775808 ≤ rt) (b9 : rt ≤ 9223372036854775807) (b10 : -9223372036854775808 ≤ ri) (b11 : ri ≤ 9223372036854775807) (b12 : c.length ≤ 9223372036854775807) (b13 : -9223372036854775808 ≤ rp) (b14 : rp ≤ 9223372036854775807) (h0 : ¬ (200 < (c.length : Int))) (h1 : rt = 1) (h2 : ¬ ((c.length : Int) = 8)) (w : World) (hl : laidE w) : Calls Tryd.prog 7 #[.int .i64 id, .bool false, .agg #[.int .u32 ap, .int .i64 pr], .int .i64 t, .agg #[.int .i64 rt, .int .i64 ri, St' c, .int .i64 rp]] w fun e w' => e = .returned (.bool true) ∧ Go.AX.Below w.heap.size w w' := by
  obtain ⟨fi, hfi, hb⟩ : ∃ fi, tabk.fn.get 7 = some fi ∧ fi.body.isSome = true := ⟨_, rfl, by kernel_rfl⟩
  exact runP (tb := tab2) ((tabkOk (nuL (nu2 id ap pr t rt ri c rp)) (one2 id ap pr t rt ri c rp)).hyps (hyOk2 id ap pr t rt ri c rp b0 b1 b2 b3 b4 b5 b6 b7 b8 b9 b10 b11 b12 b13 b14 h0 h1 h2)) rfl hfi hb (fun e => run2 e ) (args := [.int .i64 id, .bool false, .agg #[.int .u32 ap, .int .i64 pr], .int .i64 t, .agg #[.int .i64 rt, .int .i64 ri, St' c, .int .i64 rp]]) (by simp only [RelL, Rel]; exact ⟨_, _, rfl, rfl, ⟨_, _, rfl, rfl, ⟨_, _, rfl, ⟨_, rfl, ⟨_, _, rfl, rfl, ⟨_, _, rfl, rfl, rfl⟩⟩⟩, ⟨_, _, rfl, rfl, ⟨_, _, rfl, ⟨_, rfl, ⟨_, _, rfl, rfl, ⟨_, _, rfl, rfl, ⟨_, _, rfl, rfl, ⟨_, _, rfl, rfl, rfl⟩⟩⟩⟩⟩, rfl⟩⟩⟩⟩⟩) w hl
def hy3 : List (HK × AV) := [(.len (.x 6), .x 8),
  (.bin .gtr (.x 8) (.i .i64 (.ofNat 200)), .b true)]
noncomputable def tab3 : Tab := { tabk with hyp := hy3 }
theorem run3 (e : Nat) : okB (call tab3 9000 7 [.x 0, .b false, .ag [.x 1, .x 2], .x 3, .ag [.x 4, .x 5, .x 6, .x 7]] ⟨H0 e , 7, 0, 0⟩) = true := by kernel_rfl
def nu3 (id : Int) (ap : Int) (pr : Int) (t : Int) (rt : Int) (ri : Int) (c : List UInt8) (rp : Int) : List Value := [.int .i64 (id),
  .int .u32 (ap),
  .int .i64 (pr),
  .int .i64 (t),
  .int .i64 (rt),
  .int .i64 (ri),
  St' c,
  .int .i64 (rp),
  .int .i64 ((c.length : Int))]
theorem one3 (id : Int) (ap : Int) (pr : Int) (t : Int) (rt : Int) (ri : Int) (c : List UInt8) (rp : Int) : ∀ j, (nuL (nu3 id ap pr t rt ri c rp) j).oneCell' = true := nuL_one (l := nu3 id ap pr t rt ri c rp) rfl
set_option maxHeartbeats 2000000 in
theorem hyOk3 (id : Int) (ap : Int) (pr : Int) (t : Int) (rt : Int) (ri : Int) (c : List UInt8) (rp : Int) (b0 : -9223372036854775808 ≤ id) (b1 : id ≤ 9223372036854775807) (b2 : 0 ≤ ap) (b3 : ap ≤ 4294967295) (b4 : -9223372036854775808 ≤ pr) (b5 : pr ≤ 9223372036854775807) (b6 : -9223372036854775808 ≤ t) (b7 : t ≤ 9223372036854775807) (b8 : -9223372036854775808 ≤ rt) (b9 : rt ≤ 9223372036854775807) (b10 : -9223372036854775808 ≤ ri) (b11 : ri ≤ 9223372036854775807) (b12 : c.length ≤ 9223372036854775807) (b13 : -9223372036854775808 ≤ rp) (b14 : rp ≤ 9223372036854775807) (h0 : 200 < (c.length : Int)) : ∀ k r, (k, r) ∈ hy3 → HOk (cx (nuL (nu3 id ap pr t rt ri c rp)) (one3 id ap pr t rt ri c rp) 1 laidE laidE_stab) k r := by
  unfold hy3
  refine hcons (kLenE (isX rfl) (denX rfl) (by first | omega | (simp only [List.length_append, List.length_cons, List.length_nil, List.length_take, List.length_drop, Int.natCast_add] at *; omega))) ?_
  refine hcons (kGt (isX rfl) (isZ (m := 200) rfl) (decide_eq_true (by omega))) ?_
  exact hnil
theorem path3 (id : Int) (ap : Int) (pr : Int) (t : Int) (rt : Int) (ri : Int) (c : List UInt8) (rp : Int) (b0 : -9223372036854775808 ≤ id) (b1 : id ≤ 9223372036854775807) (b2 : 0 ≤ ap) (b3 : ap ≤ 4294967295) (b4 : -9223372036854775808 ≤ pr) (b5 : pr ≤ 9223372036854775807) (b6 : -9223372036854775808 ≤ t) (b7 : t ≤ 9223372036854775807) (b8 : -9223372036854775808 ≤ rt) (b9 : rt ≤ 9223372036854775807) (b10 : -9223372036854775808 ≤ ri) (b11 : ri ≤ 9223372036854775807) (b12 : c.length ≤ 9223372036854775807) (b13 : -9223372036854775808 ≤ rp) (b14 : rp ≤ 9223372036854775807) (h0 : 200 < (c.length : Int)) (w : World) (hl : laidE w) : Calls Tryd.prog 7 #[.int .i64 id, .bool false, .agg #[.int .u32 ap, .int .i64 pr], .int .i64 t, .agg #[.int .i64 rt, .int .i64 ri, St' c, .int .i64 rp]] w fun e w' => e = .returned (.bool true) ∧ Go.AX.Below w.heap.size w w' := by
  obtain ⟨fi, hfi, hb⟩ : ∃ fi, tabk.fn.get 7 = some fi ∧ fi.body.isSome = true := ⟨_, rfl, by kernel_rfl⟩
  exact runP (tb := tab3) ((tabkOk (nuL (nu3 id ap pr t rt ri c rp)) (one3 id ap pr t rt ri c rp)).hyps (hyOk3 id ap pr t rt ri c rp b0 b1 b2 b3 b4 b5 b6 b7 b8 b9 b10 b11 b12 b13 b14 h0)) rfl hfi hb (fun e => run3 e ) (args := [.int .i64 id, .bool false, .agg #[.int .u32 ap, .int .i64 pr], .int .i64 t, .agg #[.int .i64 rt, .int .i64 ri, St' c, .int .i64 rp]]) (by simp only [RelL, Rel]; exact ⟨_, _, rfl, rfl, ⟨_, _, rfl, rfl, ⟨_, _, rfl, ⟨_, rfl, ⟨_, _, rfl, rfl, ⟨_, _, rfl, rfl, rfl⟩⟩⟩, ⟨_, _, rfl, rfl, ⟨_, _, rfl, ⟨_, rfl, ⟨_, _, rfl, rfl, ⟨_, _, rfl, rfl, ⟨_, _, rfl, rfl, ⟨_, _, rfl, rfl, rfl⟩⟩⟩⟩⟩, rfl⟩⟩⟩⟩⟩) w hl
def hy4 : List (HK × AV) := [(.len (.x 6), .x 8),
  (.bin .gtr (.x 8) (.i .i64 (.ofNat 200)), .b false),
  (.bin .neq (.x 4) (.i .i64 (.ofNat 1)), .b true),
  (.bin .neq (.x 4) (.i .i64 (.ofNat 3)), .b false),
  (.bin .neq (.x 8) (.i .i64 (.ofNat 8)), .b false),
  (.idx (.x 6) (.i .i64 (.ofNat 0)), .x 9),
  (.conv 56 (.x 9), .x 10),
  (.bin .shl (.x 10) (.i .u64 (.ofNat 24)), .x 11),
  (.idx (.x 6) (.i .i64 (.ofNat 1)), .x 12),
  (.conv 56 (.x 12), .x 13),
  (.bin .shl (.x 13) (.i .u64 (.ofNat 16)), .x 14),
  (.bin .or (.x 11) (.x 14), .x 15),
  (.idx (.x 6) (.i .i64 (.ofNat 2)), .x 16),
  (.conv 56 (.x 16), .x 17),
  (.bin .shl (.x 17) (.i .u64 (.ofNat 8)), .x 18),
  (.bin .or (.x 15) (.x 18), .x 19),
  (.idx (.x 6) (.i .i64 (.ofNat 3)), .x 20),
  (.conv 56 (.x 20), .x 21),
  (.bin .or (.x 19) (.x 21), .x 22),
  (.idx (.x 6) (.i .i64 (.ofNat 4)), .x 23),
  (.conv 3 (.x 23), .x 24),
  (.eq 3 (.x 0) (.x 0), .b true),
  (.bin .shr (.x 1) (.i .u64 (.ofNat 24)), .x 25),
  (.conv 5 (.x 25), .x 26),
  (.bin .shr (.x 1) (.i .u64 (.ofNat 16)), .x 27),
  (.conv 5 (.x 27), .x 28),
  (.bin .shr (.x 1) (.i .u64 (.ofNat 8)), .x 29),
  (.conv 5 (.x 29), .x 30),
  (.conv 5 (.x 1), .x 31),
  (.conv 5 (.x 2), .x 32),
  (.bytes [.x 26, .x 28, .x 30, .x 31, .x 32], .x 33),
  (.len (.x 33), .i .i64 (.ofNat 5)),
  (.bin .add (.x 33) (.s 3 0), .x 34),
  (.bytes [.x 26, .x 28, .x 30, .x 31, .x 32, .i .u8 (.ofNat 0), .i .u8 (.ofNat 0), .i .u8 (.ofNat 0)], .x 35),
  (.eq 9 (.x 34) (.x 35), .b true),
  (.eq 56 (.x 22) (.x 22), .b true),
  (.eq 3 (.x 24) (.x 24), .b true),
  (.conv 5 (.x 3), .x 36),
  (.bytes [.x 36], .x 37),
  (.len (.x 37), .i .i64 (.ofNat 1)),
  (.bin .add (.x 37) (.s 7 0), .x 38),
  (.bytes [.x 36, .i .u8 (.ofNat 0), .i .u8 (.ofNat 0), .i .u8 (.ofNat 0), .i .u8 (.ofNat 0), .i .u8 (.ofNat 0), .i .u8 (.ofNat 0), .i .u8 (.ofNat 0)], .x 39),
  (.eq 9 (.x 38) (.x 39), .b true),
  (.call 53 [.x 3], .x 40),
  (.call 54 [.x 3], .x 41),
  (.bin .eql (.x 40) (.x 41), .b true)]
noncomputable def tab4 : Tab := { tabk with hyp := hy4 }
theorem run4 (e : Nat) : okB (call tab4 9000 7 [.x 0, .b false, .ag [.x 1, .x 2], .x 3, .ag [.x 4, .x 5, .x 6, .x 7]] ⟨H0 e , 7, 0, 0⟩) = true := by kernel_rfl
def nu4 (id : Int) (ap : Int) (pr : Int) (t : Int) (rt : Int) (ri : Int) (c : List UInt8) (rp : Int) : List Value := [.int .i64 (id),
  .int .u32 (ap),
  .int .i64 (pr),
  .int .i64 (t),
  .int .i64 (rt),
  .int .i64 (ri),
  St' c,
  .int .i64 (rp),
  .int .i64 ((c.length : Int)),
  .int .u8 (bt c 0),
  .int .u32 (bt c 0),
  .int .u32 ((bt c 0) * 16777216),
  .int .u8 (bt c 1),
  .int .u32 (bt c 1),
  .int .u32 ((bt c 1) * 65536),
  .int .u32 (((bt c 0) * 16777216) + ((bt c 1) * 65536)),
  .int .u8 (bt c 2),
  .int .u32 (bt c 2),
  .int .u32 ((bt c 2) * 256),
  .int .u32 ((((bt c 0) * 16777216) + ((bt c 1) * 65536)) + ((bt c 2) * 256)),
  .int .u8 (bt c 3),
  .int .u32 (bt c 3),
  .int .u32 (((((bt c 0) * 16777216) + ((bt c 1) * 65536)) + ((bt c 2) * 256)) + (bt c 3)),
  .int .u8 (bt c 4),
  .int .i64 (bt c 4),
  .int .u32 (ap / 16777216),
  .int .u8 (ap / 16777216),
  .int .u32 (ap / 65536),
  .int .u8 ((ap / 65536) % 256),
  .int .u32 (ap / 256),
  .int .u8 ((ap / 256) % 256),
  .int .u8 (ap % 256),
  .int .u8 (pr % 256),
  St' ([u8 (ap / 16777216), u8 ((ap / 65536) % 256), u8 ((ap / 256) % 256), u8 (ap % 256), u8 (pr % 256)]),
  St' ([u8 (ap / 16777216), u8 ((ap / 65536) % 256), u8 ((ap / 256) % 256), u8 (ap % 256), u8 (pr % 256), u8 0, u8 0, u8 0]),
  St' ([u8 (ap / 16777216), u8 ((ap / 65536) % 256), u8 ((ap / 256) % 256), u8 (ap % 256), u8 (pr % 256), u8 0, u8 0, u8 0]),
  .int .u8 (t % 256),
  St' ([u8 (t % 256)]),
  St' ([u8 (t % 256), u8 0, u8 0, u8 0, u8 0, u8 0, u8 0, u8 0]),
  St' ([u8 (t % 256), u8 0, u8 0, u8 0, u8 0, u8 0, u8 0, u8 0]),
  St' ((nameL t)),
  St' ((nameL t))]
theorem one4 (id : Int) (ap : Int) (pr : Int) (t : Int) (rt : Int) (ri : Int) (c : List UInt8) (rp : Int) : ∀ j, (nuL (nu4 id ap pr t rt ri c rp) j).oneCell' = true := nuL_one (l := nu4 id ap pr t rt ri c rp) rfl
set_option maxHeartbeats 2000000 in
theorem hyOk4 (id : Int) (ap : Int) (pr : Int) (t : Int) (rt : Int) (ri : Int) (c : List UInt8) (rp : Int) (b0 : -9223372036854775808 ≤ id) (b1 : id ≤ 9223372036854775807) (b2 : 0 ≤ ap) (b3 : ap ≤ 4294967295) (b4 : -9223372036854775808 ≤ pr) (b5 : pr ≤ 9223372036854775807) (b6 : -9223372036854775808 ≤ t) (b7 : t ≤ 9223372036854775807) (b8 : -9223372036854775808 ≤ rt) (b9 : rt ≤ 9223372036854775807) (b10 : -9223372036854775808 ≤ ri) (b11 : ri ≤ 9223372036854775807) (b12 : c.length ≤ 9223372036854775807) (b13 : -9223372036854775808 ≤ rp) (b14 : rp ≤ 9223372036854775807) (h0 : ¬ (200 < (c.length : Int))) (h1 : ¬ (rt = 1)) (h2 : rt = 3) (h3 : (c.length : Int) = 8) : ∀ k r, (k, r) ∈ hy4 → HOk (cx (nuL (nu4 id ap pr t rt ri c rp)) (one4 id ap pr t rt ri c rp) 1 laidE laidE_stab) k r := by
  have := bt_lo c 0; have := bt_hi c 0
  have := bt_lo c 1; have := bt_hi c 1
  have := bt_lo c 2; have := bt_hi c 2
  have := bt_lo c 3; have := bt_hi c 3
  have := bt_lo c 4; have := bt_hi c 4
  unfold hy4
  refine hcons (kLenE (isX rfl) (denX rfl) (by first | omega | (simp only [List.length_append, List.length_cons, List.length_nil, List.length_take, List.length_drop, Int.natCast_add] at *; omega))) ?_
  refine hcons (kGt (isX rfl) (isZ (m := 200) rfl) (decide_eq_false (by omega))) ?_
  refine hcons (kNeI (isX rfl) (isZ (m := 1) rfl) (neT (by omega))) ?_
  refine hcons (kNeI (isX rfl) (isZ (m := 3) rfl) (neF (by omega))) ?_
  refine hcons (kNeI (isX rfl) (isZ (m := 8) rfl) (neF (by omega))) ?_
  refine hcons (kIdxE (i := 0) (isX rfl) (isZ (m := 0) rfl) (denX rfl) rfl (by first | omega | (simp only [List.length_append, List.length_cons, List.length_nil, List.length_take, List.length_drop, Int.natCast_add] at *; omega)) rfl) ?_
  refine hcons (kConvF (isX rfl) tu56 (denX rfl) (fU32 (by omega) (by omega))) ?_
  refine hcons (kShlM 24 16777216 rfl (isX rfl) (isZ (m := 24) rfl) (denX rfl) rfl (by decide) rfl (fU32 (by omega) (by omega))) ?_
  refine hcons (kIdxE (i := 1) (isX rfl) (isZ (m := 1) rfl) (denX rfl) rfl (by first | omega | (simp only [List.length_append, List.length_cons, List.length_nil, List.length_take, List.length_drop, Int.natCast_add] at *; omega)) rfl) ?_
  refine hcons (kConvF (isX rfl) tu56 (denX rfl) (fU32 (by omega) (by omega))) ?_
  refine hcons (kShlM 16 65536 rfl (isX rfl) (isZ (m := 16) rfl) (denX rfl) rfl (by decide) rfl (fU32 (by omega) (by omega))) ?_
  refine hcons (kOrM 24 16777216 rfl (isX rfl) (isX rfl) (denX rfl) (by omega) (by omega) (fU32 (by omega) (by omega)) (fU32 (by omega) (by omega)) (by omega) (by omega) rfl (fU32 (by omega) (by omega))) ?_
  refine hcons (kIdxE (i := 2) (isX rfl) (isZ (m := 2) rfl) (denX rfl) rfl (by first | omega | (simp only [List.length_append, List.length_cons, List.length_nil, List.length_take, List.length_drop, Int.natCast_add] at *; omega)) rfl) ?_
  refine hcons (kConvF (isX rfl) tu56 (denX rfl) (fU32 (by omega) (by omega))) ?_
  refine hcons (kShlM 8 256 rfl (isX rfl) (isZ (m := 8) rfl) (denX rfl) rfl (by decide) rfl (fU32 (by omega) (by omega))) ?_
  refine hcons (kOrM 16 65536 rfl (isX rfl) (isX rfl) (denX rfl) (by omega) (by omega) (fU32 (by omega) (by omega)) (fU32 (by omega) (by omega)) (by omega) (by omega) rfl (fU32 (by omega) (by omega))) ?_
  refine hcons (kIdxE (i := 3) (isX rfl) (isZ (m := 3) rfl) (denX rfl) rfl (by first | omega | (simp only [List.length_append, List.length_cons, List.length_nil, List.length_take, List.length_drop, Int.natCast_add] at *; omega)) rfl) ?_
  refine hcons (kConvF (isX rfl) tu56 (denX rfl) (fU32 (by omega) (by omega))) ?_
  refine hcons (kOrM 8 256 rfl (isX rfl) (isX rfl) (denX rfl) (by omega) (by omega) (fU32 (by omega) (by omega)) (fU32 (by omega) (by omega)) (by omega) (by omega) rfl (fU32 (by omega) (by omega))) ?_
  refine hcons (kIdxE (i := 4) (isX rfl) (isZ (m := 4) rfl) (denX rfl) rfl (by first | omega | (simp only [List.length_append, List.length_cons, List.length_nil, List.length_take, List.length_drop, Int.natCast_add] at *; omega)) rfl) ?_
  refine hcons (kConvF (isX rfl) tu3 (denX rfl) (fI64 (by omega) (by omega))) ?_
  refine hcons (kEqT (isX rfl) (isX rfl) tu3 (decide_eq_true (by omega))) ?_
  refine hcons (kShrM 24 16777216 rfl (isX rfl) (isZ (m := 24) rfl) (denX rfl) rfl (by decide) (by omega) rfl) ?_
  refine hcons (kConvF (isX rfl) tu5 (denX rfl) (fU8 (by omega) (by omega))) ?_
  refine hcons (kShrM 16 65536 rfl (isX rfl) (isZ (m := 16) rfl) (denX rfl) rfl (by decide) (by omega) rfl) ?_
  refine hcons (kConv8 (isX rfl) tu5 (denX rfl) rfl) ?_
  refine hcons (kShrM 8 256 rfl (isX rfl) (isZ (m := 8) rfl) (denX rfl) rfl (by decide) (by omega) rfl) ?_
  refine hcons (kConv8 (isX rfl) tu5 (denX rfl) rfl) ?_
  refine hcons (kConv8 (isX rfl) tu5 (denX rfl) rfl) ?_
  refine hcons (kConv8 (isX rfl) tu5 (denX rfl) rfl) ?_
  refine hcons (kBytesB (bs := [u8 (ap / 16777216), u8 ((ap / 65536) % 256), u8 ((ap / 256) % 256), u8 (ap % 256), u8 (pr % 256)]) (.cons (isB8 (isX rfl) (by omega) (by omega)) (.cons (isB8 (isX rfl) (by omega) (by omega)) (.cons (isB8 (isX rfl) (by omega) (by omega)) (.cons (isB8 (isX rfl) (by omega) (by omega)) (.cons (isB8 (isX rfl) (by omega) (by omega)) .nil))))) (denX rfl)) ?_
  refine hcons (kLenE (isX rfl) (denZ (m := 5) rfl) (by first | omega | (simp only [List.length_append, List.length_cons, List.length_nil, List.length_take, List.length_drop, Int.natCast_add] at *; omega))) ?_
  refine hcons (kCat (isX rfl) (isSx (l := [u8 0, u8 0, u8 0]) 3 0 rfl) (denX rfl) (by first | rfl | (simp only [List.append_assoc, List.cons_append, List.nil_append, List.append_nil]; done)) (by first | omega | (simp only [List.length_append, List.length_cons, List.length_nil, List.length_take, List.length_drop, Int.natCast_add] at *; omega))) ?_
  refine hcons (kBytesB (bs := [u8 (ap / 16777216), u8 ((ap / 65536) % 256), u8 ((ap / 256) % 256), u8 (ap % 256), u8 (pr % 256), u8 0, u8 0, u8 0]) (.cons (isB8 (isX rfl) (by omega) (by omega)) (.cons (isB8 (isX rfl) (by omega) (by omega)) (.cons (isB8 (isX rfl) (by omega) (by omega)) (.cons (isB8 (isX rfl) (by omega) (by omega)) (.cons (isB8 (isX rfl) (by omega) (by omega)) (.cons (isB8 (isZ (m := 0) rfl) (by omega) (by omega)) (.cons (isB8 (isZ (m := 0) rfl) (by omega) (by omega)) (.cons (isB8 (isZ (m := 0) rfl) (by omega) (by omega)) .nil)))))))) (denX rfl)) ?_
  refine hcons (kEqTS (isX rfl) (isX rfl) tu9 (decide_eq_true rfl)) ?_
  refine hcons (kEqT (isX rfl) (isX rfl) tu56 (decide_eq_true (by omega))) ?_
  refine hcons (kEqT (isX rfl) (isX rfl) tu3 (decide_eq_true (by omega))) ?_
  refine hcons (kConv8 (isX rfl) tu5 (denX rfl) rfl) ?_
  refine hcons (kBytesB (bs := [u8 (t % 256)]) (.cons (isB8 (isX rfl) (by omega) (by omega)) .nil) (denX rfl)) ?_
  refine hcons (kLenE (isX rfl) (denZ (m := 1) rfl) (by first | omega | (simp only [List.length_append, List.length_cons, List.length_nil, List.length_take, List.length_drop, Int.natCast_add] at *; omega))) ?_
  refine hcons (kCat (isX rfl) (isSx (l := [u8 0, u8 0, u8 0, u8 0, u8 0, u8 0, u8 0]) 7 0 rfl) (denX rfl) (by first | rfl | (simp only [List.append_assoc, List.cons_append, List.nil_append, List.append_nil]; done)) (by first | omega | (simp only [List.length_append, List.length_cons, List.length_nil, List.length_take, List.length_drop, Int.natCast_add] at *; omega))) ?_
  refine hcons (kBytesB (bs := [u8 (t % 256), u8 0, u8 0, u8 0, u8 0, u8 0, u8 0, u8 0]) (.cons (isB8 (isX rfl) (by omega) (by omega)) (.cons (isB8 (isZ (m := 0) rfl) (by omega) (by omega)) (.cons (isB8 (isZ (m := 0) rfl) (by omega) (by omega)) (.cons (isB8 (isZ (m := 0) rfl) (by omega) (by omega)) (.cons (isB8 (isZ (m := 0) rfl) (by omega) (by omega)) (.cons (isB8 (isZ (m := 0) rfl) (by omega) (by omega)) (.cons (isB8 (isZ (m := 0) rfl) (by omega) (by omega)) (.cons (isB8 (isZ (m := 0) rfl) (by omega) (by omega)) .nil)))))))) (denX rfl)) ?_
  refine hcons (kEqTS (isX rfl) (isX rfl) tu9 (decide_eq_true rfl)) ?_
  refine hcons (hokg53 rfl rfl (by omega) (by omega)) ?_
  refine hcons (hokg54 rfl rfl (by omega) (by omega)) ?_
  refine hcons (kEqS (isX rfl) (isX rfl) (decide_eq_true rfl)) ?_
  exact hnil
theorem path4 (id : Int) (ap : Int) (pr : Int) (t : Int) (rt : Int) (ri : Int) (c : List UInt8) (rp : Int) (b0 : -9223372036854775808 ≤ id) (b1 : id ≤ 9223372036854775807) (b2 : 0 ≤ ap) (b3 : ap ≤ 4294967295) (b4 : -9223372036854775808 ≤ pr) (b5 : pr ≤ 9223372036854775807) (b6 : -9223372036854775808 ≤ t) (b7 : t ≤ 9223372036854775807) (b8 : -9223372036854775808 ≤ rt) (b9 : rt ≤ 9223372036854775807) (b10 : -9223372036854775808 ≤ ri) (b11 : ri ≤ 9223372036854775807) (b12 : c.length ≤ 9223372036854775807) (b13 : -9223372036854775808 ≤ rp) (b14 : rp ≤ 9223372036854775807) (h0 : ¬ (200 < (c.length : Int))) (h1 : ¬ (rt = 1)) (h2 : rt = 3) (h3 : (c.length : Int) = 8) (w : World) (hl : laidE w) : Calls Tryd.prog 7 #[.int .i64 id, .bool false, .agg #[.int .u32 ap, .int .i64 pr], .int .i64 t, .agg #[.int .i64 rt, .int .i64 ri, St' c, .int .i64 rp]] w fun e w' => e = .returned (.bool true) ∧ Go.AX.Below w.heap.size w w' := by
  obtain ⟨fi, hfi, hb⟩ : ∃ fi, tabk.fn.get 7 = some fi ∧ fi.body.isSome = true := ⟨_, rfl, by kernel_rfl⟩
  exact runP (tb := tab4) ((tabkOk (nuL (nu4 id ap pr t rt ri c rp)) (one4 id ap pr t rt ri c rp)).hyps (hyOk4 id ap pr t rt ri c rp b0 b1 b2 b3 b4 b5 b6 b7 b8 b9 b10 b11 b12 b13 b14 h0 h1 h2 h3)) rfl hfi hb (fun e => run4 e ) (args := [.int .i64 id, .bool false, .agg #[.int .u32 ap, .int .i64 pr], .int .i64 t, .agg #[.int .i64 rt, .int .i64 ri, St' c, .int .i64 rp]]) (by simp only [RelL, Rel]; exact ⟨_, _, rfl, rfl, ⟨_, _, rfl, rfl, ⟨_, _, rfl, ⟨_, rfl, ⟨_, _, rfl, rfl, ⟨_, _, rfl, rfl, rfl⟩⟩⟩, ⟨_, _, rfl, rfl, ⟨_, _, rfl, ⟨_, rfl, ⟨_, _, rfl, rfl, ⟨_, _, rfl, rfl, ⟨_, _, rfl, rfl, ⟨_, _, rfl, rfl, rfl⟩⟩⟩⟩⟩, rfl⟩⟩⟩⟩⟩) w hl
def hy5 : List (HK × AV) := [(.len (.x 6), .x 8),
  (.bin .gtr (.x 8) (.i .i64 (.ofNat 200)), .b false),
  (.bin .neq (.x 4) (.i .i64 (.ofNat 1)), .b true),
  (.bin .neq (.x 4) (.i .i64 (.ofNat 3)), .b false),
  (.bin .neq (.x 8) (.i .i64 (.ofNat 8)), .b true),
  (.eq 3 (.x 0) (.x 0), .b true),
  (.bin .shr (.x 1) (.i .u64 (.ofNat 24)), .x 9),
  (.conv 5 (.x 9), .x 10),
  (.bin .shr (.x 1) (.i .u64 (.ofNat 16)), .x 11),
  (.conv 5 (.x 11), .x 12),
  (.bin .shr (.x 1) (.i .u64 (.ofNat 8)), .x 13),
  (.conv 5 (.x 13), .x 14),
  (.conv 5 (.x 1), .x 15),
  (.conv 5 (.x 2), .x 16),
  (.bytes [.x 10, .x 12, .x 14, .x 15, .x 16], .x 17),
  (.len (.x 17), .i .i64 (.ofNat 5)),
  (.bin .add (.x 17) (.s 3 0), .x 18),
  (.bytes [.x 10, .x 12, .x 14, .x 15, .x 16, .i .u8 (.ofNat 0), .i .u8 (.ofNat 0), .i .u8 (.ofNat 0)], .x 19),
  (.eq 9 (.x 18) (.x 19), .b true),
  (.conv 5 (.x 3), .x 20),
  (.bytes [.x 20], .x 21),
  (.len (.x 21), .i .i64 (.ofNat 1)),
  (.bin .add (.x 21) (.s 7 0), .x 22),
  (.bytes [.x 20, .i .u8 (.ofNat 0), .i .u8 (.ofNat 0), .i .u8 (.ofNat 0), .i .u8 (.ofNat 0), .i .u8 (.ofNat 0), .i .u8 (.ofNat 0), .i .u8 (.ofNat 0)], .x 23),
  (.eq 9 (.x 22) (.x 23), .b true),
  (.call 53 [.x 3], .x 24),
  (.call 54 [.x 3], .x 25),
  (.bin .eql (.x 24) (.x 25), .b true)]
noncomputable def tab5 : Tab := { tabk with hyp := hy5 }
theorem run5 (e : Nat) : okB (call tab5 9000 7 [.x 0, .b false, .ag [.x 1, .x 2], .x 3, .ag [.x 4, .x 5, .x 6, .x 7]] ⟨H0 e , 7, 0, 0⟩) = true := by kernel_rfl
def nu5 (id : Int) (ap : Int) (pr : Int) (t : Int) (rt : Int) (ri : Int) (c : List UInt8) (rp : Int) : List Value := [.int .i64 (id),
  .int .u32 (ap),
  .int .i64 (pr),
  .int .i64 (t),
  .int .i64 (rt),
  .int .i64 (ri),
  St' c,
  .int .i64 (rp),
  .int .i64 ((c.length : Int)),
  .int .u32 (ap / 16777216),
  .int .u8 (ap / 16777216),
  .int .u32 (ap / 65536),
  .int .u8 ((ap / 65536) % 256),
  .int .u32 (ap / 256),
  .int .u8 ((ap / 256) % 256),
  .int .u8 (ap % 256),
  .int .u8 (pr % 256),
  St' ([u8 (ap / 16777216), u8 ((ap / 65536) % 256), u8 ((ap / 256) % 256), u8 (ap % 256), u8 (pr % 256)]),
  St' ([u8 (ap / 16777216), u8 ((ap / 65536) % 256), u8 ((ap / 256) % 256), u8 (ap % 256), u8 (pr % 256), u8 0, u8 0, u8 0]),
  St' ([u8 (ap / 16777216), u8 ((ap / 65536) % 256), u8 ((ap / 256) % 256), u8 (ap % 256), u8 (pr % 256), u8 0, u8 0, u8 0]),
  .int .u8 (t % 256),
  St' ([u8 (t % 256)]),
  St' ([u8 (t % 256), u8 0, u8 0, u8 0, u8 0, u8 0, u8 0, u8 0]),
  St' ([u8 (t % 256), u8 0, u8 0, u8 0, u8 0, u8 0, u8 0, u8 0]),
  St' ((nameL t)),
  St' ((nameL t))]
theorem one5 (id : Int) (ap : Int) (pr : Int) (t : Int) (rt : Int) (ri : Int) (c : List UInt8) (rp : Int) : ∀ j, (nuL (nu5 id ap pr t rt ri c rp) j).oneCell' = true := nuL_one (l := nu5 id ap pr t rt ri c rp) rfl
set_option maxHeartbeats 2000000 in
theorem hyOk5 (id : Int) (ap : Int) (pr : Int) (t : Int) (rt : Int) (ri : Int) (c : List UInt8) (rp : Int) (b0 : -9223372036854775808 ≤ id) (b1 : id ≤ 9223372036854775807) (b2 : 0 ≤ ap) (b3 : ap ≤ 4294967295) (b4 : -9223372036854775808 ≤ pr) (b5 : pr ≤ 9223372036854775807) (b6 : -9223372036854775808 ≤ t) (b7 : t ≤ 9223372036854775807) (b8 : -9223372036854775808 ≤ rt) (b9 : rt ≤ 9223372036854775807) (b10 : -9223372036854775808 ≤ ri) (b11 : ri ≤ 9223372036854775807) (b12 : c.length ≤ 9223372036854775807) (b13 : -9223372036854775808 ≤ rp) (b14 : rp ≤ 9223372036854775807) (h0 : ¬ (200 < (c.length : Int))) (h1 : ¬ (rt = 1)) (h2 : rt = 3) (h3 : ¬ ((c.length : Int) = 8)) : ∀ k r, (k, r) ∈ hy5 → HOk (cx (nuL (nu5 id ap pr t rt ri c rp)) (one5 id ap pr t rt ri c rp) 1 laidE laidE_stab) k r := by
  unfold hy5
  refine hcons (kLenE (isX rfl) (denX rfl) (by first | omega | (simp only [List.length_append, List.length_cons, List.length_nil, List.length_take, List.length_drop, Int.natCast_add] at *; omega))) ?_
  refine hcons (kGt (isX rfl) (isZ (m := 200) rfl) (decide_eq_false (by omega))) ?_
  refine hcons (kNeI (isX rfl) (isZ (m := 1) rfl) (neT (by omega))) ?_
  refine hcons (kNeI (isX rfl) (isZ (m := 3) rfl) (neF (by omega))) ?_
  refine hcons (kNeI (isX rfl) (isZ (m := 8) rfl) (neT (by omega))) ?_
  refine hcons (kEqT (isX rfl) (isX rfl) tu3 (decide_eq_true (by omega))) ?_
  refine hcons (kShrM 24 16777216 rfl (isX rfl) (isZ (m := 24) rfl) (denX rfl) rfl (by decide) (by omega) rfl) ?_
  refine hcons (kConvF (isX rfl) tu5 (denX rfl) (fU8 (by omega) (by omega))) ?_
  refine hcons (kShrM 16 65536 rfl (isX rfl) (isZ (m := 16) rfl) (denX rfl) rfl (by decide) (by omega) rfl) ?_
  refine hcons (kConv8 (isX rfl) tu5 (denX rfl) rfl) ?_
  refine hcons (kShrM 8 256 rfl (isX rfl) (isZ (m := 8) rfl) (denX rfl) rfl (by decide) (by omega) rfl) ?_
  refine hcons (kConv8 (isX rfl) tu5 (denX rfl) rfl) ?_
  refine hcons (kConv8 (isX rfl) tu5 (denX rfl) rfl) ?_
  refine hcons (kConv8 (isX rfl) tu5 (denX rfl) rfl) ?_
  refine hcons (kBytesB (bs := [u8 (ap / 16777216), u8 ((ap / 65536) % 256), u8 ((ap / 256) % 256), u8 (ap % 256), u8 (pr % 256)]) (.cons (isB8 (isX rfl) (by omega) (by omega)) (.cons (isB8 (isX rfl) (by omega) (by omega)) (.cons (isB8 (isX rfl) (by omega) (by omega)) (.cons (isB8 (isX rfl) (by omega) (by omega)) (.cons (isB8 (isX rfl) (by omega) (by omega)) .nil))))) (denX rfl)) ?_
  refine hcons (kLenE (isX rfl) (denZ (m := 5) rfl) (by first | omega | (simp only [List.length_append, List.length_cons, List.length_nil, List.length_take, List.length_drop, Int.natCast_add] at *; omega))) ?_
  refine hcons (kCat (isX rfl) (isSx (l := [u8 0, u8 0, u8 0]) 3 0 rfl) (denX rfl) (by first | rfl | (simp only [List.append_assoc, List.cons_append, List.nil_append, List.append_nil]; done)) (by first | omega | (simp only [List.length_append, List.length_cons, List.length_nil, List.length_take, List.length_drop, Int.natCast_add] at *; omega))) ?_
  refine hcons (kBytesB (bs := [u8 (ap / 16777216), u8 ((ap / 65536) % 256), u8 ((ap / 256) % 256), u8 (ap % 256), u8 (pr % 256), u8 0, u8 0, u8 0]) (.cons (isB8 (isX rfl) (by omega) (by omega)) (.cons (isB8 (isX rfl) (by omega) (by omega)) (.cons (isB8 (isX rfl) (by omega) (by omega)) (.cons (isB8 (isX rfl) (by omega) (by omega)) (.cons (isB8 (isX rfl) (by omega) (by omega)) (.cons (isB8 (isZ (m := 0) rfl) (by omega) (by omega)) (.cons (isB8 (isZ (m := 0) rfl) (by omega) (by omega)) (.cons (isB8 (isZ (m := 0) rfl) (by omega) (by omega)) .nil)))))))) (denX rfl)) ?_
  refine hcons (kEqTS (isX rfl) (isX rfl) tu9 (decide_eq_true rfl)) ?_
  refine hcons (kConv8 (isX rfl) tu5 (denX rfl) rfl) ?_
  refine hcons (kBytesB (bs := [u8 (t % 256)]) (.cons (isB8 (isX rfl) (by omega) (by omega)) .nil) (denX rfl)) ?_
  refine hcons (kLenE (isX rfl) (denZ (m := 1) rfl) (by first | omega | (simp only [List.length_append, List.length_cons, List.length_nil, List.length_take, List.length_drop, Int.natCast_add] at *; omega))) ?_
  refine hcons (kCat (isX rfl) (isSx (l := [u8 0, u8 0, u8 0, u8 0, u8 0, u8 0, u8 0]) 7 0 rfl) (denX rfl) (by first | rfl | (simp only [List.append_assoc, List.cons_append, List.nil_append, List.append_nil]; done)) (by first | omega | (simp only [List.length_append, List.length_cons, List.length_nil, List.length_take, List.length_drop, Int.natCast_add] at *; omega))) ?_
  refine hcons (kBytesB (bs := [u8 (t % 256), u8 0, u8 0, u8 0, u8 0, u8 0, u8 0, u8 0]) (.cons (isB8 (isX rfl) (by omega) (by omega)) (.cons (isB8 (isZ (m := 0) rfl) (by omega) (by omega)) (.cons (isB8 (isZ (m := 0) rfl) (by omega) (by omega)) (.cons (isB8 (isZ (m := 0) rfl) (by omega) (by omega)) (.cons (isB8 (isZ (m := 0) rfl) (by omega) (by omega)) (.cons (isB8 (isZ (m := 0) rfl) (by omega) (by omega)) (.cons (isB8 (isZ (m := 0) rfl) (by omega) (by omega)) (.cons (isB8 (isZ (m := 0) rfl) (by omega) (by omega)) .nil)))))))) (denX rfl)) ?_
  refine hcons (kEqTS (isX rfl) (isX rfl) tu9 (decide_eq_true rfl)) ?_
  refine hcons (hokg53 rfl rfl (by omega) (by omega)) ?_
  refine hcons (hokg54 rfl rfl (by omega) (by omega)) ?_
  refine hcons (kEqS (isX rfl) (isX rfl) (decide_eq_true rfl)) ?_
  exact hnil
theorem path5 (id : Int) (ap : Int) (pr : Int) (t : Int) (rt : Int) (ri : Int) (c : List UInt8) (rp : Int) (b0 : -9223372036854775808 ≤ id) (b1 : id ≤ 9223372036854775807) (b2 : 0 ≤ ap) (b3 : ap ≤ 4294967295) (b4 : -9223372036854775808 ≤ pr) (b5 : pr ≤ 9223372036854775807) (b6 : -9223372036854775808 ≤ t) (b7 : t ≤ 9223372036854775807) (b8 : -9223372036854775808 ≤ rt) (b9 : rt ≤ 9223372036854775807) (b10 : -9223372036854775808 ≤ ri) (b11 : ri ≤ 9223372036854775807) (b12 : c.length ≤ 9223372036854775807) (b13 : -9223372036854775808 ≤ rp) (b14 : rp ≤ 9223372036854775807) (h0 : ¬ (200 < (c.length : Int))) (h1 : ¬ (rt = 1)) (h2 : rt = 3) (h3 : ¬ ((c.length : Int) = 8)) (w : World) (hl : laidE w) : Calls Tryd.prog 7 #[.int .i64 id, .bool false, .agg #[.int .u32 ap, .int .i64 pr], .int .i64 t, .agg #[.int .i64 rt, .int .i64 ri, St' c, .int .i64 rp]] w fun e w' => e = .returned (.bool true) ∧ Go.AX.Below w.heap.size w w' := by
  obtain ⟨fi, hfi, hb⟩ : ∃ fi, tabk.fn.get 7 = some fi ∧ fi.body.isSome = true := ⟨_, rfl, by kernel_rfl⟩
  exact runP (tb := tab5) ((tabkOk (nuL (nu5 id ap pr t rt ri c rp)) (one5 id ap pr t rt ri c rp)).hyps (hyOk5 id ap pr t rt ri c rp b0 b1 b2 b3 b4 b5 b6 b7 b8 b9 b10 b11 b12 b13 b14 h0 h1 h2 h3)) rfl hfi hb (fun e => run5 e ) (args := [.int .i64 id, .bool false, .agg #[.int .u32 ap, .int .i64 pr], .int .i64 t, .agg #[.int .i64 rt, .int .i64 ri, St' c, .int .i64 rp]]) (by simp only [RelL, Rel]; exact ⟨_, _, rfl, rfl, ⟨_, _, rfl, rfl, ⟨_, _, rfl, ⟨_, rfl, ⟨_, _, rfl, rfl, ⟨_, _, rfl, rfl, rfl⟩⟩⟩, ⟨_, _, rfl, rfl, ⟨_, _, rfl, ⟨_, rfl, ⟨_, _, rfl, rfl, ⟨_, _, rfl, rfl, ⟨_, _, rfl, rfl, ⟨_, _, rfl, rfl, rfl⟩⟩⟩⟩⟩, rfl⟩⟩⟩⟩⟩) w hl
def hy6 : List (HK × AV) := [(.len (.x 6), .x 8),
  (.bin .gtr (.x 8) (.i .i64 (.ofNat 200)), .b false),
  (.bin .neq (.x 4) (.i .i64 (.ofNat 1)), .b true),
  (.bin .neq (.x 4) (.i .i64 (.ofNat 3)), .b true),
  (.eq 3 (.x 0) (.x 0), .b true),
  (.bin .shr (.x 1) (.i .u64 (.ofNat 24)), .x 9),
  (.conv 5 (.x 9), .x 10),
  (.bin .shr (.x 1) (.i .u64 (.ofNat 16)), .x 11),
  (.conv 5 (.x 11), .x 12),
  (.bin .shr (.x 1) (.i .u64 (.ofNat 8)), .x 13),
  (.conv 5 (.x 13), .x 14),
  (.conv 5 (.x 1), .x 15),
  (.conv 5 (.x 2), .x 16),
  (.bytes [.x 10, .x 12, .x 14, .x 15, .x 16], .x 17),
  (.len (.x 17), .i .i64 (.ofNat 5)),
  (.bin .add (.x 17) (.s 3 0), .x 18),
  (.bytes [.x 10, .x 12, .x 14, .x 15, .x 16, .i .u8 (.ofNat 0), .i .u8 (.ofNat 0), .i .u8 (.ofNat 0)], .x 19),
  (.eq 9 (.x 18) (.x 19), .b true),
  (.conv 5 (.x 3), .x 20),
  (.bytes [.x 20], .x 21),
  (.len (.x 21), .i .i64 (.ofNat 1)),
  (.bin .add (.x 21) (.s 7 0), .x 22),
  (.bytes [.x 20, .i .u8 (.ofNat 0), .i .u8 (.ofNat 0), .i .u8 (.ofNat 0), .i .u8 (.ofNat 0), .i .u8 (.ofNat 0), .i .u8 (.ofNat 0), .i .u8 (.ofNat 0)], .x 23),
  (.eq 9 (.x 22) (.x 23), .b true),
  (.call 53 [.x 3], .x 24),
  (.call 54 [.x 3], .x 25),
  (.bin .eql (.x 24) (.x 25), .b true)]
noncomputable def tab6 : Tab := { tabk with hyp := hy6 }
theorem run6 (e : Nat) : okB (call tab6 9000 7 [.x 0, .b false, .ag [.x 1, .x 2], .x 3, .ag [.x 4, .x 5, .x 6, .x 7]] ⟨H0 e , 7, 0, 0⟩) = true := by kernel_rfl
def nu6 (id : Int) (ap : Int) (pr : Int) (t : Int) (rt : Int) (ri : Int) (c : List UInt8) (rp : Int) : List Value := [.int .i64 (id),
  .int .u32 (ap),
  .int .i64 (pr),
  .int .i64 (t),
  .int .i64 (rt),
  .int .i64 (ri),
  St' c,
  .int .i64 (rp),
  .int .i64 ((c.length : Int)),
  .int .u32 (ap / 16777216),
  .int .u8 (ap / 16777216),
  .int .u32 (ap / 65536),
  .int .u8 ((ap / 65536) % 256),
  .int .u32 (ap / 256),
  .int .u8 ((ap / 256) % 256),
  .int .u8 (ap % 256),
  .int .u8 (pr % 256),
  St' ([u8 (ap / 16777216), u8 ((ap / 65536) % 256), u8 ((ap / 256) % 256), u8 (ap % 256), u8 (pr % 256)]),
  St' ([u8 (ap / 16777216), u8 ((ap / 65536) % 256), u8 ((ap / 256) % 256), u8 (ap % 256), u8 (pr % 256), u8 0, u8 0, u8 0]),
  St' ([u8 (ap / 16777216), u8 ((ap / 65536) % 256), u8 ((ap / 256) % 256), u8 (ap % 256), u8 (pr % 256), u8 0, u8 0, u8 0]),
  .int .u8 (t % 256),
  St' ([u8 (t % 256)]),
  St' ([u8 (t % 256), u8 0, u8 0, u8 0, u8 0, u8 0, u8 0, u8 0]),
  St' ([u8 (t % 256), u8 0, u8 0, u8 0, u8 0, u8 0, u8 0, u8 0]),
  St' ((nameL t)),
  St' ((nameL t))]
theorem one6 (id : Int) (ap : Int) (pr : Int) (t : Int) (rt : Int) (ri : Int) (c : List UInt8) (rp : Int) : ∀ j, (nuL (nu6 id ap pr t rt ri c rp) j).oneCell' = true := nuL_one (l := nu6 id ap pr t rt ri c rp) rfl
set_option maxHeartbeats 2000000 in
theorem hyOk6 (id : Int) (ap : Int) (pr : Int) (t : Int) (rt : Int) (ri : Int) (c : List UInt8) (rp : Int) (b0 : -9223372036854775808 ≤ id) (b1 : id ≤ 9223372036854775807) (b2 : 0 ≤ ap) (b3 : ap ≤ 4294967295) (b4 : -9223372036854775808 ≤ pr) (b5 : pr ≤ 9223372036854775807) (b6 : -9223372036854775808 ≤ t) (b7 : t ≤ 9223372036854775807) (b8 : -9223372036854775808 ≤ rt) (b9 : rt ≤ 9223372036854775807) (b10 : -9223372036854775808 ≤ ri) (b11 : ri ≤ 9223372036854775807) (b12 : c.length ≤ 9223372036854775807) (b13 : -9223372036854775808 ≤ rp) (b14 : rp ≤ 9223372036854775807) (h0 : ¬ (200 < (c.length : Int))) (h1 : ¬ (rt = 1)) (h2 : ¬ (rt = 3)) : ∀ k r, (k, r) ∈ hy6 → HOk (cx (nuL (nu6 id ap pr t rt ri c rp)) (one6 id ap pr t rt ri c rp) 1 laidE laidE_stab) k r := by
  unfold hy6
  refine hcons (kLenE (isX rfl) (denX rfl) (by first | omega | (simp only [List.length_append, List.length_cons, List.length_nil, List.length_take, List.length_drop, Int.natCast_add] at *; omega))) ?_
  refine hcons (kGt (isX rfl) (isZ (m := 200) rfl) (decide_eq_false (by omega))) ?_
  refine hcons (kNeI (isX rfl) (isZ (m := 1) rfl) (neT (by omega))) ?_
  refine hcons (kNeI (isX rfl) (isZ (m := 3) rfl) (neT (by omega))) ?_
  refine hcons (kEqT (isX rfl) (isX rfl) tu3 (decide_eq_true (by omega))) ?_
  refine hcons (kShrM 24 16777216 rfl (isX rfl) (isZ (m := 24) rfl) (denX rfl) rfl (by decide) (by omega) rfl) ?_
  refine hcons (kConvF (isX rfl) tu5 (denX rfl) (fU8 (by omega) (by omega))) ?_
  refine hcons (kShrM 16 65536 rfl (isX rfl) (isZ (m := 16) rfl) (denX rfl) rfl (by decide) (by omega) rfl) ?_
  refine hcons (kConv8 (isX rfl) tu5 (denX rfl) rfl) ?_
  refine hcons (kShrM 8 256 rfl (isX rfl) (isZ (m := 8) rfl) (denX rfl) rfl (by decide) (by omega) rfl) ?_
  refine hcons (kConv8 (isX rfl) tu5 (denX rfl) rfl) ?_
  refine hcons (kConv8 (isX rfl) tu5 (denX rfl) rfl) ?_
  refine hcons (kConv8 (isX rfl) tu5 (denX rfl) rfl) ?_
  refine hcons (kBytesB (bs := [u8 (ap / 16777216), u8 ((ap / 65536) % 256), u8 ((ap / 256) % 256), u8 (ap % 256), u8 (pr % 256)]) (.cons (isB8 (isX rfl) (by omega) (by omega)) (.cons (isB8 (isX rfl) (by omega) (by omega)) (.cons (isB8 (isX rfl) (by omega) (by omega)) (.cons (isB8 (isX rfl) (by omega) (by omega)) (.cons (isB8 (isX rfl) (by omega) (by omega)) .nil))))) (denX rfl)) ?_
  refine hcons (kLenE (isX rfl) (denZ (m := 5) rfl) (by first | omega | (simp only [List.length_append, List.length_cons, List.length_nil, List.length_take, List.length_drop, Int.natCast_add] at *; omega))) ?_
  refine hcons (kCat (isX rfl) (isSx (l := [u8 0, u8 0, u8 0]) 3 0 rfl) (denX rfl) (by first | rfl | (simp only [List.append_assoc, List.cons_append, List.nil_append, List.append_nil]; done)) (by first | omega | (simp only [List.length_append, List.length_cons, List.length_nil, List.length_take, List.length_drop, Int.natCast_add] at *; omega))) ?_
  refine hcons (kBytesB (bs := [u8 (ap / 16777216), u8 ((ap / 65536) % 256), u8 ((ap / 256) % 256), u8 (ap % 256), u8 (pr % 256), u8 0, u8 0, u8 0]) (.cons (isB8 (isX rfl) (by omega) (by omega)) (.cons (isB8 (isX rfl) (by omega) (by omega)) (.cons (isB8 (isX rfl) (by omega) (by omega)) (.cons (isB8 (isX rfl) (by omega) (by omega)) (.cons (isB8 (isX rfl) (by omega) (by omega)) (.cons (isB8 (isZ (m := 0) rfl) (by omega) (by omega)) (.cons (isB8 (isZ (m := 0) rfl) (by omega) (by omega)) (.cons (isB8 (isZ (m := 0) rfl) (by omega) (by omega)) .nil)))))))) (denX rfl)) ?_
  refine hcons (kEqTS (isX rfl) (isX rfl) tu9 (decide_eq_true rfl)) ?_
  refine hcons (kConv8 (isX rfl) tu5 (denX rfl) rfl) ?_
  refine hcons (kBytesB (bs := [u8 (t % 256)]) (.cons (isB8 (isX rfl) (by omega) (by omega)) .nil) (denX rfl)) ?_
  refine hcons (kLenE (isX rfl) (denZ (m := 1) rfl) (by first | omega | (simp only [List.length_append, List.length_cons, List.length_nil, List.length_take, List.length_drop, Int.natCast_add] at *; omega))) ?_
  refine hcons (kCat (isX rfl) (isSx (l := [u8 0, u8 0, u8 0, u8 0, u8 0, u8 0, u8 0]) 7 0 rfl) (denX rfl) (by first | rfl | (simp only [List.append_assoc, List.cons_append, List.nil_append, List.append_nil]; done)) (by first | omega | (simp only [List.length_append, List.length_cons, List.length_nil, List.length_take, List.length_drop, Int.natCast_add] at *; omega))) ?_
  refine hcons (kBytesB (bs := [u8 (t % 256), u8 0, u8 0, u8 0, u8 0, u8 0, u8 0, u8 0]) (.cons (isB8 (isX rfl) (by omega) (by omega)) (.cons (isB8 (isZ (m := 0) rfl) (by omega) (by omega)) (.cons (isB8 (isZ (m := 0) rfl) (by omega) (by omega)) (.cons (isB8 (isZ (m := 0) rfl) (by omega) (by omega)) (.cons (isB8 (isZ (m := 0) rfl) (by omega) (by omega)) (.cons (isB8 (isZ (m := 0) rfl) (by omega) (by omega)) (.cons (isB8 (isZ (m := 0) rfl) (by omega) (by omega)) (.cons (isB8 (isZ (m := 0) rfl) (by omega) (by omega)) .nil)))))))) (denX rfl)) ?_
  refine hcons (kEqTS (isX rfl) (isX rfl) tu9 (decide_eq_true rfl)) ?_
  refine hcons (hokg53 rfl rfl (by omega) (by omega)) ?_
  refine hcons (hokg54 rfl rfl (by omega) (by omega)) ?_
  refine hcons (kEqS (isX rfl) (isX rfl) (decide_eq_true rfl)) ?_
  exact hnil
theorem path6 (id : Int) (ap : Int) (pr : Int) (t : Int) (rt : Int) (ri : Int) (c : List UInt8) (rp : Int) (b0 : -9223372036854775808 ≤ id) (b1 : id ≤ 9223372036854775807) (b2 : 0 ≤ ap) (b3 : ap ≤ 4294967295) (b4 : -9223372036854775808 ≤ pr) (b5 : pr ≤ 9223372036854775807) (b6 : -9223372036854775808 ≤ t) (b7 : t ≤ 9223372036854775807) (b8 : -9223372036854775808 ≤ rt) (b9 : rt ≤ 9223372036854775807) (b10 : -9223372036854775808 ≤ ri) (b11 : ri ≤ 9223372036854775807) (b12 : c.length ≤ 9223372036854775807) (b13 : -9223372036854775808 ≤ rp) (b14 : rp ≤ 9223372036854775807) (h0 : ¬ (200 < (c.length : Int))) (h1 : ¬ (rt = 1)) (h2 : ¬ (rt = 3)) (w : World) (hl : laidE w) : Calls Tryd.prog 7 #[.int .i64 id, .bool false, .agg #[.int .u32 ap, .int .i64 pr], .int .i64 t, .agg #[.int .i64 rt, .int .i64 ri, St' c, .int .i64 rp]] w fun e w' => e = .returned (.bool true) ∧ Go.AX.Below w.heap.size w w' := by
  obtain ⟨fi, hfi, hb⟩ : ∃ fi, tabk.fn.get 7 = some fi ∧ fi.body.isSome = true := ⟨_, rfl, by kernel_rfl⟩
  exact runP (tb := tab6) ((tabkOk (nuL (nu6 id ap pr t rt ri c rp)) (one6 id ap pr t rt ri c rp)).hyps (hyOk6 id ap pr t rt ri c rp b0 b1 b2 b3 b4 b5 b6 b7 b8 b9 b10 b11 b12 b13 b14 h0 h1 h2)) rfl hfi hb (fun e => run6 e ) (args := [.int .i64 id, .bool false, .agg #[.int .u32 ap, .int .i64 pr], .int .i64 t, .agg #[.int .i64 rt, .int .i64 ri, St' c, .int .i64 rp]]) (by simp only [RelL, Rel]; exact ⟨_, _, rfl, rfl, ⟨_, _, rfl, rfl, ⟨_, _, rfl, ⟨_, rfl, ⟨_, _, rfl, rfl, ⟨_, _, rfl, rfl, rfl⟩⟩⟩, ⟨_, _, rfl, rfl, ⟨_, _, rfl, ⟨_, rfl, ⟨_, _, rfl, rfl, ⟨_, _, rfl, rfl, ⟨_, _, rfl, rfl, ⟨_, _, rfl, rfl, rfl⟩⟩⟩⟩⟩, rfl⟩⟩⟩⟩⟩) w hl
def hy7 : List (HK × AV) := [(.len (.x 6), .x 8),
  (.bin .gtr (.x 8) (.i .i64 (.ofNat 200)), .b false),
  (.bin .neq (.x 4) (.i .i64 (.ofNat 1)), .b false),
  (.bin .neq (.x 8) (.i .i64 (.ofNat 8)), .b false),
  (.idx (.x 6) (.i .i64 (.ofNat 0)), .x 9),
  (.conv 3 (.x 9), .x 10),
  (.bin .shl (.x 10) (.i .u64 (.ofNat 8)), .x 11),
  (.idx (.x 6) (.i .i64 (.ofNat 1)), .x 12),
  (.conv 3 (.x 12), .x 13),
  (.bin .or (.x 11) (.x 13), .x 14),
  (.idx (.x 6) (.i .i64 (.ofNat 2)), .x 15),
  (.bin .and (.x 15) (.i .u8 (.ofNat 1)), .x 16),
  (.bin .neq (.x 16) (.i .u8 (.ofNat 0)), .b true),
  (.bin .mul (.x 10) (.i .i64 (.ofNat 256)), .x 17),
  (.bin .add (.x 17) (.x 13), .x 18),
  (.bin .eql (.x 16) (.i .u8 (.ofNat 1)), .b true),
  (.bin .neq (.x 4) (.i .i64 (.ofNat 3)), .b true),
  (.eq 3 (.x 0) (.x 0), .b true),
  (.bin .eql (.x 14) (.x 18), .b true),
  (.bin .shr (.x 1) (.i .u64 (.ofNat 24)), .x 19),
  (.conv 5 (.x 19), .x 20),
  (.bin .shr (.x 1) (.i .u64 (.ofNat 16)), .x 21),
  (.conv 5 (.x 21), .x 22),
  (.bin .shr (.x 1) (.i .u64 (.ofNat 8)), .x 23),
  (.conv 5 (.x 23), .x 24),
  (.conv 5 (.x 1), .x 25),
  (.conv 5 (.x 2), .x 26),
  (.bytes [.x 20, .x 22, .x 24, .x 25, .x 26], .x 27),
  (.len (.x 27), .i .i64 (.ofNat 5)),
  (.bin .add (.x 27) (.s 3 0), .x 28),
  (.bytes [.x 20, .x 22, .x 24, .x 25, .x 26, .i .u8 (.ofNat 0), .i .u8 (.ofNat 0), .i .u8 (.ofNat 0)], .x 29),
  (.eq 9 (.x 28) (.x 29), .b true),
  (.conv 5 (.x 3), .x 30),
  (.bytes [.x 30], .x 31),
  (.len (.x 31), .i .i64 (.ofNat 1)),
  (.bin .add (.x 31) (.s 7 0), .x 32),
  (.bytes [.x 30, .i .u8 (.ofNat 0), .i .u8 (.ofNat 0), .i .u8 (.ofNat 0), .i .u8 (.ofNat 0), .i .u8 (.ofNat 0), .i .u8 (.ofNat 0), .i .u8 (.ofNat 0)], .x 33),
  (.eq 9 (.x 32) (.x 33), .b true),
  (.call 53 [.x 3], .x 34),
  (.call 54 [.x 3], .x 35),
  (.bin .eql (.x 34) (.x 35), .b true)]
noncomputable def tab7 : Tab := { tabk with hyp := hy7 }
theorem run7 (e : Nat) : okB (call tab7 9000 7 [.x 0, .b true, .ag [.x 1, .x 2], .x 3, .ag [.x 4, .x 5, .x 6, .x 7]] ⟨H0 e , 7, 0, 0⟩) = true := by kernel_rfl
def nu7 (id : Int) (ap : Int) (pr : Int) (t : Int) (rt : Int) (ri : Int) (c : List UInt8) (rp : Int) : List Value := [.int .i64 (id),
  .int .u32 (ap),
  .int .i64 (pr),
  .int .i64 (t),
  .int .i64 (rt),
  .int .i64 (ri),
  St' c,
  .int .i64 (rp),
  .int .i64 ((c.length : Int)),
  .int .u8 (bt c 0),
  .int .i64 (bt c 0),
  .int .i64 ((bt c 0) * 256),
  .int .u8 (bt c 1),
  .int .i64 (bt c 1),
  .int .i64 (((bt c 0) * 256) + (bt c 1)),
  .int .u8 (bt c 2),
  .int .u8 ((bt c 2) % 2),
  .int .i64 ((bt c 0) * 256),
  .int .i64 (((bt c 0) * 256) + (bt c 1)),
  .int .u32 (ap / 16777216),
  .int .u8 (ap / 16777216),
  .int .u32 (ap / 65536),
  .int .u8 ((ap / 65536) % 256),
  .int .u32 (ap / 256),
  .int .u8 ((ap / 256) % 256),
  .int .u8 (ap % 256),
  .int .u8 (pr % 256),
  St' ([u8 (ap / 16777216), u8 ((ap / 65536) % 256), u8 ((ap / 256) % 256), u8 (ap % 256), u8 (pr % 256)]),
  St' ([u8 (ap / 16777216), u8 ((ap / 65536) % 256), u8 ((ap / 256) % 256), u8 (ap % 256), u8 (pr % 256), u8 0, u8 0, u8 0]),
  St' ([u8 (ap / 16777216), u8 ((ap / 65536) % 256), u8 ((ap / 256) % 256), u8 (ap % 256), u8 (pr % 256), u8 0, u8 0, u8 0]),
  .int .u8 (t % 256),
  St' ([u8 (t % 256)]),
  St' ([u8 (t % 256), u8 0, u8 0, u8 0, u8 0, u8 0, u8 0, u8 0]),
  St' ([u8 (t % 256), u8 0, u8 0, u8 0, u8 0, u8 0, u8 0, u8 0]),
  St' ((nameL t)),
  St' ((nameL t))]
theorem one7 (id : Int) (ap : Int) (pr : Int) (t : Int) (rt : Int) (ri : Int) (c : List UInt8) (rp : Int) : ∀ j, (nuL (nu7 id ap pr t rt ri c rp) j).oneCell' = true := nuL_one (l := nu7 id ap pr t rt ri c rp) rfl
set_option maxHeartbeats 2000000 in
theorem hyOk7 (id : Int) (ap : Int) (pr : Int) (t : Int) (rt : Int) (ri : Int) (c : List UInt8) (rp : Int) (b0 : -9223372036854775808 ≤ id) (b1 : id ≤ 9223372036854775807) (b2 : 0 ≤ ap) (b3 : ap ≤ 4294967295) (b4 : -9223372036854775808 ≤ pr) (b5 : pr ≤ 9223372036854775807) (b6 : -9223372036854775808 ≤ t) (b7 : t ≤ 9223372036854775807) (b8 : -9223372036854775808 ≤ rt) (b9 : rt ≤ 9223372036854775807) (b10 : -9223372036854775808 ≤ ri) (b11 : ri ≤ 9223372036854775807) (b12 : c.length ≤ 9223372036854775807) (b13 : -9223372036854775808 ≤ rp) (b14 : rp ≤ 9223372036854775807) (h0 : ¬ (200 < (c.length : Int))) (h1 : rt = 1) (h2 : (c.length : Int) = 8) (h3 : ¬ ((bt c 2) % 2 = 0)) : ∀ k r, (k, r) ∈ hy7 → HOk (cx (nuL (nu7 id ap pr t rt ri c rp)) (one7 id ap pr t rt ri c rp) 1 laidE laidE_stab) k r := by
  have := bt_lo c 0; have := bt_hi c 0
  have := bt_lo c 1; have := bt_hi c 1
  have := bt_lo c 2; have := bt_hi c 2
  unfold hy7
  refine hcons (kLenE (isX rfl) (denX rfl) (by first | omega | (simp only [List.length_append, List.length_cons, List.length_nil, List.length_take, List.length_drop, Int.natCast_add] at *; omega))) ?_
  refine hcons (kGt (isX rfl) (isZ (m := 200) rfl) (decide_eq_false (by omega))) ?_
  refine hcons (kNeI (isX rfl) (isZ (m := 1) rfl) (neF (by omega))) ?_
  refine hcons (kNeI (isX rfl) (isZ (m := 8) rfl) (neF (by omega))) ?_
  refine hcons (kIdxE (i := 0) (isX rfl) (isZ (m := 0) rfl) (denX rfl) rfl (by first | omega | (simp only [List.length_append, List.length_cons, List.length_nil, List.length_take, List.length_drop, Int.natCast_add] at *; omega)) rfl) ?_
  refine hcons (kConvF (isX rfl) tu3 (denX rfl) (fI64 (by omega) (by omega))) ?_
  refine hcons (kShlM 8 256 rfl (isX rfl) (isZ (m := 8) rfl) (denX rfl) rfl (by decide) rfl (fI64 (by omega) (by omega))) ?_
  refine hcons (kIdxE (i := 1) (isX rfl) (isZ (m := 1) rfl) (denX rfl) rfl (by first | omega | (simp only [List.length_append, List.length_cons, List.length_nil, List.length_take, List.length_drop, Int.natCast_add] at *; omega)) rfl) ?_
  refine hcons (kConvF (isX rfl) tu3 (denX rfl) (fI64 (by omega) (by omega))) ?_
  refine hcons (kOrM 8 256 rfl (isX rfl) (isX rfl) (denX rfl) (by omega) (by omega) (fI64 (by omega) (by omega)) (fI64 (by omega) (by omega)) (by omega) (by omega) rfl (fI64 (by omega) (by omega))) ?_
  refine hcons (kIdxE (i := 2) (isX rfl) (isZ (m := 2) rfl) (denX rfl) rfl (by first | omega | (simp only [List.length_append, List.length_cons, List.length_nil, List.length_take, List.length_drop, Int.natCast_add] at *; omega)) rfl) ?_
  refine hcons (kAndM 1 2 rfl (isX rfl) (isZ (m := 1) rfl) (denX rfl) (by omega) (fU8 (by omega) (by omega)) (fU8 (by omega) (by omega)) rfl rfl) ?_
  refine hcons (kNeI (isX rfl) (isZ (m := 0) rfl) (neT (by omega))) ?_
  refine hcons (kMul (isX rfl) (isZ (m := 256) rfl) (denX rfl) rfl (fI64 (by omega) (by omega))) ?_
  refine hcons (kAdd (isX rfl) (isX rfl) (denX rfl) rfl (fI64 (by omega) (by omega))) ?_
  refine hcons (kEqI (isX rfl) (isZ (m := 1) rfl) (decide_eq_true (by omega))) ?_
  refine hcons (kNeI (isX rfl) (isZ (m := 3) rfl) (neT (by omega))) ?_
  refine hcons (kEqT (isX rfl) (isX rfl) tu3 (decide_eq_true (by omega))) ?_
  refine hcons (kEqI (isX rfl) (isX rfl) (decide_eq_true (by omega))) ?_
  refine hcons (kShrM 24 16777216 rfl (isX rfl) (isZ (m := 24) rfl) (denX rfl) rfl (by decide) (by omega) rfl) ?_
  refine hcons (kConvF (isX rfl) tu5 (denX rfl) (fU8 (by omega) (by omega))) ?_
  refine hcons (kShrM 16 65536 rfl (isX rfl) (isZ (m := 16) rfl) (denX rfl) rfl (by decide) (by omega) rfl) ?_
  refine hcons (kConv8 (isX rfl) tu5 (denX rfl) rfl) ?_
  refine hcons (kShrM 8 256 rfl (isX rfl) (isZ (m := 8) rfl) (denX rfl) rfl (by decide) (by omega) rfl) ?_
  refine hcons (kConv8 (isX rfl) tu5 (denX rfl) rfl) ?_
  refine hcons (kConv8 (isX rfl) tu5 (denX rfl) rfl) ?_
  refine hcons (kConv8 (isX rfl) tu5 (denX rfl) rfl) ?_
  refine hcons (kBytesB (bs := [u8 (ap / 16777216), u8 ((ap / 65536) % 256), u8 ((ap / 256) % 256), u8 (ap % 256), u8 (pr % 256)]) (.cons (isB8 (isX rfl) (by omega) (by omega)) (.cons (isB8 (isX rfl) (by omega) (by omega)) (.cons (isB8 (isX rfl) (by omega) (by omega)) (.cons (isB8 (isX rfl) (by omega) (by omega)) (.cons (isB8 (isX rfl) (by omega) (by omega)) .nil))))) (denX rfl)) ?_
  refine hcons (kLenE (isX rfl) (denZ (m := 5) rfl) (by first | omega | (simp only [List.length_append, List.length_cons, List.length_nil, List.length_take, List.length_drop, Int.natCast_add] at *; omega))) ?_
  refine hcons (kCat (isX rfl) (isSx (l := [u8 0, u8 0, u8 0]) 3 0 rfl) (denX rfl) (by first | rfl | (simp only [List.append_assoc, List.cons_append, List.nil_append, List.append_nil]; done)) (by first | omega | (simp only [List.length_append, List.length_cons, List.length_nil, List.length_take, List.length_drop, Int.natCast_add] at *; omega))) ?_
  refine hcons (kBytesB (bs := [u8 (ap / 16777216), u8 ((ap / 65536) % 256), u8 ((ap / 256) % 256), u8 (ap % 256), u8 (pr % 256), u8 0, u8 0, u8 0]) (.cons (isB8 (isX rfl) (by omega) (by omega)) (.cons (isB8 (isX rfl) (by omega) (by omega)) (.cons (isB8 (isX rfl) (by omega) (by omega)) (.cons (isB8 (isX rfl) (by omega) (by omega)) (.cons (isB8 (isX rfl) (by omega) (by omega)) (.cons (isB8 (isZ (m := 0) rfl) (by omega) (by omega)) (.cons (isB8 (isZ (m := 0) rfl) (by omega) (by omega)) (.cons (isB8 (isZ (m := 0) rfl) (by omega) (by omega)) .nil)))))))) (denX rfl)) ?_
  refine hcons (kEqTS (isX rfl) (isX rfl) tu9 (decide_eq_true rfl)) ?_
  refine hcons (kConv8 (isX rfl) tu5 (denX rfl) rfl) ?_
  refine hcons (kBytesB (bs := [u8 (t % 256)]) (.cons (isB8 (isX rfl) (by omega) (by omega)) .nil) (denX rfl)) ?_
  refine hcons (kLenE (isX rfl) (denZ (m := 1) rfl) (by first | omega | (simp only [List.length_append, List.length_cons, List.length_nil, List.length_take, List.length_drop, Int.natCast_add] at *; omega))) ?_
  refine hcons (kCat (isX rfl) (isSx (l := [u8 0, u8 0, u8 0, u8 0, u8 0, u8 0, u8 0]) 7 0 rfl) (denX rfl) (by first | rfl | (simp only [List.append_assoc, List.cons_append, List.nil_append, List.append_nil]; done)) (by first | omega | (simp only [List.length_append, List.length_cons, List.length_nil, List.length_take, List.length_drop, Int.natCast_add] at *; omega))) ?_
  refine hcons (kBytesB (bs := [u8 (t % 256), u8 0, u8 0, u8 0, u8 0, u8 0, u8 0, u8 0]) (.cons (isB8 (isX rfl) (by omega) (by omega)) (.cons (isB8 (isZ (m := 0) rfl) (by omega) (by omega)) (.cons (isB8 (isZ (m := 0) rfl) (by omega) (by omega)) (.cons (isB8 (isZ (m := 0) rfl) (by omega) (by omega)) (.cons (isB8 (isZ (m := 0) rfl) (by omega) (by omega)) (.cons (isB8 (isZ (m := 0) rfl) (by omega) (by omega)) (.cons (isB8 (isZ (m := 0) rfl) (by omega) (by omega)) (.cons (isB8 (isZ (m := 0) rfl) (by omega) (by omega)) .nil)))))))) (denX rfl)) ?_
  refine hcons (kEqTS (isX rfl) (isX rfl) tu9 (decide_eq_true rfl)) ?_
  refine hcons (hokg53 rfl rfl (by omega) (by omega)) ?_
  refine hcons (hokg54 rfl rfl (by omega) (by omega)) ?_
  refine hcons (kEqS (isX rfl) (isX rfl) (decide_eq_true rfl)) ?_
  exact hnil
theorem path7 (id : Int) (ap : Int) (pr : Int) (t : Int) (rt : Int) (ri : Int) (c : List UInt8) (rp : Int) (b0 : -9223372036854775808 ≤ id) (b1 : id ≤ 9223372036854775807) (b2 : 0 ≤ ap) (b3 : ap ≤ 4294967295) (b4 : -9223372036854775808 ≤ pr) (b5 : pr ≤ 9223372036854775807) (b6 : -9223372036854775808 ≤ t) (b7 : t ≤ 9223372036854775807) (b8 : -9223372036854775808 ≤ rt) (b9 : rt ≤ 9223372036854775807) (b10 : -9223372036854775808 ≤ ri) (b11 : ri ≤ 9223372036854775807) (b12 : c.length ≤ 9223372036854775807) (b13 : -9223372036854775808 ≤ rp) (b14 : rp ≤ 9223372036854775807) (h0 : ¬ (200 < (c.length : Int))) (h1 : rt = 1) (h2 : (c.length : Int) = 8) (h3 : ¬ ((bt c 2) % 2 = 0)) (w : World) (hl : laidE w) : Calls Tryd.prog 7 #[.int .i64 id, .bool true, .agg #[.int .u32 ap, .int .i64 pr], .int .i64 t, .agg #[.int .i64 rt, .int .i64 ri, St' c, .int .i64 rp]] w fun e w' => e = .returned (.bool true) ∧ Go.AX.Below w.heap.size w w' := by
  obtain ⟨fi, hfi, hb⟩ : ∃ fi, tabk.fn.get 7 = some fi ∧ fi.body.isSome = true := ⟨_, rfl, by kernel_rfl⟩
  exact runP (tb := tab7) ((tabkOk (nuL (nu7 id ap pr t rt ri c rp)) (one7 id ap pr t rt ri c rp)).hyps (hyOk7 id ap pr t rt ri c rp b0 b1 b2 b3 b4 b5 b6 b7 b8 b9 b10 b11 b12 b13 b14 h0 h1 h2 h3)) rfl hfi hb (fun e => run7 e ) (args := [.int .i64 id, .bool true, .agg #[.int .u32 ap, .int .i64 pr], .int .i64 t, .agg #[.int .i64 rt, .int .i64 ri, St' c, .int .i64 rp]]) (by simp only [RelL, Rel]; exact ⟨_, _, rfl, rfl, ⟨_, _, rfl, rfl, ⟨_, _, rfl, ⟨_, rfl, ⟨_, _, rfl, rfl, ⟨_, _, rfl, rfl, rfl⟩⟩⟩, ⟨_, _, rfl, rfl, ⟨_, _, rfl, ⟨_, rfl, ⟨_, _, rfl, rfl, ⟨_, _, rfl, rfl, ⟨_, _, rfl, rfl, ⟨_, _, rfl, rfl, rfl⟩⟩⟩⟩⟩, rfl⟩⟩⟩⟩⟩) w hl
def hy8 : List (HK × AV) := [(.len (.x 6), .x 8),
  (.bin .gtr (.x 8) (.i .i64 (.ofNat 200)), .b false),
  (.bin .neq (.x 4) (.i .i64 (.ofNat 1)), .b false),
  (.bin .neq (.x 8) (.i .i64 (.ofNat 8)), .b false),
  (.idx (.x 6) (.i .i64 (.ofNat 0)), .x 9),
  (.conv 3 (.x 9), .x 10),
  (.bin .shl (.x 10) (.i .u64 (.ofNat 8)), .x 11),
  (.idx (.x 6) (.i .i64 (.ofNat 1)), .x 12),
  (.conv 3 (.x 12), .x 13),
  (.bin .or (.x 11) (.x 13), .x 14),
  (.idx (.x 6) (.i .i64 (.ofNat 2)), .x 15),
  (.bin .and (.x 15) (.i .u8 (.ofNat 1)), .x 16),
  (.bin .neq (.x 16) (.i .u8 (.ofNat 0)), .b false),
  (.bin .mul (.x 10) (.i .i64 (.ofNat 256)), .x 17),
  (.bin .add (.x 17) (.x 13), .x 18),
  (.bin .eql (.x 16) (.i .u8 (.ofNat 1)), .b false),
  (.bin .neq (.x 4) (.i .i64 (.ofNat 3)), .b true),
  (.eq 3 (.x 0) (.x 0), .b true),
  (.bin .eql (.x 14) (.x 18), .b true),
  (.bin .shr (.x 1) (.i .u64 (.ofNat 24)), .x 19),
  (.conv 5 (.x 19), .x 20),
  (.bin .shr (.x 1) (.i .u64 (.ofNat 16)), .x 21),
  (.conv 5 (.x 21), .x 22),
  (.bin .shr (.x 1) (.i .u64 (.ofNat 8)), .x 23),
  (.conv 5 (.x 23), .x 24),
  (.conv 5 (.x 1), .x 25),
  (.conv 5 (.x 2), .x 26),
  (.bytes [.x 20, .x 22, .x 24, .x 25, .x 26], .x 27),
  (.len (.x 27), .i .i64 (.ofNat 5)),
  (.bin .add (.x 27) (.s 3 0), .x 28),
  (.bytes [.x 20, .x 22, .x 24, .x 25, .x 26, .i .u8 (.ofNat 0), .i .u8 (.ofNat 0), .i .u8 (.ofNat 0)], .x 29),
  (.eq 9 (.x 28) (.x 29), .b true),
  (.conv 5 (.x 3), .x 30),
  (.bytes [.x 30], .x 31),
  (.len (.x 31), .i .i64 (.ofNat 1)),
  (.bin .add (.x 31) (.s 7 0), .x 32),
  (.bytes [.x 30, .i .u8 (.ofNat 0), .i .u8 (.ofNat 0), .i .u8 (.ofNat 0), .i .u8 (.ofNat 0), .i .u8 (.ofNat 0), .i .u8 (.ofNat 0), .i .u8 (.ofNat 0)], .x 33),
  (.eq 9 (.x 32) (.x 33), .b true),
  (.call 53 [.x 3], .x 34),
  (.call 54 [.x 3], .x 35),
  (.bin .eql (.x 34) (.x 35), .b true)]
noncomputable def tab8 : Tab := { tabk with hyp := hy8 }
theorem run8 (e : Nat) : okB (call tab8 9000 7 [.x 0, .b true, .ag [.x 1, .x 2], .x 3, .ag [.x 4, .x 5, .x 6, .x 7]] ⟨H0 e , 7, 0, 0⟩) = true := by kernel_rfl
def nu8 (id : Int) (ap : Int) (pr : Int) (t : Int) (rt : Int) (ri : Int) (c : List UInt8) (rp : Int) : List Value := [.int .i64 (id),
  .int .u32 (ap),
  .int .i64 (pr),
  .int .i64 (t),
  .int .i64 (rt),
  .int .i64 (ri),
  St' c,
  .int .i64 (rp),
  .int .i64 ((c.length : Int)),
  .int .u8 (bt c 0),
  .int .i64 (bt c 0),
  .int .i64 ((bt c 0) * 256),
  .int .u8 (bt c 1),
  .int .i64 (bt c 1),
  .int .i64 (((bt c 0) * 256) + (bt c 1)),
  .int .u8 (bt c 2),
  .int .u8 ((bt c 2) % 2),
  .int .i64 ((bt c 0) * 256),
  .int .i64 (((bt c 0) * 256) + (bt c 1)),
  .int .u32 (ap / 16777216),
  .int .u8 (ap / 16777216),
  .int .u32 (ap / 65536),
  .int .u8 ((ap / 65536) % 256),
  .int .u32 (ap / 256),
  .int .u8 ((ap / 256) % 256),
  .int .u8 (ap % 256),
  .int .u8 (pr % 256),
  St' ([u8 (ap / 16777216), u8 ((ap / 65536) % 256), u8 ((ap / 256) % 256), u8 (ap % 256), u8 (pr % 256)]),
  St' ([u8 (ap / 16777216), u8 ((ap / 65536) % 256), u8 ((ap / 256) % 256), u8 (ap % 256), u8 (pr % 256), u8 0, u8 0, u8 0]),
  St' ([u8 (ap / 16777216), u8 ((ap / 65536) % 256), u8 ((ap / 256) % 256), u8 (ap % 256), u8 (pr % 256), u8 0, u8 0, u8 0]),
  .int .u8 (t % 256),
  St' ([u8 (t % 256)]),
  St' ([u8 (t % 256), u8 0, u8 0, u8 0, u8 0, u8 0, u8 0, u8 0]),
  St' ([u8 (t % 256), u8 0, u8 0, u8 0, u8 0, u8 0, u8 0, u8 0]),
  St' ((nameL t)),
  St' ((nameL t))]
theorem one8 (id : Int) (ap : Int) (pr : Int) (t : Int) (rt : Int) (ri : Int) (c : List UInt8) (rp : Int) : ∀ j, (nuL (nu8 id ap pr t rt ri c rp) j).oneCell' = true := nuL_one (l := nu8 id ap pr t rt ri c rp) rfl
set_option maxHeartbeats 2000000 in
theorem hyOk8 (id : Int) (ap : Int) (pr : Int) (t : Int) (rt : Int) (ri : Int) (c : List UInt8) (rp : Int) (b0 : -9223372036854775808 ≤ id) (b1 : id ≤ 9223372036854775807) (b2 : 0 ≤ ap) (b3 : ap ≤ 4294967295) (b4 : -9223372036854775808 ≤ pr) (b5 : pr ≤ 9223372036854775807) (b6 : -9223372036854775808 ≤ t) (b7 : t ≤ 9223372036854775807) (b8 : -9223372036854775808 ≤ rt) (b9 : rt ≤ 9223372036854775807) (b10 : -9223372036854775808 ≤ ri) (b11 : ri ≤ 9223372036854775807) (b12 : c.length ≤ 9223372036854775807) (b13 : -9223372036854775808 ≤ rp) (b14 : rp ≤ 9223372036854775807) (h0 : ¬ (200 < (c.length : Int))) (h1 : rt = 1) (h2 : (c.length : Int) = 8) (h3 : (bt c 2) % 2 = 0) : ∀ k r, (k, r) ∈ hy8 → HOk (cx (nuL (nu8 id ap pr t rt ri c rp)) (one8 id ap pr t rt ri c rp) 1 laidE laidE_stab) k r := by
  have := bt_lo c 0; have := bt_hi c 0
  have := bt_lo c 1; have := bt_hi c 1
  have := bt_lo c 2; have := bt_hi c 2
  unfold hy8
  refine hcons (kLenE (isX rfl) (denX rfl) (by first | omega | (simp only [List.length_append, List.length_cons, List.length_nil, List.length_take, List.length_drop, Int.natCast_add] at *; omega))) ?_
  refine hcons (kGt (isX rfl) (isZ (m := 200) rfl) (decide_eq_false (by omega))) ?_
  refine hcons (kNeI (isX rfl) (isZ (m := 1) rfl) (neF (by omega))) ?_
  refine hcons (kNeI (isX rfl) (isZ (m := 8) rfl) (neF (by omega))) ?_
  refine hcons (kIdxE (i := 0) (isX rfl) (isZ (m := 0) rfl) (denX rfl) rfl (by first | omega | (simp only [List.length_append, List.length_cons, List.length_nil, List.length_take, List.length_drop, Int.natCast_add] at *; omega)) rfl) ?_
  refine hcons (kConvF (isX rfl) tu3 (denX rfl) (fI64 (by omega) (by omega))) ?_
  refine hcons (kShlM 8 256 rfl (isX rfl) (isZ (m := 8) rfl) (denX rfl) rfl (by decide) rfl (fI64 (by omega) (by omega))) ?_
  refine hcons (kIdxE (i := 1) (isX rfl) (isZ (m := 1) rfl) (denX rfl) rfl (by first | omega | (simp only [List.length_append, List.length_cons, List.length_nil, List.length_take, List.length_drop, Int.natCast_add] at *; omega)) rfl) ?_
  refine hcons (kConvF (isX rfl) tu3 (denX rfl) (fI64 (by omega) (by omega))) ?_
  refine hcons (kOrM 8 256 rfl (isX rfl) (isX rfl) (denX rfl) (by omega) (by omega) (fI64 (by omega) (by omega)) (fI64 (by omega) (by omega)) (by omega) (by omega) rfl (fI64 (by omega) (by omega))) ?_
  refine hcons (kIdxE (i := 2) (isX rfl) (isZ (m := 2) rfl) (denX rfl) rfl (by first | omega | (simp only [List.length_append, List.length_cons, List.length_nil, List.length_take, List.length_drop, Int.natCast_add] at *; omega)) rfl) ?_
  refine hcons (kAndM 1 2 rfl (isX rfl) (isZ (m := 1) rfl) (denX rfl) (by omega) (fU8 (by omega) (by omega)) (fU8 (by omega) (by omega)) rfl rfl) ?_
  refine hcons (kNeI (isX rfl) (isZ (m := 0) rfl) (neF (by omega))) ?_
  refine hcons (kMul (isX rfl) (isZ (m := 256) rfl) (denX rfl) rfl (fI64 (by omega) (by omega))) ?_
  refine hcons (kAdd (isX rfl) (isX rfl) (denX rfl) rfl (fI64 (by omega) (by omega))) ?_
  refine hcons (kEqI (isX rfl) (isZ (m := 1) rfl) (decide_eq_false (by omega))) ?_
  refine hcons (kNeI (isX rfl) (isZ (m := 3) rfl) (neT (by omega))) ?_
  refine hcons (kEqT (isX rfl) (isX rfl) tu3 (decide_eq_true (by omega))) ?_
  refine hcons (kEqI (isX rfl) (isX rfl) (decide_eq_true (by omega))) ?_
  refine hcons (kShrM 24 16777216 rfl (isX rfl) (isZ (m := 24) rfl) (denX rfl) rfl (by decide) (by omega) rfl) ?_
  refine hcons (kConvF (isX rfl) tu5 (denX rfl) (fU8 (by omega) (by omega))) ?_
  refine hcons (kShrM 16 65536 rfl (isX rfl) (isZ (m := 16) rfl) (denX rfl) rfl (by decide) (by omega) rfl) ?_
  refine hcons (kConv8 (isX rfl) tu5 (denX rfl) rfl) ?_
  refine hcons (kShrM 8 256 rfl (isX rfl) (isZ (m := 8) rfl) (denX rfl) rfl (by decide) (by omega) rfl) ?_
  refine hcons (kConv8 (isX rfl) tu5 (denX rfl) rfl) ?_
  refine hcons (kConv8 (isX rfl) tu5 (denX rfl) rfl) ?_
  refine hcons (kConv8 (isX rfl) tu5 (denX rfl) rfl) ?_
  refine hcons (kBytesB (bs := [u8 (ap / 16777216), u8 ((ap / 65536) % 256), u8 ((ap / 256) % 256), u8 (ap % 256), u8 (pr % 256)]) (.cons (isB8 (isX rfl) (by omega) (by omega)) (.cons (isB8 (isX rfl) (by omega) (by omega)) (.cons (isB8 (isX rfl) (by omega) (by omega)) (.cons (isB8 (isX rfl) (by omega) (by omega)) (.cons (isB8 (isX rfl) (by omega) (by omega)) .nil))))) (denX rfl)) ?_
  refine hcons (kLenE (isX rfl) (denZ (m := 5) rfl) (by first | omega | (simp only [List.length_append, List.length_cons, List.length_nil, List.length_take, List.length_drop, Int.natCast_add] at *; omega))) ?_
  refine hcons (kCat (isX rfl) (isSx (l := [u8 0, u8 0, u8 0]) 3 0 rfl) (denX rfl) (by first | rfl | (simp only [List.append_assoc, List.cons_append, List.nil_append, List.append_nil]; done)) (by first | omega | (simp only [List.length_append, List.length_cons, List.length_nil, List.length_take, List.length_drop, Int.natCast_add] at *; omega))) ?_
  refine hcons (kBytesB (bs := [u8 (ap / 16777216), u8 ((ap / 65536) % 256), u8 ((ap / 256) % 256), u8 (ap % 256), u8 (pr % 256), u8 0, u8 0, u8 0]) (.cons (isB8 (isX rfl) (by omega) (by omega)) (.cons (isB8 (isX rfl) (by omega) (by omega)) (.cons (isB8 (isX rfl) (by omega) (by omega)) (.cons (isB8 (isX rfl) (by omega) (by omega)) (.cons (isB8 (isX rfl) (by omega) (by omega)) (.cons (isB8 (isZ (m := 0) rfl) (by omega) (by omega)) (.cons (isB8 (isZ (m := 0) rfl) (by omega) (by omega)) (.cons (isB8 (isZ (m := 0) rfl) (by omega) (by omega)) .nil)))))))) (denX rfl)) ?_
  refine hcons (kEqTS (isX rfl) (isX rfl) tu9 (decide_eq_true rfl)) ?_
  refine hcons (kConv8 (isX rfl) tu5 (denX rfl) rfl) ?_
  refine hcons (kBytesB (bs := [u8 (t % 256)]) (.cons (isB8 (isX rfl) (by omega) (by omega)) .nil) (denX rfl)) ?_
  refine hcons (kLenE (isX rfl) (denZ (m := 1) rfl) (by first | omega | (simp only [List.length_append, List.length_cons, List.length_nil, List.length_take, List.length_drop, Int.natCast_add] at *; omega))) ?_
  refine hcons (kCat (isX rfl) (isSx (l := [u8 0, u8 0, u8 0, u8 0, u8 0, u8 0, u8 0]) 7 0 rfl) (denX rfl) (by first | rfl | (simp only [List.append_assoc, List.cons_append, List.nil_append, List.append_nil]; done)) (by first | omega | (simp only [List.length_append, List.length_cons, List.length_nil, List.length_take, List.length_drop, Int.natCast_add] at *; omega))) ?_
  refine hcons (kBytesB (bs := [u8 (t % 256), u8 0, u8 0, u8 0, u8 0, u8 0, u8 0, u8 0]) (.cons (isB8 (isX rfl) (by omega) (by omega)) (.cons (isB8 (isZ (m := 0) rfl) (by omega) (by omega)) (.cons (isB8 (isZ (m := 0) rfl) (by omega) (by omega)) (.cons (isB8 (isZ (m := 0) rfl) (by omega) (by omega)) (.cons (isB8 (isZ (m := 0) rfl) (by omega) (by omega)) (.cons (isB8 (isZ (m := 0) rfl) (by omega) (by omega)) (.cons (isB8 (isZ (m := 0) rfl) (by omega) (by omega)) (.cons (isB8 (isZ (m := 0) rfl) (by omega) (by omega)) .nil)))))))) (denX rfl)) ?_
  refine hcons (kEqTS (isX rfl) (isX rfl) tu9 (decide_eq_true rfl)) ?_
  refine hcons (hokg53 rfl rfl (by omega) (by omega)) ?_
  refine hcons (hokg54 rfl rfl (by omega) (by omega)) ?_
  refine hcons (kEqS (isX rfl) (isX rfl) (decide_eq_true rfl)) ?_
  exact hnil
theorem path8 (id : Int) (ap : Int) (pr : Int) (t : Int) (rt : Int) (ri : Int) (c : List UInt8) (rp : Int) (b0 : -9223372036854775808 ≤ id) (b1 : id ≤ 9223372036854775807) (b2 : 0 ≤ ap) (b3 : ap ≤ 4294967295) (b4 : -9223372036854775808 ≤ pr) (b5 : pr ≤ 9223372036854775807) (b6 : -9223372036854775808 ≤ t) (b7 : t ≤ 9223372036854775807) (b8 : -9223372036854775808 ≤ rt) (b9 : rt ≤ 9223372036854775807) (b10 : -9223372036854775808 ≤ ri) (b11 : ri ≤ 9223372036854775807) (b12 : c.length ≤ 9223372036854775807) (b13 : -9223372036854775808 ≤ rp) (b14 : rp ≤ 9223372036854775807) (h0 : ¬ (200 < (c.length : Int))) (h1 : rt = 1) (h2 : (c.length : Int) = 8) (h3 : (bt c 2) % 2 = 0) (w : World) (hl : laidE w) : Calls Tryd.prog 7 #[.int .i64 id, .bool true, .agg #[.int .u32 ap, .int .i64 pr], .int .i64 t, .agg #[.int .i64 rt, .int .i64 ri, St' c, .int .i64 rp]] w fun e w' => e = .returned (.bool true) ∧ Go.AX.Below w.heap.size w w' := by
  obtain ⟨fi, hfi, hb⟩ : ∃ fi, tabk.fn.get 7 = some fi ∧ fi.body.isSome = true := ⟨_, rfl, by kernel_rfl⟩
  exact runP (tb := tab8) ((tabkOk (nuL (nu8 id ap pr t rt ri c rp)) (one8 id ap pr t rt ri c rp)).hyps (hyOk8 id ap pr t rt ri c rp b0 b1 b2 b3 b4 b5 b6 b7 b8 b9 b10 b11 b12 b13 b14 h0 h1 h2 h3)) rfl hfi hb (fun e => run8 e ) (args := [.int .i64 id, .bool true, .agg #[.int .u32 ap, .int .i64 pr], .int .i64 t, .agg #[.int .i64 rt, .int .i64 ri, St' c, .int .i64 rp]]) (by simp only [RelL, Rel]; exact ⟨_, _, rfl, rfl, ⟨_, _, rfl, rfl, ⟨_, _, rfl, ⟨_, rfl, ⟨_, _, rfl, rfl, ⟨_, _, rfl, rfl, rfl⟩⟩⟩, ⟨_, _, rfl, rfl, ⟨_, _, rfl, ⟨_, rfl, ⟨_, _, rfl, rfl, ⟨_, _, rfl, rfl, ⟨_, _, rfl, rfl, ⟨_, _, rfl, rfl, rfl⟩⟩⟩⟩⟩, rfl⟩⟩⟩⟩⟩) w hl
def hy9 : List (HK × AV) := [(.len (.x 6), .x 8),
  (.bin .gtr (.x 8) (.i .i64 (.ofNat 200)), .b false),
  (.bin .neq (.x 4) (.i .i64 (.ofNat 1)), .b false),
  (.bin .neq (.x 8) (.i .i64 (.ofNat 8)), .b true),
  (.bin .neq (.x 4) (.i .i64 (.ofNat 3)), .b true),
  (.eq 3 (.x 0) (.x 0), .b true),
  (.bin .shr (.x 1) (.i .u64 (.ofNat 24)), .x 9),
  (.conv 5 (.x 9), .x 10),
  (.bin .shr (.x 1) (.i .u64 (.ofNat 16)), .x 11),
  (.conv 5 (.x 11), .x 12),
  (.bin .shr (.x 1) (.i .u64 (.ofNat 8)), .x 13),
  (.conv 5 (.x 13), .x 14),
  (.conv 5 (.x 1), .x 15),
  (.conv 5 (.x 2), .x 16),
  (.bytes [.x 10, .x 12, .x 14, .x 15, .x 16], .x 17),
  (.len (.x 17), .i .i64 (.ofNat 5)),
  (.bin .add (.x 17) (.s 3 0), .x 18),
  (.bytes [.x 10, .x 12, .x 14, .x 15, .x 16, .i .u8 (.ofNat 0), .i .u8 (.ofNat 0), .i .u8 (.ofNat 0)], .x 19),
  (.eq 9 (.x 18) (.x 19), .b true),
  (.conv 5 (.x 3), .x 20),
  (.bytes [.x 20], .x 21),
  (.len (.x 21), .i .i64 (.ofNat 1)),
  (.bin .add (.x 21) (.s 7 0), .x 22),
  (.bytes [.x 20, .i .u8 (.ofNat 0), .i .u8 (.ofNat 0), .i .u8 (.ofNat 0), .i .u8 (.ofNat 0), .i .u8 (.ofNat 0), .i .u8 (.ofNat 0), .i .u8 (.ofNat 0)], .x 23),
  (.eq 9 (.x 22) (.x 23), .b true),
  (.call 53 [.x 3], .x 24),
  (.call 54 [.x 3], .x 25),
  (.bin .eql (.x 24) (.x 25), .b true)]
noncomputable def tab9 : Tab := { tabk with hyp := hy9 }
theorem run9 (e : Nat) : okB (call tab9 9000 7 [.x 0, .b true, .ag [.x 1, .x 2], .x 3, .ag [.x 4, .x 5, .x 6, .x 7]] ⟨H0 e , 7, 0, 0⟩) = true := by kernel_rfl
def nu9 (id : Int) (ap : Int) (pr : Int) (t : Int) (rt : Int) (ri : Int) (c : List UInt8) (rp : Int) : List Value := [.int .i64 (id),
  .int .u32 (ap),
  .int .i64 (pr),
  .int .i64 (t),
  .int .i64 (rt),
  .int .i64 (ri),
  St' c,
  .int .i64 (rp),
  .int .i64 ((c.length : Int)),
  .int .u32 (ap / 16777216),
  .int .u8 (ap / 16777216),
  .int .u32 (ap / 65536),
  .int .u8 ((ap / 65536) % 256),
  .int .u32 (ap / 256),
  .int .u8 ((ap / 256) % 256),
  .int .u8 (ap % 256),
  .int .u8 (pr % 256),
  St' ([u8 (ap / 16777216), u8 ((ap / 65536) % 256), u8 ((ap / 256) % 256), u8 (ap % 256), u8 (pr % 256)]),
  St' ([u8 (ap / 16777216), u8 ((ap / 65536) % 256), u8 ((ap / 256) % 256), u8 (ap % 256), u8 (pr % 256), u8 0, u8 0, u8 0]),
  St' ([u8 (ap / 16777216), u8 ((ap / 65536) % 256), u8 ((ap / 256) % 256), u8 (ap % 256), u8 (pr % 256), u8 0, u8 0, u8 0]),
  .int .u8 (t % 256),
  St' ([u8 (t % 256)]),
  St' ([u8 (t % 256), u8 0, u8 0, u8 0, u8 0, u8 0, u8 0, u8 0]),
  St' ([u8 (t % 256), u8 0, u8 0, u8 0, u8 0, u8 0, u8 0, u8 0]),
  St' ((nameL t)),
  St' ((nameL t))]
theorem one9 (id : Int) (ap : Int) (pr : Int) (t : Int) (rt : Int) (ri : Int) (c : List UInt8) (rp : Int) : ∀ j, (nuL (nu9 id ap pr t rt ri c rp) j).oneCell' = true := nuL_one (l := nu9 id ap pr t rt ri c rp) rfl
set_option maxHeartbeats 2000000 in
theorem hyOk9 (id : Int) (ap : Int) (pr : Int) (t : Int) (rt : Int) (ri : Int) (c : List UInt8) (rp : Int) (b0 : -9223372036854775808 ≤ id) (b1 : id ≤ 9223372036854775807) (b2 : 0 ≤ ap) (b3 : ap ≤ 4294967295) (b4 : -9223372036854775808 ≤ pr) (b5 : pr ≤ 9223372036854775807) (b6 : -9223372036854775808 ≤ t) (b7 : t ≤ 9223372036854775807) (b8 : -9223372036854775808 ≤ rt) (b9 : rt ≤ 9223372036854775807) (b10 : -9223372036854775808 ≤ ri) (b11 : ri ≤ 9223372036854775807) (b12 : c.length ≤ 9223372036854775807) (b13 : -9223372036854775808 ≤ rp) (b14 : rp ≤ 9223372036854775807) (h0 : ¬ (200 < (c.length : Int))) (h1 : rt = 1) (h2 : ¬ ((c.length : Int) = 8)) : ∀ k r, (k, r) ∈ hy9 → HOk (cx (nuL (nu9 id ap pr t rt ri c rp)) (one9 id ap pr t rt ri c rp) 1 laidE laidE_stab) k r := by
  unfold hy9
  refine hcons (kLenE (isX rfl) (denX rfl) (by first | omega | (simp only [List.length_append, List.length_cons, List.length_nil, List.length_take, List.length_drop, Int.natCast_add] at *; omega))) ?_
  refine hcons (kGt (isX rfl) (isZ (m := 200) rfl) (decide_eq_false (by omega))) ?_
  refine hcons (kNeI (isX rfl) (isZ (m := 1) rfl) (neF (by omega))) ?_
  refine hcons (kNeI (isX rfl) (isZ (m := 8) rfl) (neT (by omega))) ?_
  refine hcons (kNeI (isX rfl) (isZ (m := 3) rfl) (neT (by omega))) ?_
  refine hcons (kEqT (isX rfl) (isX rfl) tu3 (decide_eq_true (by omega))) ?_
  refine hcons (kShrM 24 16777216 rfl (isX rfl) (isZ (m := 24) rfl) (denX rfl) rfl (by decide) (by omega) rfl) ?_
  refine hcons (kConvF (isX rfl) tu5 (denX rfl) (fU8 (by omega) (by omega))) ?_
  refine hcons (kShrM 16 65536 rfl (isX rfl) (isZ (m := 16) rfl) (denX rfl) rfl (by decide) (by omega) rfl) ?_
  refine hcons (kConv8 (isX rfl) tu5 (denX rfl) rfl) ?_
  refine hcons (kShrM 8 256 rfl (isX rfl) (isZ (m := 8) rfl) (denX rfl) rfl (by decide) (by omega) rfl) ?_
  refine hcons (kConv8 (isX rfl) tu5 (denX rfl) rfl) ?_
  refine hcons (kConv8 (isX rfl) tu5 (denX rfl) rfl) ?_
  refine hcons (kConv8 (isX rfl) tu5 (denX rfl) rfl) ?_
  refine hcons (kBytesB (bs := [u8 (ap / 16777216), u8 ((ap / 65536) % 256), u8 ((ap / 256) % 256), u8 (ap % 256), u8 (pr % 256)]) (.cons (isB8 (isX rfl) (by omega) (by omega)) (.cons (isB8 (isX rfl) (by omega) (by omega)) (.cons (isB8 (isX rfl) (by omega) (by omega)) (.cons (isB8 (isX rfl) (by omega) (by omega)) (.cons (isB8 (isX rfl) (by omega) (by omega)) .nil))))) (denX rfl)) ?_
  refine hcons (kLenE (isX rfl) (denZ (m := 5) rfl) (by first | omega | (simp only [List.length_append, List.length_cons, List.length_nil, List.length_take, List.length_drop, Int.natCast_add] at *; omega))) ?_
  refine hcons (kCat (isX rfl) (isSx (l := [u8 0, u8 0, u8 0]) 3 0 rfl) (denX rfl) (by first | rfl | (simp only [List.append_assoc, List.cons_append, List.nil_append, List.append_nil]; done)) (by first | omega | (simp only [List.length_append, List.length_cons, List.length_nil, List.length_take, List.length_drop, Int.natCast_add] at *; omega))) ?_
  refine hcons (kBytesB (bs := [u8 (ap / 16777216), u8 ((ap / 65536) % 256), u8 ((ap / 256) % 256), u8 (ap % 256), u8 (pr % 256), u8 0, u8 0, u8 0]) (.cons (isB8 (isX rfl) (by omega) (by omega)) (.cons (isB8 (isX rfl) (by omega) (by omega)) (.cons (isB8 (isX rfl) (by omega) (by omega)) (.cons (isB8 (isX rfl) (by omega) (by omega)) (.cons (isB8 (isX rfl) (by omega) (by omega)) (.cons (isB8 (isZ (m := 0) rfl) (by omega) (by omega)) (.cons (isB8 (isZ (m := 0) rfl) (by omega) (by omega)) (.cons (isB8 (isZ (m := 0) rfl) (by omega) (by omega)) .nil)))))))) (denX rfl)) ?_
  refine hcons (kEqTS (isX rfl) (isX rfl) tu9 (decide_eq_true rfl)) ?_
  refine hcons (kConv8 (isX rfl) tu5 (denX rfl) rfl) ?_
  refine hcons (kBytesB (bs := [u8 (t % 256)]) (.cons (isB8 (isX rfl) (by omega) (by omega)) .nil) (denX rfl)) ?_
  refine hcons (kLenE (isX rfl) (denZ (m := 1) rfl) (by first | omega | (simp only [List.length_append, List.length_cons, List.length_nil, List.length_take, List.length_drop, Int.natCast_add] at *; omega))) ?_
  refine hcons (kCat (isX rfl) (isSx (l := [u8 0, u8 0, u8 0, u8 0, u8 0, u8 0, u8 0]) 7 0 rfl) (denX rfl) (by first | rfl | (simp only [List.append_assoc, List.cons_append, List.nil_append, List.append_nil]; done)) (by first | omega | (simp only [List.length_append, List.length_cons, List.length_nil, List.length_take, List.length_drop, Int.natCast_add] at *; omega))) ?_
  refine hcons (kBytesB (bs := [u8 (t % 256), u8 0, u8 0, u8 0, u8 0, u8 0, u8 0, u8 0]) (.cons (isB8 (isX rfl) (by omega) (by omega)) (.cons (isB8 (isZ (m := 0) rfl) (by omega) (by omega)) (.cons (isB8 (isZ (m := 0) rfl) (by omega) (by omega)) (.cons (isB8 (isZ (m := 0) rfl) (by omega) (by omega)) (.cons (isB8 (isZ (m := 0) rfl) (by omega) (by omega)) (.cons (isB8 (isZ (m := 0) rfl) (by omega) (by omega)) (.cons (isB8 (isZ (m := 0) rfl) (by omega) (by omega)) (.cons (isB8 (isZ (m := 0) rfl) (by omega) (by omega)) .nil)))))))) (denX rfl)) ?_
  refine hcons (kEqTS (isX rfl) (isX rfl) tu9 (decide_eq_true rfl)) ?_
  refine hcons (hokg53 rfl rfl (by omega) (by omega)) ?_
  refine hcons (hokg54 rfl rfl (by omega) (by omega)) ?_
  refine hcons (kEqS (isX rfl) (isX rfl) (decide_eq_true rfl)) ?_
  exact hnil
theorem path9 (id : Int) (ap : Int) (pr : Int) (t : Int) (rt : Int) (ri : Int) (c : List UInt8) (rp : Int) (b0 : -9223372036854775808 ≤ id) (b1 : id ≤ 9223372036854775807) (b2 : 0 ≤ ap) (b3 : ap ≤ 4294967295) (b4 : -9223372036854775808 ≤ pr) (b5 : pr ≤ 9223372036854775807) (b6 : -9223372036854775808 ≤ t) (b7 : t ≤ 9223372036854775807) (b8 : -9223372036854775808 ≤ rt) (b9 : rt ≤ 9223372036854775807) (b10 : -9223372036854775808 ≤ ri) (b11 : ri ≤ 9223372036854775807) (b12 : c.length ≤ 9223372036854775807) (b13 : -9223372036854775808 ≤ rp) (b14 : rp ≤ 9223372036854775807) (h0 : ¬ (200 < (c.length : Int))) (h1 : rt = 1) (h2 : ¬ ((c.length : Int) = 8)) (w : World) (hl : laidE w) : Calls Tryd.prog 7 #[.int .i64 id, .bool true, .agg #[.int .u32 ap, .int .i64 pr], .int .i64 t, .agg #[.int .i64 rt, .int .i64 ri, St' c, .int .i64 rp]] w fun e w' => e = .returned (.bool true) ∧ Go.AX.Below w.heap.size w w' := by
  obtain ⟨fi, hfi, hb⟩ : ∃ fi, tabk.fn.get 7 = some fi ∧ fi.body.isSome = true := ⟨_, rfl, by kernel_rfl⟩
  exact runP (tb := tab9) ((tabkOk (nuL (nu9 id ap pr t rt ri c rp)) (one9 id ap pr t rt ri c rp)).hyps (hyOk9 id ap pr t rt ri c rp b0 b1 b2 b3 b4 b5 b6 b7 b8 b9 b10 b11 b12 b13 b14 h0 h1 h2)) rfl hfi hb (fun e => run9 e ) (args := [.int .i64 id, .bool true, .agg #[.int .u32 ap, .int .i64 pr], .int .i64 t, .agg #[.int .i64 rt, .int .i64 ri, St' c, .int .i64 rp]]) (by simp only [RelL, Rel]; exact ⟨_, _, rfl, rfl, ⟨_, _, rfl, rfl, ⟨_, _, rfl, ⟨_, rfl, ⟨_, _, rfl, rfl, ⟨_, _, rfl, rfl, rfl⟩⟩⟩, ⟨_, _, rfl, rfl, ⟨_, _, rfl, ⟨_, rfl, ⟨_, _, rfl, rfl, ⟨_, _, rfl, rfl, ⟨_, _, rfl, rfl, ⟨_, _, rfl, rfl, rfl⟩⟩⟩⟩⟩, rfl⟩⟩⟩⟩⟩) w hl
def hy10 : List (HK × AV) := [(.len (.x 6), .x 8),
  (.bin .gtr (.x 8) (.i .i64 (.ofNat 200)), .b true)]
noncomputable def tab10 : Tab := { tabk with hyp := hy10 }
theorem run10 (e : Nat) : okB (call tab10 9000 7 [.x 0, .b true, .ag [.x 1, .x 2], .x 3, .ag [.x 4, .x 5, .x 6, .x 7]] ⟨H0 e , 7, 0, 0⟩) = true := by kernel_rfl
def nu10 (id : Int) (ap : Int) (pr : Int) (t : Int) (rt : Int) (ri : Int) (c : List UInt8) (rp : Int) : List Value := [.int .i64 (id),
  .int .u32 (ap),
  .int .i64 (pr),
  .int .i64 (t),
  .int .i64 (rt),
  .int .i64 (ri),
  St' c,
  .int .i64 (rp),
  .int .i64 ((c.length : Int))]
theorem one10 (id : Int) (ap : Int) (pr : Int) (t : Int) (rt : Int) (ri : Int) (c : List UInt8) (rp : Int) : ∀ j, (nuL (nu10 id ap pr t rt ri c rp) j).oneCell' = true := nuL_one (l := nu10 id ap pr t rt ri c rp) rfl
set_option maxHeartbeats 2000000 in
theorem hyOk10 (id : Int) (ap : Int) (pr : Int) (t : Int) (rt : Int) (ri : Int) (c : List UInt8) (rp : Int) (b0 : -9223372036854775808 ≤ id) (b1 : id ≤ 9223372036854775807) (b2 : 0 ≤ ap) (b3 : ap ≤ 4294967295) (b4 : -9223372036854775808 ≤ pr) (b5 : pr ≤ 9223372036854775807) (b6 : -9223372036854775808 ≤ t) (b7 : t ≤ 9223372036854775807) (b8 : -9223372036854775808 ≤ rt) (b9 : rt ≤ 9223372036854775807) (b10 : -9223372036854775808 ≤ ri) (b11 : ri ≤ 9223372036854775807) (b12 : c.length ≤ 9223372036854775807) (b13 : -9223372036854775808 ≤ rp) (b14 : rp ≤ 9223372036854775807) (h0 : 200 < (c.length : Int)) : ∀ k r, (k, r) ∈ hy10 → HOk (cx (nuL (nu10 id ap pr t rt ri c rp)) (one10 id ap pr t rt ri c rp) 1 laidE laidE_stab) k r := by
  unfold hy10
  refine hcons (kLenE (isX rfl) (denX rfl) (by first | omega | (simp only [List.length_append, List.length_cons, List.length_nil, List.length_take, List.length_drop, Int.natCast_add] at *; omega))) ?_
  refine hcons (kGt (isX rfl) (isZ (m := 200) rfl) (decide_eq_true (by omega))) ?_
  exact hnil
theorem path10 (id : Int) (ap : Int) (pr : Int) (t : Int) (rt : Int) (ri : Int) (c : List UInt8) (rp : Int) (b0 : -9223372036854775808 ≤ id) (b1 : id ≤ 9223372036854775807) (b2 : 0 ≤ ap) (b3 : ap ≤ 4294967295) (b4 : -9223372036854775808 ≤ pr) (b5 : pr ≤ 9223372036854775807) (b6 : -9223372036854775808 ≤ t) (b7 : t ≤ 9223372036854775807) (b8 : -9223372036854775808 ≤ rt) (b9 : rt ≤ 9223372036854775807) (b10 : -9223372036854775808 ≤ ri) (b11 : ri ≤ 9223372036854775807) (b12 : c.length ≤ 9223372036854775807) (b13 : -9223372036854775808 ≤ rp) (b14 : rp ≤ 9223372036854775807) (h0 : 200 < (c.length : Int)) (w : World) (hl : laidE w) : Calls Tryd.prog 7 #[.int .i64 id, .bool true, .agg #[.int .u32 ap, .int .i64 pr], .int .i64 t, .agg #[.int .i64 rt, .int .i64 ri, St' c, .int .i64 rp]] w fun e w' => e = .returned (.bool true) ∧ Go.AX.Below w.heap.size w w' := by
  obtain ⟨fi, hfi, hb⟩ : ∃ fi, tabk.fn.get 7 = some fi ∧ fi.body.isSome = true := ⟨_, rfl, by kernel_rfl⟩
  exact runP (tb := tab10) ((tabkOk (nuL (nu10 id ap pr t rt ri c rp)) (one10 id ap pr t rt ri c rp)).hyps (hyOk10 id ap pr t rt ri c rp b0 b1 b2 b3 b4 b5 b6 b7 b8 b9 b10 b11 b12 b13 b14 h0)) rfl hfi hb (fun e => run10 e ) (args := [.int .i64 id, .bool true, .agg #[.int .u32 ap, .int .i64 pr], .int .i64 t, .agg #[.int .i64 rt, .int .i64 ri, St' c, .int .i64 rp]]) (by simp only [RelL, Rel]; exact ⟨_, _, rfl, rfl, ⟨_, _, rfl, rfl, ⟨_, _, rfl, ⟨_, rfl, ⟨_, _, rfl, rfl, ⟨_, _, rfl, rfl, rfl⟩⟩⟩, ⟨_, _, rfl, rfl, ⟨_, _, rfl, ⟨_, rfl, ⟨_, _, rfl, rfl, ⟨_, _, rfl, rfl, ⟨_, _, rfl, rfl, ⟨_, _, rfl, rfl, rfl⟩⟩⟩⟩⟩, rfl⟩⟩⟩⟩⟩) w hl
def hy11 : List (HK × AV) := [(.len (.x 6), .x 8),
  (.bin .gtr (.x 8) (.i .i64 (.ofNat 200)), .b false),
  (.bin .neq (.x 4) (.i .i64 (.ofNat 1)), .b true),
  (.bin .neq (.x 4) (.i .i64 (.ofNat 3)), .b false),
  (.bin .neq (.x 8) (.i .i64 (.ofNat 8)), .b false),
  (.idx (.x 6) (.i .i64 (.ofNat 0)), .x 9),
  (.conv 56 (.x 9), .x 10),
  (.bin .shl (.x 10) (.i .u64 (.ofNat 24)), .x 11),
  (.idx (.x 6) (.i .i64 (.ofNat 1)), .x 12),
  (.conv 56 (.x 12), .x 13),
  (.bin .shl (.x 13) (.i .u64 (.ofNat 16)), .x 14),
  (.bin .or (.x 11) (.x 14), .x 15),
  (.idx (.x 6) (.i .i64 (.ofNat 2)), .x 16),
  (.conv 56 (.x 16), .x 17),
  (.bin .shl (.x 17) (.i .u64 (.ofNat 8)), .x 18),
  (.bin .or (.x 15) (.x 18), .x 19),
  (.idx (.x 6) (.i .i64 (.ofNat 3)), .x 20),
  (.conv 56 (.x 20), .x 21),
  (.bin .or (.x 19) (.x 21), .x 22),
  (.idx (.x 6) (.i .i64 (.ofNat 4)), .x 23),
  (.conv 3 (.x 23), .x 24),
  (.eq 3 (.x 0) (.x 0), .b true),
  (.bin .shr (.x 1) (.i .u64 (.ofNat 24)), .x 25),
  (.conv 5 (.x 25), .x 26),
  (.bin .shr (.x 1) (.i .u64 (.ofNat 16)), .x 27),
  (.conv 5 (.x 27), .x 28),
  (.bin .shr (.x 1) (.i .u64 (.ofNat 8)), .x 29),
  (.conv 5 (.x 29), .x 30),
  (.conv 5 (.x 1), .x 31),
  (.conv 5 (.x 2), .x 32),
  (.bytes [.x 26, .x 28, .x 30, .x 31, .x 32], .x 33),
  (.len (.x 33), .i .i64 (.ofNat 5)),
  (.bin .add (.x 33) (.s 3 0), .x 34),
  (.bytes [.x 26, .x 28, .x 30, .x 31, .x 32, .i .u8 (.ofNat 0), .i .u8 (.ofNat 0), .i .u8 (.ofNat 0)], .x 35),
  (.eq 9 (.x 34) (.x 35), .b true),
  (.eq 56 (.x 22) (.x 22), .b true),
  (.eq 3 (.x 24) (.x 24), .b true),
  (.conv 5 (.x 3), .x 36),
  (.bytes [.x 36], .x 37),
  (.len (.x 37), .i .i64 (.ofNat 1)),
  (.bin .add (.x 37) (.s 7 0), .x 38),
  (.bytes [.x 36, .i .u8 (.ofNat 0), .i .u8 (.ofNat 0), .i .u8 (.ofNat 0), .i .u8 (.ofNat 0), .i .u8 (.ofNat 0), .i .u8 (.ofNat 0), .i .u8 (.ofNat 0)], .x 39),
  (.eq 9 (.x 38) (.x 39), .b true),
  (.call 53 [.x 3], .x 40),
  (.call 54 [.x 3], .x 41),
  (.bin .eql (.x 40) (.x 41), .b true)]
noncomputable def tab11 : Tab := { tabk with hyp := hy11 }
theorem run11 (e : Nat) : okB (call tab11 9000 7 [.x 0, .b true, .ag [.x 1, .x 2], .x 3, .ag [.x 4, .x 5, .x 6, .x 7]] ⟨H0 e , 7, 0, 0⟩) = true := by kernel_rfl
def nu11 (id : Int) (ap : Int) (pr : Int) (t : Int) (rt : Int) (ri : Int) (c : List UInt8) (rp : Int) : List Value := [.int .i64 (id),
  .int .u32 (ap),
  .int .i64 (pr),
  .int .i64 (t),
  .int .i64 (rt),
  .int .i64 (ri),
  St' c,
  .int .i64 (rp),
  .int .i64 ((c.length : Int)),
  .int .u8 (bt c 0),
  .int .u32 (bt c 0),
  .int .u32 ((bt c 0) * 16777216),
  .int .u8 (bt c 1),
  .int .u32 (bt c 1),
  .int .u32 ((bt c 1) * 65536),
  .int .u32 (((bt c 0) * 16777216) + ((bt c 1) * 65536)),
  .int .u8 (bt c 2),
  .int .u32 (bt c 2),
  .int .u32 ((bt c 2) * 256),
  .int .u32 ((((bt c 0) * 16777216) + ((bt c 1) * 65536)) + ((bt c 2) * 256)),
  .int .u8 (bt c 3),
  .int .u32 (bt c 3),
  .int .u32 (((((bt c 0) * 16777216) + ((bt c 1) * 65536)) + ((bt c 2) * 256)) + (bt c 3)),
  .int .u8 (bt c 4),
  .int .i64 (bt c 4),
  .int .u32 (ap / 16777216),
  .int .u8 (ap / 16777216),
  .int .u32 (ap / 65536),
  .int .u8 ((ap / 65536) % 256),
  .int .u32 (ap / 256),
  .int .u8 ((ap / 256) % 256),
  .int .u8 (ap % 256),
  .int .u8 (pr % 256),
  St' ([u8 (ap / 16777216), u8 ((ap / 65536) % 256), u8 ((ap / 256) % 256), u8 (ap % 256), u8 (pr % 256)]),
  St' ([u8 (ap / 16777216), u8 ((ap / 65536) % 256), u8 ((ap / 256) % 256), u8 (ap % 256), u8 (pr % 256), u8 0, u8 0, u8 0]),
  St' ([u8 (ap / 16777216), u8 ((ap / 65536) % 256), u8 ((ap / 256) % 256), u8 (ap % 256), u8 (pr % 256), u8 0, u8 0, u8 0]),
  .int .u8 (t % 256),
  St' ([u8 (t % 256)]),
  St' ([u8 (t % 256), u8 0, u8 0, u8 0, u8 0, u8 0, u8 0, u8 0]),
  St' ([u8 (t % 256), u8 0, u8 0, u8 0, u8 0, u8 0, u8 0, u8 0]),
  St' ((nameL t)),
  St' ((nameL t))]
theorem one11 (id : Int) (ap : Int) (pr : Int) (t : Int) (rt : Int) (ri : Int) (c : List UInt8) (rp : Int) : ∀ j, (nuL (nu11 id ap pr t rt ri c rp) j).oneCell' = true := nuL_one (l := nu11 id ap pr t rt ri c rp) rfl
set_option maxHeartbeats 2000000 in
theorem hyOk11 (id : Int) (ap : Int) (pr : Int) (t : Int) (rt : Int) (ri : Int) (c : List UInt8) (rp : Int) (b0 : -9223372036854775808 ≤ id) (b1 : id ≤ 9223372036854775807) (b2 : 0 ≤ ap) (b3 : ap ≤ 4294967295) (b4 : -9223372036854775808 ≤ pr) (b5 : pr ≤ 9223372036854775807) (b6 : -9223372036854775808 ≤ t) (b7 : t ≤ 9223372036854775807) (b8 : -9223372036854775808 ≤ rt) (b9 : rt ≤ 9223372036854775807) (b10 : -9223372036854775808 ≤ ri) (b11 : ri ≤ 9223372036854775807) (b12 : c.length ≤ 9223372036854775807) (b13 : -9223372036854775808 ≤ rp) (b14 : rp ≤ 9223372036854775807) (h0 : ¬ (200 < (c.length : Int))) (h1 : ¬ (rt = 1)) (h2 : rt = 3) (h3 : (c.length : Int) = 8) : ∀ k r, (k, r) ∈ hy11 → HOk (cx (nuL (nu11 id ap pr t rt ri c rp)) (one11 id ap pr t rt ri c rp) 1 laidE laidE_stab) k r := by
  have := bt_lo c 0; have := bt_hi c 0
  have := bt_lo c 1; have := bt_hi c 1
  have := bt_lo c 2; have := bt_hi c 2
  have := bt_lo c 3; have := bt_hi c 3
  have := bt_lo c 4; have := bt_hi c 4
  unfold hy11
  refine hcons (kLenE (isX rfl) (denX rfl) (by first | omega | (simp only [List.length_append, List.length_cons, List.length_nil, List.length_take, List.length_drop, Int.natCast_add] at *; omega))) ?_
  refine hcons (kGt (isX rfl) (isZ (m := 200) rfl) (decide_eq_false (by omega))) ?_
  refine hcons (kNeI (isX rfl) (isZ (m := 1) rfl) (neT (by omega))) ?_
  refine hcons (kNeI (isX rfl) (isZ (m := 3) rfl) (neF (by omega))) ?_
  refine hcons (kNeI (isX rfl) (isZ (m := 8) rfl) (neF (by omega))) ?_
  refine hcons (kIdxE (i := 0) (isX rfl) (isZ (m := 0) rfl) (denX rfl) rfl (by first | omega | (simp only [List.length_append, List.length_cons, List.length_nil, List.length_take, List.length_drop, Int.natCast_add] at *; omega)) rfl) ?_
  refine hcons (kConvF (isX rfl) tu56 (denX rfl) (fU32 (by omega) (by omega))) ?_
  refine hcons (kShlM 24 16777216 rfl (isX rfl) (isZ (m := 24) rfl) (denX rfl) rfl (by decide) rfl (fU32 (by omega) (by omega))) ?_
  refine hcons (kIdxE (i := 1) (isX rfl) (isZ (m := 1) rfl) (denX rfl) rfl (by first | omega | (simp only [List.length_append, List.length_cons, List.length_nil, List.length_take, List.length_drop, Int.natCast_add] at *; omega)) rfl) ?_
  refine hcons (kConvF (isX rfl) tu56 (denX rfl) (fU32 (by omega) (by omega))) ?_
  refine hcons (kShlM 16 65536 rfl (isX rfl) (isZ (m := 16) rfl) (denX rfl) rfl (by decide) rfl (fU32 (by omega) (by omega))) ?_
  refine hcons (kOrM 24 16777216 rfl (isX rfl) (isX rfl) (denX rfl) (by omega) (by omega) (fU32 (by omega) (by omega)) (fU32 (by omega) (by omega)) (by omega) (by omega) rfl (fU32 (by omega) (by omega))) ?_
  refine hcons (kIdxE (i := 2) (isX rfl) (isZ (m := 2) rfl) (denX rfl) rfl (by first | omega | (simp only [List.length_append, List.length_cons, List.length_nil, List.length_take, List.length_drop, Int.natCast_add] at *; omega)) rfl) ?_
  refine hcons (kConvF (isX rfl) tu56 (denX rfl) (fU32 (by omega) (by omega))) ?_
  refine hcons (kShlM 8 256 rfl (isX rfl) (isZ (m := 8) rfl) (denX rfl) rfl (by decide) rfl (fU32 (by omega) (by omega))) ?_
  refine hcons (kOrM 16 65536 rfl (isX rfl) (isX rfl) (denX rfl) (by omega) (by omega) (fU32 (by omega) (by omega)) (fU32 (by omega) (by omega)) (by omega) (by omega) rfl (fU32 (by omega) (by omega))) ?_
  refine hcons (kIdxE (i := 3) (isX rfl) (isZ (m := 3) rfl) (denX rfl) rfl (by first | omega | (simp only [List.length_append, List.length_cons, List.length_nil, List.length_take, List.length_drop, Int.natCast_add] at *; omega)) rfl) ?_
  refine hcons (kConvF (isX rfl) tu56 (denX rfl) (fU32 (by omega) (by omega))) ?_
  refine hcons (kOrM 8 256 rfl (isX rfl) (isX rfl) (denX rfl) (by omega) (by omega) (fU32 (by omega) (by omega)) (fU32 (by omega) (by omega)) (by omega) (by omega) rfl (fU32 (by omega) (by omega))) ?_
  refine hcons (kIdxE (i := 4) (isX rfl) (isZ (m := 4) rfl) (denX rfl) rfl (by first | omega | (simp only [List.length_append, List.length_cons, List.length_nil, List.length_take, List.length_drop, Int.natCast_add] at *; omega)) rfl) ?_
  refine hcons (kConvF (isX rfl) tu3 (denX rfl) (fI64 (by omega) (by omega))) ?_
  refine hcons (kEqT (isX rfl) (isX rfl) tu3 (decide_eq_true (by omega))) ?_
  refine hcons (kShrM 24 16777216 rfl (isX rfl) (isZ (m := 24) rfl) (denX rfl) rfl (by decide) (by omega) rfl) ?_
  refine hcons (kConvF (isX rfl) tu5 (denX rfl) (fU8 (by omega) (by omega))) ?_
  refine hcons (kShrM 16 65536 rfl (isX rfl) (isZ (m := 16) rfl) (denX rfl) rfl (by decide) (by omega) rfl) ?_
  refine hcons (kConv8 (isX rfl) tu5 (denX rfl) rfl) ?_
  refine hcons (kShrM 8 256 rfl (isX rfl) (isZ (m := 8) rfl) (denX rfl) rfl (by decide) (by omega) rfl) ?_
  refine hcons (kConv8 (isX rfl) tu5 (denX rfl) rfl) ?_
  refine hcons (kConv8 (isX rfl) tu5 (denX rfl) rfl) ?_
  refine hcons (kConv8 (isX rfl) tu5 (denX rfl) rfl) ?_
  refine hcons (kBytesB (bs := [u8 (ap / 16777216), u8 ((ap / 65536) % 256), u8 ((ap / 256) % 256), u8 (ap % 256), u8 (pr % 256)]) (.cons (isB8 (isX rfl) (by omega) (by omega)) (.cons (isB8 (isX rfl) (by omega) (by omega)) (.cons (isB8 (isX rfl) (by omega) (by omega)) (.cons (isB8 (isX rfl) (by omega) (by omega)) (.cons (isB8 (isX rfl) (by omega) (by omega)) .nil))))) (denX rfl)) ?_
  refine hcons (kLenE (isX rfl) (denZ (m := 5) rfl) (by first | omega | (simp only [List.length_append, List.length_cons, List.length_nil, List.length_take, List.length_drop, Int.natCast_add] at *; omega))) ?_
  refine hcons (kCat (isX rfl) (isSx (l := [u8 0, u8 0, u8 0]) 3 0 rfl) (denX rfl) (by first | rfl | (simp only [List.append_assoc, List.cons_append, List.nil_append, List.append_nil]; done)) (by first | omega | (simp only [List.length_append, List.length_cons, List.length_nil, List.length_take, List.length_drop, Int.natCast_add] at *; omega))) ?_
  refine hcons (kBytesB (bs := [u8 (ap / 16777216), u8 ((ap / 65536) % 256), u8 ((ap / 256) % 256), u8 (ap % 256), u8 (pr % 256), u8 0, u8 0, u8 0]) (.cons (isB8 (isX rfl) (by omega) (by omega)) (.cons (isB8 (isX rfl) (by omega) (by omega)) (.cons (isB8 (isX rfl) (by omega) (by omega)) (.cons (isB8 (isX rfl) (by omega) (by omega)) (.cons (isB8 (isX rfl) (by omega) (by omega)) (.cons (isB8 (isZ (m := 0) rfl) (by omega) (by omega)) (.cons (isB8 (isZ (m := 0) rfl) (by omega) (by omega)) (.cons (isB8 (isZ (m := 0) rfl) (by omega) (by omega)) .nil)))))))) (denX rfl)) ?_
  refine hcons (kEqTS (isX rfl) (isX rfl) tu9 (decide_eq_true rfl)) ?_
  refine hcons (kEqT (isX rfl) (isX rfl) tu56 (decide_eq_true (by omega))) ?_
  refine hcons (kEqT (isX rfl) (isX rfl) tu3 (decide_eq_true (by omega))) ?_
  refine hcons (kConv8 (isX rfl) tu5 (denX rfl) rfl) ?_
  refine hcons (kBytesB (bs := [u8 (t % 256)]) (.cons (isB8 (isX rfl) (by omega) (by omega)) .nil) (denX rfl)) ?_
  refine hcons (kLenE (isX rfl) (denZ (m := 1) rfl) (by first | omega | (simp only [List.length_append, List.length_cons, List.length_nil, List.length_take, List.length_drop, Int.natCast_add] at *; omega))) ?_
  refine hcons (kCat (isX rfl) (isSx (l := [u8 0, u8 0, u8 0, u8 0, u8 0, u8 0, u8 0]) 7 0 rfl) (denX rfl) (by first | rfl | (simp only [List.append_assoc, List.cons_append, List.nil_append, List.append_nil]; done)) (by first | omega | (simp only [List.length_append, List.length_cons, List.length_nil, List.length_take, List.length_drop, Int.natCast_add] at *; omega))) ?_
  refine hcons (kBytesB (bs := [u8 (t % 256), u8 0, u8 0, u8 0, u8 0, u8 0, u8 0, u8 0]) (.cons (isB8 (isX rfl) (by omega) (by omega)) (.cons (isB8 (isZ (m := 0) rfl) (by omega) (by omega)) (.cons (isB8 (isZ (m := 0) rfl) (by omega) (by omega)) (.cons (isB8 (isZ (m := 0) rfl) (by omega) (by omega)) (.cons (isB8 (isZ (m := 0) rfl) (by omega) (by omega)) (.cons (isB8 (isZ (m := 0) rfl) (by omega) (by omega)) (.cons (isB8 (isZ (m := 0) rfl) (by omega) (by omega)) (.cons (isB8 (isZ (m := 0) rfl) (by omega) (by omega)) .nil)))))))) (denX rfl)) ?_
  refine hcons (kEqTS (isX rfl) (isX rfl) tu9 (decide_eq_true rfl)) ?_
  refine hcons (hokg53 rfl rfl (by omega) (by omega)) ?_
  refine hcons (hokg54 rfl rfl (by omega) (by omega)) ?_
  refine hcons (kEqS (isX rfl) (isX rfl) (decide_eq_true rfl)) ?_
  exact hnil
theorem path11 (id : Int) (ap : Int) (pr : Int) (t : Int) (rt : Int) (ri : Int) (c : List UInt8) (rp : Int) (b0 : -9223372036854775808 ≤ id) (b1 : id ≤ 9223372036854775807) (b2 : 0 ≤ ap) (b3 : ap ≤ 4294967295) (b4 : -9223372036854775808 ≤ pr) (b5 : pr ≤ 9223372036854775807) (b6 : -9223372036854775808 ≤ t) (b7 : t ≤ 9223372036854775807) (b8 : -9223372036854775808 ≤ rt) (b9 : rt ≤ 9223372036854775807) (b10 : -9223372036854775808 ≤ ri) (b11 : ri ≤ 9223372036854775807) (b12 : c.length ≤ 9223372036854775807) (b13 : -9223372036854775808 ≤ rp) (b14 : rp ≤ 9223372036854775807) (h0 : ¬ (200 < (c.length : Int))) (h1 : ¬ (rt = 1)) (h2 : rt = 3) (h3 : (c.length : Int) = 8) (w : World) (hl : laidE w) : Calls Tryd.prog 7 #[.int .i64 id, .bool true, .agg #[.int .u32 ap, .int .i64 pr], .int .i64 t, .agg #[.int .i64 rt, .int .i64 ri, St' c, .int .i64 rp]] w fun e w' => e = .returned (.bool true) ∧ Go.AX.Below w.heap.size w w' := by
  obtain ⟨fi, hfi, hb⟩ : ∃ fi, tabk.fn.get 7 = some fi ∧ fi.body.isSome = true := ⟨_, rfl, by kernel_rfl⟩
  exact runP (tb := tab11) ((tabkOk (nuL (nu11 id ap pr t rt ri c rp)) (one11 id ap pr t rt ri c rp)).hyps (hyOk11 id ap pr t rt ri c rp b0 b1 b2 b3 b4 b5 b6 b7 b8 b9 b10 b11 b12 b13 b14 h0 h1 h2 h3)) rfl hfi hb (fun e => run11 e ) (args := [.int .i64 id, .bool true, .agg #[.int .u32 ap, .int .i64 pr], .int .i64 t, .agg #[.int .i64 rt, .int .i64 ri, St' c, .int .i64 rp]]) (by simp only [RelL, Rel]; exact ⟨_, _, rfl, rfl, ⟨_, _, rfl, rfl, ⟨_, _, rfl, ⟨_, rfl, ⟨_, _, rfl, rfl, ⟨_, _, rfl, rfl, rfl⟩⟩⟩, ⟨_, _, rfl, rfl, ⟨_, _, rfl, ⟨_, rfl, ⟨_, _, rfl, rfl, ⟨_, _, rfl, rfl, ⟨_, _, rfl, rfl, ⟨_, _, rfl, rfl, rfl⟩⟩⟩⟩⟩, rfl⟩⟩⟩⟩⟩) w hl
end Go.Proofs.YtejdkoheodambaaDoor.kindTells
