/- A part of the proof: an interpreter of the model's own code on partly known states, and that what it answers is what the program answers. No condition of its own. -/
import Derived.Test.YtdnhfkceldafaaaDoorB7ChunkTrailersO
set_option maxRecDepth 100000
set_option linter.unusedVariables false
set_option linter.unusedSimpArgs false
namespace Go.Proofs.YtdnhfkceldafaaaDoor.chunkTrailers
open Go Go.AX Go.Proofs Go.Proofs.YtdnhfkceldafaaaDoor
def hy9 : List (HK × AV) := [(.len (.x 2), .x 3),
  (.bin .gtr (.x 3) (i6 200), .b false),
  (.bin .eql (.x 3) (i6 0), .b false),
  (.bin .eql (.x 2) (.s 0 0), .b false),
  (.call 51 [.x 3, i6 16], .x 4),
  (.bin .add (.x 4) (.s 2 2573), .x 5),
  (.bin .add (.x 5) (.x 2), .x 6),
  (.bin .add (.x 6) (.s 2 2573), .x 7),
  (.len (.x 7), .x 8),
  (.bin .lss (i6 0) (.x 8), .b true),
  (.idx (.x 7) (i6 0), .x 9),
  (.bin .neq (.x 9) (u1 13), .b true),
  (.bin .lss (i6 1) (.x 8), .b true),
  (.idx (.x 7) (i6 1), .x 10),
  (.bin .neq (.x 10) (u1 13), .b true),
  (.bin .lss (i6 2) (.x 8), .b true),
  (.idx (.x 7) (i6 2), u1 13),
  (.sub (.x 7) none (some (i6 2)), .x 11),
  (.bin .rem (.x 1) (u1 3), u1 0),
  (.bin .add (.x 11) (.s 0 0), .x 12),
  (.sub (.x 7) (some (i6 2)) none, .x 13),
  (.bin .add (.x 12) (.x 13), .x 14),
  (.bin .add (.x 14) (.s 3 658736), .x 15),
  (.bin .rem (.x 0) (u1 5), u1 1),
  (.bin .add (.x 15) (.s 6 11052597131841), .x 16),
  (.bin .add (.x 16) (.s 6 111542170094093), .x 17),
  (.len (.x 17), .x 18),
  (.bin .lss (i6 0) (.x 18), .b true),
  (.idx (.x 17) (i6 0), .x 19),
  (.bin .eql (.x 19) (u1 10), .b false),
  (.bin .eql (.x 19) (u1 13), .b false),
  (.bin .lss (i6 1) (.x 18), .b true),
  (.idx (.x 17) (i6 1), .x 20),
  (.bin .eql (.x 20) (u1 10), .b false),
  (.bin .eql (.x 20) (u1 13), .b false),
  (.bin .lss (i6 2) (.x 18), .b true),
  (.idx (.x 17) (i6 2), u1 13),
  (.bin .lss (i6 3) (.x 18), .b true),
  (.idx (.x 17) (i6 3), u1 10),
  (.bytes [.x 19, .x 20], .x 21),
  (.bin .eql (.s 1 59) (.x 21), .b false),
  (.ext 73 [.x 21, u1 59], .i .i64 (.negSucc 0)),
  (.call 10 [.x 21], .tu [.x 22, .b true]),
  (.bin .add (i6 0) (.x 22), .x 23),
  (.bin .gtr (.x 23) (i6 1000), .b false),
  (.bin .eql (.x 22) (i6 0), .b false),
  (.bin .lss (i6 4) (.x 18), .b true),
  (.sub (.x 17) (some (i6 4)) none, .x 24),
  (.len (.x 24), .x 25),
  (.mm false (.x 25) (.x 22), .x 26),
  (.sub (.x 24) none (some (.x 26)), .x 27),
  (.byt (.x 27) (i6 0), .x 28),
  (.fit (.x 27), .b true),
  (.bin .sub (.x 22) (.x 26), i6 0),
  (.bin .add (i6 4) (.x 26), .x 29),
  (.bin .lss (.x 29) (.x 18), .b true),
  (.idx (.x 17) (.x 29), u1 13),
  (.bin .add (.x 29) (i6 1), .x 30),
  (.bin .lss (.x 30) (.x 18), .b true),
  (.idx (.x 17) (.x 30), u1 10),
  (.bin .add (.x 30) (i6 1), .x 31),
  (.bin .lss (.x 31) (.x 18), .b true),
  (.idx (.x 17) (.x 31), u1 48),
  (.bin .add (.x 31) (i6 1), .x 32),
  (.bin .lss (.x 32) (.x 18), .b true),
  (.idx (.x 17) (.x 32), u1 13),
  (.bin .add (.x 32) (i6 1), .x 33),
  (.bin .lss (.x 33) (.x 18), .b true),
  (.idx (.x 17) (.x 33), u1 10),
  (.len (.x 27), .x 34),
  (.bin .add (.x 34) (i6 0), .x 35),
  (.bin .gtr (.x 35) (i6 1000), .b false),
  (.bin .add (.x 33) (i6 1), .x 36),
  (.bin .lss (.x 36) (.x 18), .b true),
  (.idx (.x 17) (.x 36), u1 65),
  (.bin .add (.x 36) (i6 1), .x 37),
  (.bin .lss (.x 37) (.x 18), .b true),
  (.idx (.x 17) (.x 37), u1 58),
  (.bin .add (.x 37) (i6 1), .x 38),
  (.bin .lss (.x 38) (.x 18), .b true),
  (.idx (.x 17) (.x 38), u1 32),
  (.bin .add (.x 38) (i6 1), .x 39),
  (.bin .lss (.x 39) (.x 18), .b true),
  (.idx (.x 17) (.x 39), u1 98),
  (.bin .add (.x 39) (i6 1), .x 40),
  (.bin .lss (.x 40) (.x 18), .b true),
  (.idx (.x 17) (.x 40), u1 13),
  (.bin .add (.x 40) (i6 1), .x 41),
  (.bin .lss (.x 41) (.x 18), .b true),
  (.idx (.x 17) (.x 41), u1 10),
  (.bin .add (.x 41) (i6 1), .x 42),
  (.bin .lss (.x 42) (.x 18), .b true),
  (.idx (.x 17) (.x 42), u1 13),
  (.bin .add (.x 42) (i6 1), .x 43),
  (.bin .lss (.x 43) (.x 18), .b true),
  (.idx (.x 17) (.x 43), u1 10),
  (.bin .add (.x 43) (i6 1), .x 44),
  (.bin .lss (.x 44) (.x 18), .b true),
  (.len (.x 16), .x 45),
  (.bin .add (.x 45) (i6 2), .x 46),
  (.bin .eql (.x 44) (.x 46), .b true),
  (.bin .eql (.x 27) (.x 2), .b true)]
theorem run9 (e6 : Nat) : okB (call (tbl hy9) 20000 6 [.x 0, .x 1, .x 2] ⟨H0 e6 , 7, 0, 0⟩) = true := by kernel_rfl
def nu9 (n ext : Int) (body : List UInt8) : List Value := [.int .u8 (n),
  .int .u8 (ext),
  St' body,
  .int .i64 ((body.length : Int)),
  St' ([u8 (dg ((body.length : Int) / 16)), u8 (dg ((body.length : Int) % 16))]),
  St' ([u8 (dg ((body.length : Int) / 16)), u8 (dg ((body.length : Int) % 16)), u8 13, u8 10]),
  St' ([u8 (dg ((body.length : Int) / 16)), u8 (dg ((body.length : Int) % 16)), u8 13, u8 10] ++ body),
  St' ([u8 (dg ((body.length : Int) / 16)), u8 (dg ((body.length : Int) % 16)), u8 13, u8 10] ++ (body ++ [u8 13, u8 10])),
  .int .i64 ((body.length : Int) + 6),
  .int .u8 (dg ((body.length : Int) / 16)),
  .int .u8 (dg ((body.length : Int) % 16)),
  St' ([u8 (dg ((body.length : Int) / 16)), u8 (dg ((body.length : Int) % 16))]),
  St' ([u8 (dg ((body.length : Int) / 16)), u8 (dg ((body.length : Int) % 16))]),
  St' ([u8 13, u8 10] ++ (body ++ [u8 13, u8 10])),
  St' ([u8 (dg ((body.length : Int) / 16)), u8 (dg ((body.length : Int) % 16)), u8 13, u8 10] ++ (body ++ [u8 13, u8 10])),
  St' ([u8 (dg ((body.length : Int) / 16)), u8 (dg ((body.length : Int) % 16)), u8 13, u8 10] ++ (body ++ [u8 13, u8 10, u8 48, u8 13, u8 10])),
  St' ([u8 (dg ((body.length : Int) / 16)), u8 (dg ((body.length : Int) % 16)), u8 13, u8 10] ++ (body ++ [u8 13, u8 10, u8 48, u8 13, u8 10, u8 65, u8 58, u8 32, u8 98, u8 13, u8 10])),
  St' ([u8 (dg ((body.length : Int) / 16)), u8 (dg ((body.length : Int) % 16)), u8 13, u8 10] ++ (body ++ [u8 13, u8 10, u8 48, u8 13, u8 10, u8 65, u8 58, u8 32, u8 98, u8 13, u8 10, u8 13, u8 10, u8 109, u8 111, u8 114, u8 101])),
  .int .i64 ((body.length : Int) + 21),
  .int .u8 (dg ((body.length : Int) / 16)),
  .int .u8 (dg ((body.length : Int) % 16)),
  St' ([u8 (dg ((body.length : Int) / 16)), u8 (dg ((body.length : Int) % 16))]),
  .int .i64 ((body.length : Int)),
  .int .i64 ((body.length : Int)),
  St' (body ++ [u8 13, u8 10, u8 48, u8 13, u8 10, u8 65, u8 58, u8 32, u8 98, u8 13, u8 10, u8 13, u8 10, u8 109, u8 111, u8 114, u8 101]),
  .int .i64 ((body.length : Int) + 17),
  .int .i64 ((body.length : Int)),
  St' body,
  .int .u8 (bt body 0),
  .int .i64 ((body.length : Int) + 4),
  .int .i64 ((body.length : Int) + 5),
  .int .i64 ((body.length : Int) + 6),
  .int .i64 ((body.length : Int) + 7),
  .int .i64 ((body.length : Int) + 8),
  .int .i64 ((body.length : Int)),
  .int .i64 ((body.length : Int)),
  .int .i64 ((body.length : Int) + 9),
  .int .i64 ((body.length : Int) + 10),
  .int .i64 ((body.length : Int) + 11),
  .int .i64 ((body.length : Int) + 12),
  .int .i64 ((body.length : Int) + 13),
  .int .i64 ((body.length : Int) + 14),
  .int .i64 ((body.length : Int) + 15),
  .int .i64 ((body.length : Int) + 16),
  .int .i64 ((body.length : Int) + 17),
  .int .i64 ((body.length : Int) + 15),
  .int .i64 ((body.length : Int) + 17)]
theorem path9 (n ext : Int) (body : List UInt8) (bb : BB n ext body) (h0 : ¬ (200 < (body.length : Int))) (h1 : ¬ ((body.length : Int) = 0)) (h3 : ¬ ((body.length : Int) < 16)) (h9 : ext % 3 = 0) (h10 : n % 5 = 1) (w : World) (hl : laidE w) : Cw #[.int .u8 n, .int .u8 ext, St' body] w := by
  obtain ⟨fi, hfi, hb⟩ := fiE
  refine runP (tb := tbl hy9) ((tabkOk (nuL (nu9 n ext body)) (nuL_one (l := nu9 n ext body) rfl)).hyps ?_) rfl hfi hb (fun e6 => run9 e6 ) (args := [.int .u8 n, .int .u8 ext, St' body]) (by simp only [RelL, Rel]; exact ⟨_, _, rfl, rfl, ⟨_, _, rfl, rfl, ⟨_, _, rfl, rfl, rfl⟩⟩⟩) w hl
  obtain ⟨b0, b1, b2, b3, b4⟩ := bb
  have := dg_or ((body.length : Int) / 16)
  have := dg_or ((body.length : Int) % 16)
  skip
  have := bt_lo body 0; have := bt_hi body 0
  unfold hy9
  refine hc (kLenE (isX rfl) (denX rfl) (by first | omega | (simp <;> omega))) ?_
  refine hc (kGt (isX rfl) (isZ (m := 200) rfl) (decide_eq_false (by omega))) ?_
  refine hc (kEqI (isX rfl) (isZ (m := 0) rfl) (decide_eq_false (by omega))) ?_
  refine hc (kEqS (isX rfl) (isSx (l := ([] : List UInt8)) 0 0 rfl) (by first | exact nilT (by first | omega | (simp <;> omega)) | exact nilF (by first | omega | (simp <;> omega)) | exact nilT' (by first | omega | (simp <;> omega)) | exact nilF' (by first | omega | (simp <;> omega)))) ?_
  refine hc (hokFmt (n := (body.length : Int)) (isX rfl) (isZ (m := 16) rfl) (denX (congrArg (fun l => St' l) (hexS_hi (by omega)).symm)) (by omega) (by omega)) ?_
  refine hc (kCat (isX rfl) (isSx (l := [u8 13, u8 10]) 2 2573 rfl) (denX rfl) (by simp) (by simp <;> omega)) ?_
  refine hc (kCat (isX rfl) (isX rfl) (denX rfl) (by simp) (by simp <;> omega)) ?_
  refine hc (kCat (isX rfl) (isSx (l := [u8 13, u8 10]) 2 2573 rfl) (denX rfl) (by simp) (by simp <;> omega)) ?_
  refine hc (kLenE (isX rfl) (denX rfl) (by first | omega | (simp <;> omega))) ?_
  refine hc (kLtT (isZ (m := 0) rfl) (isX rfl) (by omega)) ?_
  refine hc (kIdxE (i := 0) (isX rfl) (isZ (m := 0) rfl) (denX rfl) rfl (by simp <;> omega) (bt_at rfl (by omega) (by omega))) ?_
  refine hc (kNeI (isX rfl) (isZ (m := 13) rfl) (neT (by omega))) ?_
  refine hc (kLtT (isZ (m := 1) rfl) (isX rfl) (by omega)) ?_
  refine hc (kIdxE (i := 1) (isX rfl) (isZ (m := 1) rfl) (denX rfl) rfl (by simp <;> omega) (bt_at rfl (by omega) (by omega))) ?_
  refine hc (kNeI (isX rfl) (isZ (m := 13) rfl) (neT (by omega))) ?_
  refine hc (kLtT (isZ (m := 2) rfl) (isX rfl) (by omega)) ?_
  refine hc (kIdxC (isX rfl) (by simp <;> omega) rfl (by omega)) ?_
  refine hc (kCut (isX rfl) (.inl ⟨rfl, rfl⟩) (.inr ⟨_, _, rfl, (isZ (m := 2) rfl)⟩) (p := ([] : List UInt8)) (m := [u8 (dg ((body.length : Int) / 16)), u8 (dg ((body.length : Int) % 16))]) (q := ([u8 13, u8 10] ++ (body ++ [u8 13, u8 10]))) (by simp) (by simp <;> omega) (by simp <;> omega) (denX rfl)) ?_
  refine hc (kRem (isX rfl) (isZ (m := 3) rfl) (denZ (m := 0) rfl) (by omega) (by omega) (by omega)) ?_
  refine hc (kCat (isX rfl) (isSx (l := ([] : List UInt8)) 0 0 rfl) (denX rfl) (by simp) (by simp <;> omega)) ?_
  refine hc (kCut (isX rfl) (.inr ⟨_, _, rfl, (isZ (m := 2) rfl)⟩) (.inl ⟨rfl, rfl⟩) (p := [u8 (dg ((body.length : Int) / 16)), u8 (dg ((body.length : Int) % 16))]) (m := ([u8 13, u8 10] ++ (body ++ [u8 13, u8 10]))) (q := ([] : List UInt8)) (by simp) (by simp <;> omega) (by simp <;> omega) (denX rfl)) ?_
  refine hc (kCat (isX rfl) (isX rfl) (denX rfl) (by simp) (by simp <;> omega)) ?_
  refine hc (kCat (isX rfl) (isSx (l := [u8 48, u8 13, u8 10]) 3 658736 rfl) (denX rfl) (by simp) (by simp <;> omega)) ?_
  refine hc (kRem (isX rfl) (isZ (m := 5) rfl) (denZ (m := 1) rfl) (by omega) (by omega) (by omega)) ?_
  refine hc (kCat (isX rfl) (isSx (l := [u8 65, u8 58, u8 32, u8 98, u8 13, u8 10]) 6 11052597131841 rfl) (denX rfl) (by simp) (by simp <;> omega)) ?_
  refine hc (kCat (isX rfl) (isSx (l := [u8 13, u8 10, u8 109, u8 111, u8 114, u8 101]) 6 111542170094093 rfl) (denX rfl) (by simp) (by simp <;> omega)) ?_
  refine hc (kLenE (isX rfl) (denX rfl) (by first | omega | (simp <;> omega))) ?_
  refine hc (kLtT (isZ (m := 0) rfl) (isX rfl) (by omega)) ?_
  refine hc (kIdxE (i := 0) (isX rfl) (isZ (m := 0) rfl) (denX rfl) rfl (by simp <;> omega) (bt_at rfl (by omega) (by omega))) ?_
  refine hc (kEqI (isX rfl) (isZ (m := 10) rfl) (decide_eq_false (by omega))) ?_
  refine hc (kEqI (isX rfl) (isZ (m := 13) rfl) (decide_eq_false (by omega))) ?_
  refine hc (kLtT (isZ (m := 1) rfl) (isX rfl) (by omega)) ?_
  refine hc (kIdxE (i := 1) (isX rfl) (isZ (m := 1) rfl) (denX rfl) rfl (by simp <;> omega) (bt_at rfl (by omega) (by omega))) ?_
  refine hc (kEqI (isX rfl) (isZ (m := 10) rfl) (decide_eq_false (by omega))) ?_
  refine hc (kEqI (isX rfl) (isZ (m := 13) rfl) (decide_eq_false (by omega))) ?_
  refine hc (kLtT (isZ (m := 2) rfl) (isX rfl) (by omega)) ?_
  refine hc (kIdxC (isX rfl) (by simp <;> omega) rfl (by omega)) ?_
  refine hc (kLtT (isZ (m := 3) rfl) (isX rfl) (by omega)) ?_
  refine hc (kIdxC (isX rfl) (by simp <;> omega) rfl (by omega)) ?_
  refine hc (kBytesB (bs := [u8 (dg ((body.length : Int) / 16)), u8 (dg ((body.length : Int) % 16))]) (.cons (isB8 (isX rfl) (by omega) (by omega)) (.cons (isB8 (isX rfl) (by omega) (by omega)) .nil)) (denX rfl)) ?_
  refine hc (kEqS (isSx (l := [u8 59]) 1 59 rfl) (isX rfl) (neLen (by first | omega | (simp <;> omega)))) ?_
  refine hc (kExtI (n := -1) exF73 exA73 exB73 (isX rfl) (isZ (m := 59) rfl) (denI .i64 (-1)) ((ixN (m := (-1)) (n := (-1)) (by omega) (ixN (m := (-1)) (n := (-1)) (by omega) ixZ (by omega)) (by omega)))) ?_
  refine hc (hokHex2 (n := (body.length : Int)) (isX rfl) (denT2 (denX rfl) (denB true)) (by omega) (by omega)) ?_
  refine hc (kAdd (isZ (m := 0) rfl) (isX rfl) (denX rfl) (by omega) (fI64 (by omega) (by omega))) ?_
  refine hc (kGt (isX rfl) (isZ (m := 1000) rfl) (decide_eq_false (by omega))) ?_
  refine hc (kEqI (isX rfl) (isZ (m := 0) rfl) (decide_eq_false (by omega))) ?_
  refine hc (kLtT (isZ (m := 4) rfl) (isX rfl) (by omega)) ?_
  refine hc (kCut (isX rfl) (.inr ⟨_, _, rfl, (isZ (m := 4) rfl)⟩) (.inl ⟨rfl, rfl⟩) (p := [u8 (dg ((body.length : Int) / 16)), u8 (dg ((body.length : Int) % 16)), u8 13, u8 10]) (m := (body ++ [u8 13, u8 10, u8 48, u8 13, u8 10, u8 65, u8 58, u8 32, u8 98, u8 13, u8 10, u8 13, u8 10, u8 109, u8 111, u8 114, u8 101])) (q := ([] : List UInt8)) (by simp) (by simp <;> omega) (by simp <;> omega) (denX rfl)) ?_
  refine hc (kLenE (isX rfl) (denX rfl) (by first | omega | (simp <;> omega))) ?_
  refine hc (kMin (isX rfl) (isX rfl) (denX rfl) (by omega)) ?_
  refine hc (kCut (isX rfl) (.inl ⟨rfl, rfl⟩) (.inr ⟨_, _, rfl, (isX rfl)⟩) (p := ([] : List UInt8)) (m := body) (q := [u8 13, u8 10, u8 48, u8 13, u8 10, u8 65, u8 58, u8 32, u8 98, u8 13, u8 10, u8 13, u8 10, u8 109, u8 111, u8 114, u8 101]) (by simp) (by simp <;> omega) (by simp <;> omega) (denX rfl)) ?_
  refine hc (kByt (i := 0) (isX rfl) (isZ (m := 0) rfl) (denX rfl) rfl (by first | omega | (simp <;> omega)) rfl) ?_
  refine hc (kFit (isX rfl) (by first | omega | (simp <;> omega))) ?_
  refine hc (kSub (isX rfl) (isX rfl) (denZ (m := 0) rfl) (by omega) (fI64 (by omega) (by omega))) ?_
  refine hc (kAdd (isZ (m := 4) rfl) (isX rfl) (denX rfl) (by omega) (fI64 (by omega) (by omega))) ?_
  refine hc (kLtT (isX rfl) (isX rfl) (by omega)) ?_
  refine hc (kIdxA3 0 (isX rfl) (isX rfl) rfl (by simp <;> omega) rfl rfl) ?_
  refine hc (kInc (isX rfl) (denX rfl) (by omega)) ?_
  refine hc (kLtT (isX rfl) (isX rfl) (by omega)) ?_
  refine hc (kIdxA3 1 (isX rfl) (isX rfl) rfl (by simp <;> omega) rfl rfl) ?_
  refine hc (kInc (isX rfl) (denX rfl) (by omega)) ?_
  refine hc (kLtT (isX rfl) (isX rfl) (by omega)) ?_
  refine hc (kIdxA3 2 (isX rfl) (isX rfl) rfl (by simp <;> omega) rfl rfl) ?_
  refine hc (kInc (isX rfl) (denX rfl) (by omega)) ?_
  refine hc (kLtT (isX rfl) (isX rfl) (by omega)) ?_
  refine hc (kIdxA3 3 (isX rfl) (isX rfl) rfl (by simp <;> omega) rfl rfl) ?_
  refine hc (kInc (isX rfl) (denX rfl) (by omega)) ?_
  refine hc (kLtT (isX rfl) (isX rfl) (by omega)) ?_
  refine hc (kIdxA3 4 (isX rfl) (isX rfl) rfl (by simp <;> omega) rfl rfl) ?_
  refine hc (kLenE (isX rfl) (denX rfl) (by first | omega | (simp <;> omega))) ?_
  refine hc (kInc (isX rfl) (denX rfl) (by omega)) ?_
  refine hc (kGt (isX rfl) (isZ (m := 1000) rfl) (decide_eq_false (by omega))) ?_
  refine hc (kInc (isX rfl) (denX rfl) (by omega)) ?_
  refine hc (kLtT (isX rfl) (isX rfl) (by omega)) ?_
  refine hc (kIdxA3 5 (isX rfl) (isX rfl) rfl (by simp <;> omega) rfl rfl) ?_
  refine hc (kInc (isX rfl) (denX rfl) (by omega)) ?_
  refine hc (kLtT (isX rfl) (isX rfl) (by omega)) ?_
  refine hc (kIdxA3 6 (isX rfl) (isX rfl) rfl (by simp <;> omega) rfl rfl) ?_
  refine hc (kInc (isX rfl) (denX rfl) (by omega)) ?_
  refine hc (kLtT (isX rfl) (isX rfl) (by omega)) ?_
  refine hc (kIdxA3 7 (isX rfl) (isX rfl) rfl (by simp <;> omega) rfl rfl) ?_
  refine hc (kInc (isX rfl) (denX rfl) (by omega)) ?_
  refine hc (kLtT (isX rfl) (isX rfl) (by omega)) ?_
  refine hc (kIdxA3 8 (isX rfl) (isX rfl) rfl (by simp <;> omega) rfl rfl) ?_
  refine hc (kInc (isX rfl) (denX rfl) (by omega)) ?_
  refine hc (kLtT (isX rfl) (isX rfl) (by omega)) ?_
  refine hc (kIdxA3 9 (isX rfl) (isX rfl) rfl (by simp <;> omega) rfl rfl) ?_
  refine hc (kInc (isX rfl) (denX rfl) (by omega)) ?_
  refine hc (kLtT (isX rfl) (isX rfl) (by omega)) ?_
  refine hc (kIdxA3 10 (isX rfl) (isX rfl) rfl (by simp <;> omega) rfl rfl) ?_
  refine hc (kInc (isX rfl) (denX rfl) (by omega)) ?_
  refine hc (kLtT (isX rfl) (isX rfl) (by omega)) ?_
  refine hc (kIdxA3 11 (isX rfl) (isX rfl) rfl (by simp <;> omega) rfl rfl) ?_
  refine hc (kInc (isX rfl) (denX rfl) (by omega)) ?_
  refine hc (kLtT (isX rfl) (isX rfl) (by omega)) ?_
  refine hc (kIdxA3 12 (isX rfl) (isX rfl) rfl (by simp <;> omega) rfl rfl) ?_
  refine hc (kInc (isX rfl) (denX rfl) (by omega)) ?_
  refine hc (kLtT (isX rfl) (isX rfl) (by omega)) ?_
  refine hc (kLenE (isX rfl) (denX rfl) (by first | omega | (simp <;> omega))) ?_
  refine hc (kInc (isX rfl) (denX rfl) (by omega)) ?_
  refine hc (kEqI (isX rfl) (isX rfl) (decide_eq_true (by omega))) ?_
  refine hc (kEqS (isX rfl) (isX rfl) (decide_eq_true rfl)) ?_
  exact hnil
def hy10 : List (HK × AV) := [(.len (.x 2), .x 3),
  (.bin .gtr (.x 3) (i6 200), .b false),
  (.bin .eql (.x 3) (i6 0), .b false),
  (.bin .eql (.x 2) (.s 0 0), .b false),
  (.call 51 [.x 3, i6 16], .x 4),
  (.bin .add (.x 4) (.s 2 2573), .x 5),
  (.bin .add (.x 5) (.x 2), .x 6),
  (.bin .add (.x 6) (.s 2 2573), .x 7),
  (.len (.x 7), .x 8),
  (.bin .lss (i6 0) (.x 8), .b true),
  (.idx (.x 7) (i6 0), .x 9),
  (.bin .neq (.x 9) (u1 13), .b true),
  (.bin .lss (i6 1) (.x 8), .b true),
  (.idx (.x 7) (i6 1), u1 13),
  (.sub (.x 7) none (some (i6 1)), .x 10),
  (.bin .rem (.x 1) (u1 3), u1 1),
  (.bin .add (.x 10) (.s 4 1648189755), .x 11),
  (.sub (.x 7) (some (i6 1)) none, .x 12),
  (.bin .add (.x 11) (.x 12), .x 13),
  (.bin .add (.x 13) (.s 3 658736), .x 14),
  (.bin .rem (.x 0) (u1 5), u1 1),
  (.bin .add (.x 14) (.s 6 11052597131841), .x 15),
  (.bin .add (.x 15) (.s 6 111542170094093), .x 16),
  (.len (.x 16), .x 17),
  (.bin .lss (i6 0) (.x 17), .b true),
  (.idx (.x 16) (i6 0), .x 18),
  (.bin .eql (.x 18) (u1 10), .b false),
  (.bin .eql (.x 18) (u1 13), .b false),
  (.bin .lss (i6 1) (.x 17), .b true),
  (.idx (.x 16) (i6 1), u1 59),
  (.bin .lss (i6 2) (.x 17), .b true),
  (.idx (.x 16) (i6 2), u1 97),
  (.bin .lss (i6 3) (.x 17), .b true),
  (.idx (.x 16) (i6 3), u1 61),
  (.bin .lss (i6 4) (.x 17), .b true),
  (.idx (.x 16) (i6 4), u1 98),
  (.bin .lss (i6 5) (.x 17), .b true),
  (.idx (.x 16) (i6 5), u1 13),
  (.bin .lss (i6 6) (.x 17), .b true),
  (.idx (.x 16) (i6 6), u1 10),
  (.bytes [.x 18, u1 59, u1 97, u1 61, u1 98], .x 19),
  (.bin .eql (.s 1 59) (.x 19), .b false),
  (.ext 73 [.x 19, u1 59], i6 1),
  (.sub (.x 19) none (some (i6 1)), .x 20),
  (.sub (.x 19) (some (i6 2)) none, .x 21),
  (.call 10 [.x 20], .tu [.x 22, .b true]),
  (.bin .add (i6 0) (.x 22), .x 23),
  (.bin .gtr (.x 23) (i6 1000), .b false),
  (.bin .eql (.x 22) (i6 0), .b false),
  (.bin .lss (i6 7) (.x 17), .b true),
  (.sub (.x 16) (some (i6 7)) none, .x 24),
  (.len (.x 24), .x 25),
  (.mm false (.x 25) (.x 22), .x 26),
  (.sub (.x 24) none (some (.x 26)), .x 27),
  (.byt (.x 27) (i6 0), .x 28),
  (.fit (.x 27), .b true),
  (.bin .sub (.x 22) (.x 26), i6 0),
  (.bin .add (i6 7) (.x 26), .x 29),
  (.bin .lss (.x 29) (.x 17), .b true),
  (.idx (.x 16) (.x 29), u1 13),
  (.bin .add (.x 29) (i6 1), .x 30),
  (.bin .lss (.x 30) (.x 17), .b true),
  (.idx (.x 16) (.x 30), u1 10),
  (.bin .add (.x 30) (i6 1), .x 31),
  (.bin .lss (.x 31) (.x 17), .b true),
  (.idx (.x 16) (.x 31), u1 48),
  (.bin .add (.x 31) (i6 1), .x 32),
  (.bin .lss (.x 32) (.x 17), .b true),
  (.idx (.x 16) (.x 32), u1 13),
  (.bin .add (.x 32) (i6 1), .x 33),
  (.bin .lss (.x 33) (.x 17), .b true),
  (.idx (.x 16) (.x 33), u1 10),
  (.len (.x 27), .x 34),
  (.bin .add (.x 34) (i6 0), .x 35),
  (.bin .gtr (.x 35) (i6 1000), .b false),
  (.bin .add (.x 33) (i6 1), .x 36),
  (.bin .lss (.x 36) (.x 17), .b true),
  (.idx (.x 16) (.x 36), u1 65),
  (.bin .add (.x 36) (i6 1), .x 37),
  (.bin .lss (.x 37) (.x 17), .b true),
  (.idx (.x 16) (.x 37), u1 58),
  (.bin .add (.x 37) (i6 1), .x 38),
  (.bin .lss (.x 38) (.x 17), .b true),
  (.idx (.x 16) (.x 38), u1 32),
  (.bin .add (.x 38) (i6 1), .x 39),
  (.bin .lss (.x 39) (.x 17), .b true),
  (.idx (.x 16) (.x 39), u1 98),
  (.bin .add (.x 39) (i6 1), .x 40),
  (.bin .lss (.x 40) (.x 17), .b true),
  (.idx (.x 16) (.x 40), u1 13),
  (.bin .add (.x 40) (i6 1), .x 41),
  (.bin .lss (.x 41) (.x 17), .b true),
  (.idx (.x 16) (.x 41), u1 10),
  (.bin .add (.x 41) (i6 1), .x 42),
  (.bin .lss (.x 42) (.x 17), .b true),
  (.idx (.x 16) (.x 42), u1 13),
  (.bin .add (.x 42) (i6 1), .x 43),
  (.bin .lss (.x 43) (.x 17), .b true),
  (.idx (.x 16) (.x 43), u1 10),
  (.bin .add (.x 43) (i6 1), .x 44),
  (.bin .lss (.x 44) (.x 17), .b true),
  (.len (.x 15), .x 45),
  (.bin .add (.x 45) (i6 2), .x 46),
  (.bin .eql (.x 44) (.x 46), .b true),
  (.bin .eql (.x 27) (.x 2), .b true)]
theorem run10 (e6 : Nat) : okB (call (tbl hy10) 20000 6 [.x 0, .x 1, .x 2] ⟨H0 e6 , 7, 0, 0⟩) = true := by kernel_rfl
def nu10 (n ext : Int) (body : List UInt8) : List Value := [.int .u8 (n),
  .int .u8 (ext),
  St' body,
  .int .i64 ((body.length : Int)),
  St' ([u8 (dg (body.length : Int))]),
  St' ([u8 (dg (body.length : Int)), u8 13, u8 10]),
  St' ([u8 (dg (body.length : Int)), u8 13, u8 10] ++ body),
  St' ([u8 (dg (body.length : Int)), u8 13, u8 10] ++ (body ++ [u8 13, u8 10])),
  .int .i64 ((body.length : Int) + 5),
  .int .u8 (dg (body.length : Int)),
  St' ([u8 (dg (body.length : Int))]),
  St' ([u8 (dg (body.length : Int)), u8 59, u8 97, u8 61, u8 98]),
  St' ([u8 13, u8 10] ++ (body ++ [u8 13, u8 10])),
  St' ([u8 (dg (body.length : Int)), u8 59, u8 97, u8 61, u8 98, u8 13, u8 10] ++ (body ++ [u8 13, u8 10])),
  St' ([u8 (dg (body.length : Int)), u8 59, u8 97, u8 61, u8 98, u8 13, u8 10] ++ (body ++ [u8 13, u8 10, u8 48, u8 13, u8 10])),
  St' ([u8 (dg (body.length : Int)), u8 59, u8 97, u8 61, u8 98, u8 13, u8 10] ++ (body ++ [u8 13, u8 10, u8 48, u8 13, u8 10, u8 65, u8 58, u8 32, u8 98, u8 13, u8 10])),
  St' ([u8 (dg (body.length : Int)), u8 59, u8 97, u8 61, u8 98, u8 13, u8 10] ++ (body ++ [u8 13, u8 10, u8 48, u8 13, u8 10, u8 65, u8 58, u8 32, u8 98, u8 13, u8 10, u8 13, u8 10, u8 109, u8 111, u8 114, u8 101])),
  .int .i64 ((body.length : Int) + 24),
  .int .u8 (dg (body.length : Int)),
  St' ([u8 (dg (body.length : Int)), u8 59, u8 97, u8 61, u8 98]),
  St' ([u8 (dg (body.length : Int))]),
  St' ([u8 97, u8 61, u8 98]),
  .int .i64 ((body.length : Int)),
  .int .i64 ((body.length : Int)),
  St' (body ++ [u8 13, u8 10, u8 48, u8 13, u8 10, u8 65, u8 58, u8 32, u8 98, u8 13, u8 10, u8 13, u8 10, u8 109, u8 111, u8 114, u8 101]),
  .int .i64 ((body.length : Int) + 17),
  .int .i64 ((body.length : Int)),
  St' body,
  .int .u8 (bt body 0),
  .int .i64 ((body.length : Int) + 7),
  .int .i64 ((body.length : Int) + 8),
  .int .i64 ((body.length : Int) + 9),
  .int .i64 ((body.length : Int) + 10),
  .int .i64 ((body.length : Int) + 11),
  .int .i64 ((body.length : Int)),
  .int .i64 ((body.length : Int)),
  .int .i64 ((body.length : Int) + 12),
  .int .i64 ((body.length : Int) + 13),
  .int .i64 ((body.length : Int) + 14),
  .int .i64 ((body.length : Int) + 15),
  .int .i64 ((body.length : Int) + 16),
  .int .i64 ((body.length : Int) + 17),
  .int .i64 ((body.length : Int) + 18),
  .int .i64 ((body.length : Int) + 19),
  .int .i64 ((body.length : Int) + 20),
  .int .i64 ((body.length : Int) + 18),
  .int .i64 ((body.length : Int) + 20)]
theorem path10 (n ext : Int) (body : List UInt8) (bb : BB n ext body) (h0 : ¬ (200 < (body.length : Int))) (h1 : ¬ ((body.length : Int) = 0)) (h3 : (body.length : Int) < 16) (h7 : ext % 3 = 1) (h8 : n % 5 = 1) (w : World) (hl : laidE w) : Cw #[.int .u8 n, .int .u8 ext, St' body] w := by
  obtain ⟨fi, hfi, hb⟩ := fiE
  refine runP (tb := tbl hy10) ((tabkOk (nuL (nu10 n ext body)) (nuL_one (l := nu10 n ext body) rfl)).hyps ?_) rfl hfi hb (fun e6 => run10 e6 ) (args := [.int .u8 n, .int .u8 ext, St' body]) (by simp only [RelL, Rel]; exact ⟨_, _, rfl, rfl, ⟨_, _, rfl, rfl, ⟨_, _, rfl, rfl, rfl⟩⟩⟩) w hl
  obtain ⟨b0, b1, b2, b3, b4⟩ := bb
  have := dg_or (body.length : Int)
  skip
  have := bt_lo body 0; have := bt_hi body 0
  unfold hy10
  refine hc (kLenE (isX rfl) (denX rfl) (by first | omega | (simp <;> omega))) ?_
  refine hc (kGt (isX rfl) (isZ (m := 200) rfl) (decide_eq_false (by omega))) ?_
  refine hc (kEqI (isX rfl) (isZ (m := 0) rfl) (decide_eq_false (by omega))) ?_
  refine hc (kEqS (isX rfl) (isSx (l := ([] : List UInt8)) 0 0 rfl) (by first | exact nilT (by first | omega | (simp <;> omega)) | exact nilF (by first | omega | (simp <;> omega)) | exact nilT' (by first | omega | (simp <;> omega)) | exact nilF' (by first | omega | (simp <;> omega)))) ?_
  refine hc (hokFmt (n := (body.length : Int)) (isX rfl) (isZ (m := 16) rfl) (denX (congrArg (fun l => St' l) (hexS_lo (by omega)).symm)) (by omega) (by omega)) ?_
  refine hc (kCat (isX rfl) (isSx (l := [u8 13, u8 10]) 2 2573 rfl) (denX rfl) (by simp) (by simp <;> omega)) ?_
  refine hc (kCat (isX rfl) (isX rfl) (denX rfl) (by simp) (by simp <;> omega)) ?_
  refine hc (kCat (isX rfl) (isSx (l := [u8 13, u8 10]) 2 2573 rfl) (denX rfl) (by simp) (by simp <;> omega)) ?_
  refine hc (kLenE (isX rfl) (denX rfl) (by first | omega | (simp <;> omega))) ?_
  refine hc (kLtT (isZ (m := 0) rfl) (isX rfl) (by omega)) ?_
  refine hc (kIdxE (i := 0) (isX rfl) (isZ (m := 0) rfl) (denX rfl) rfl (by simp <;> omega) (bt_at rfl (by omega) (by omega))) ?_
  refine hc (kNeI (isX rfl) (isZ (m := 13) rfl) (neT (by omega))) ?_
  refine hc (kLtT (isZ (m := 1) rfl) (isX rfl) (by omega)) ?_
  refine hc (kIdxC (isX rfl) (by simp <;> omega) rfl (by omega)) ?_
  refine hc (kCut (isX rfl) (.inl ⟨rfl, rfl⟩) (.inr ⟨_, _, rfl, (isZ (m := 1) rfl)⟩) (p := ([] : List UInt8)) (m := [u8 (dg (body.length : Int))]) (q := ([u8 13, u8 10] ++ (body ++ [u8 13, u8 10]))) (by simp) (by simp <;> omega) (by simp <;> omega) (denX rfl)) ?_
  refine hc (kRem (isX rfl) (isZ (m := 3) rfl) (denZ (m := 1) rfl) (by omega) (by omega) (by omega)) ?_
  refine hc (kCat (isX rfl) (isSx (l := [u8 59, u8 97, u8 61, u8 98]) 4 1648189755 rfl) (denX rfl) (by simp) (by simp <;> omega)) ?_
  refine hc (kCut (isX rfl) (.inr ⟨_, _, rfl, (isZ (m := 1) rfl)⟩) (.inl ⟨rfl, rfl⟩) (p := [u8 (dg (body.length : Int))]) (m := ([u8 13, u8 10] ++ (body ++ [u8 13, u8 10]))) (q := ([] : List UInt8)) (by simp) (by simp <;> omega) (by simp <;> omega) (denX rfl)) ?_
  refine hc (kCat (isX rfl) (isX rfl) (denX rfl) (by simp) (by simp <;> omega)) ?_
  refine hc (kCat (isX rfl) (isSx (l := [u8 48, u8 13, u8 10]) 3 658736 rfl) (denX rfl) (by simp) (by simp <;> omega)) ?_
  refine hc (kRem (isX rfl) (isZ (m := 5) rfl) (denZ (m := 1) rfl) (by omega) (by omega) (by omega)) ?_
  refine hc (kCat (isX rfl) (isSx (l := [u8 65, u8 58, u8 32, u8 98, u8 13, u8 10]) 6 11052597131841 rfl) (denX rfl) (by simp) (by simp <;> omega)) ?_
  refine hc (kCat (isX rfl) (isSx (l := [u8 13, u8 10, u8 109, u8 111, u8 114, u8 101]) 6 111542170094093 rfl) (denX rfl) (by simp) (by simp <;> omega)) ?_
  refine hc (kLenE (isX rfl) (denX rfl) (by first | omega | (simp <;> omega))) ?_
  refine hc (kLtT (isZ (m := 0) rfl) (isX rfl) (by omega)) ?_
  refine hc (kIdxE (i := 0) (isX rfl) (isZ (m := 0) rfl) (denX rfl) rfl (by simp <;> omega) (bt_at rfl (by omega) (by omega))) ?_
  refine hc (kEqI (isX rfl) (isZ (m := 10) rfl) (decide_eq_false (by omega))) ?_
  refine hc (kEqI (isX rfl) (isZ (m := 13) rfl) (decide_eq_false (by omega))) ?_
  refine hc (kLtT (isZ (m := 1) rfl) (isX rfl) (by omega)) ?_
  refine hc (kIdxC (isX rfl) (by simp <;> omega) rfl (by omega)) ?_
  refine hc (kLtT (isZ (m := 2) rfl) (isX rfl) (by omega)) ?_
  refine hc (kIdxC (isX rfl) (by simp <;> omega) rfl (by omega)) ?_
  refine hc (kLtT (isZ (m := 3) rfl) (isX rfl) (by omega)) ?_
  refine hc (kIdxC (isX rfl) (by simp <;> omega) rfl (by omega)) ?_
  refine hc (kLtT (isZ (m := 4) rfl) (isX rfl) (by omega)) ?_
  refine hc (kIdxC (isX rfl) (by simp <;> omega) rfl (by omega)) ?_
  refine hc (kLtT (isZ (m := 5) rfl) (isX rfl) (by omega)) ?_
  refine hc (kIdxC (isX rfl) (by simp <;> omega) rfl (by omega)) ?_
  refine hc (kLtT (isZ (m := 6) rfl) (isX rfl) (by omega)) ?_
  refine hc (kIdxC (isX rfl) (by simp <;> omega) rfl (by omega)) ?_
  refine hc (kBytesB (bs := [u8 (dg (body.length : Int)), u8 59, u8 97, u8 61, u8 98]) (.cons (isB8 (isX rfl) (by omega) (by omega)) (bC (by omega) (bC (by omega) (bC (by omega) (bC (by omega) .nil))))) (denX rfl)) ?_
  refine hc (kEqS (isSx (l := [u8 59]) 1 59 rfl) (isX rfl) (neLen (by first | omega | (simp <;> omega)))) ?_
  refine hc (kExtI (n := 1) exF73 exA73 exB73 (isX rfl) (isZ (m := 59) rfl) (denI .i64 1) ((ixN (m := 0) (n := 1) (by omega) (ixE (by omega)) (by omega)))) ?_
  refine hc (kMid (P := 0) (Q := 1) (isX rfl) (.inl ⟨rfl, rfl⟩) (.inr ⟨_, _, rfl, (isZ (m := 1) rfl)⟩) (by omega) (by omega) (by simp) (denX rfl)) ?_
  refine hc (kMid (P := 2) (Q := 5) (isX rfl) (.inr ⟨_, _, rfl, (isZ (m := 2) rfl)⟩) (.inl ⟨rfl, rfl⟩) (by omega) (by omega) (by simp) (denX rfl)) ?_
  refine hc (hokHex1 (n := (body.length : Int)) (isX rfl) (denT2 (denX rfl) (denB true)) (by omega) (by omega)) ?_
  refine hc (kAdd (isZ (m := 0) rfl) (isX rfl) (denX rfl) (by omega) (fI64 (by omega) (by omega))) ?_
  refine hc (kGt (isX rfl) (isZ (m := 1000) rfl) (decide_eq_false (by omega))) ?_
  refine hc (kEqI (isX rfl) (isZ (m := 0) rfl) (decide_eq_false (by omega))) ?_
  refine hc (kLtT (isZ (m := 7) rfl) (isX rfl) (by omega)) ?_
  refine hc (kCut (isX rfl) (.inr ⟨_, _, rfl, (isZ (m := 7) rfl)⟩) (.inl ⟨rfl, rfl⟩) (p := [u8 (dg (body.length : Int)), u8 59, u8 97, u8 61, u8 98, u8 13, u8 10]) (m := (body ++ [u8 13, u8 10, u8 48, u8 13, u8 10, u8 65, u8 58, u8 32, u8 98, u8 13, u8 10, u8 13, u8 10, u8 109, u8 111, u8 114, u8 101])) (q := ([] : List UInt8)) (by simp) (by simp <;> omega) (by simp <;> omega) (denX rfl)) ?_
  refine hc (kLenE (isX rfl) (denX rfl) (by first | omega | (simp <;> omega))) ?_
  refine hc (kMin (isX rfl) (isX rfl) (denX rfl) (by omega)) ?_
  refine hc (kCut (isX rfl) (.inl ⟨rfl, rfl⟩) (.inr ⟨_, _, rfl, (isX rfl)⟩) (p := ([] : List UInt8)) (m := body) (q := [u8 13, u8 10, u8 48, u8 13, u8 10, u8 65, u8 58, u8 32, u8 98, u8 13, u8 10, u8 13, u8 10, u8 109, u8 111, u8 114, u8 101]) (by simp) (by simp <;> omega) (by simp <;> omega) (denX rfl)) ?_
  refine hc (kByt (i := 0) (isX rfl) (isZ (m := 0) rfl) (denX rfl) rfl (by first | omega | (simp <;> omega)) rfl) ?_
  refine hc (kFit (isX rfl) (by first | omega | (simp <;> omega))) ?_
  refine hc (kSub (isX rfl) (isX rfl) (denZ (m := 0) rfl) (by omega) (fI64 (by omega) (by omega))) ?_
  refine hc (kAdd (isZ (m := 7) rfl) (isX rfl) (denX rfl) (by omega) (fI64 (by omega) (by omega))) ?_
  refine hc (kLtT (isX rfl) (isX rfl) (by omega)) ?_
  refine hc (kIdxA3 0 (isX rfl) (isX rfl) rfl (by simp <;> omega) rfl rfl) ?_
  refine hc (kInc (isX rfl) (denX rfl) (by omega)) ?_
  refine hc (kLtT (isX rfl) (isX rfl) (by omega)) ?_
  refine hc (kIdxA3 1 (isX rfl) (isX rfl) rfl (by simp <;> omega) rfl rfl) ?_
  refine hc (kInc (isX rfl) (denX rfl) (by omega)) ?_
  refine hc (kLtT (isX rfl) (isX rfl) (by omega)) ?_
  refine hc (kIdxA3 2 (isX rfl) (isX rfl) rfl (by simp <;> omega) rfl rfl) ?_
  refine hc (kInc (isX rfl) (denX rfl) (by omega)) ?_
  refine hc (kLtT (isX rfl) (isX rfl) (by omega)) ?_
  refine hc (kIdxA3 3 (isX rfl) (isX rfl) rfl (by simp <;> omega) rfl rfl) ?_
  refine hc (kInc (isX rfl) (denX rfl) (by omega)) ?_
  refine hc (kLtT (isX rfl) (isX rfl) (by omega)) ?_
  refine hc (kIdxA3 4 (isX rfl) (isX rfl) rfl (by simp <;> omega) rfl rfl) ?_
  refine hc (kLenE (isX rfl) (denX rfl) (by first | omega | (simp <;> omega))) ?_
  refine hc (kInc (isX rfl) (denX rfl) (by omega)) ?_
  refine hc (kGt (isX rfl) (isZ (m := 1000) rfl) (decide_eq_false (by omega))) ?_
  refine hc (kInc (isX rfl) (denX rfl) (by omega)) ?_
  refine hc (kLtT (isX rfl) (isX rfl) (by omega)) ?_
  refine hc (kIdxA3 5 (isX rfl) (isX rfl) rfl (by simp <;> omega) rfl rfl) ?_
  refine hc (kInc (isX rfl) (denX rfl) (by omega)) ?_
  refine hc (kLtT (isX rfl) (isX rfl) (by omega)) ?_
  refine hc (kIdxA3 6 (isX rfl) (isX rfl) rfl (by simp <;> omega) rfl rfl) ?_
  refine hc (kInc (isX rfl) (denX rfl) (by omega)) ?_
  refine hc (kLtT (isX rfl) (isX rfl) (by omega)) ?_
  refine hc (kIdxA3 7 (isX rfl) (isX rfl) rfl (by simp <;> omega) rfl rfl) ?_
  refine hc (kInc (isX rfl) (denX rfl) (by omega)) ?_
  refine hc (kLtT (isX rfl) (isX rfl) (by omega)) ?_
  refine hc (kIdxA3 8 (isX rfl) (isX rfl) rfl (by simp <;> omega) rfl rfl) ?_
  refine hc (kInc (isX rfl) (denX rfl) (by omega)) ?_
  refine hc (kLtT (isX rfl) (isX rfl) (by omega)) ?_
  refine hc (kIdxA3 9 (isX rfl) (isX rfl) rfl (by simp <;> omega) rfl rfl) ?_
  refine hc (kInc (isX rfl) (denX rfl) (by omega)) ?_
  refine hc (kLtT (isX rfl) (isX rfl) (by omega)) ?_
  refine hc (kIdxA3 10 (isX rfl) (isX rfl) rfl (by simp <;> omega) rfl rfl) ?_
  refine hc (kInc (isX rfl) (denX rfl) (by omega)) ?_
  refine hc (kLtT (isX rfl) (isX rfl) (by omega)) ?_
  refine hc (kIdxA3 11 (isX rfl) (isX rfl) rfl (by simp <;> omega) rfl rfl) ?_
  refine hc (kInc (isX rfl) (denX rfl) (by omega)) ?_
  refine hc (kLtT (isX rfl) (isX rfl) (by omega)) ?_
  refine hc (kIdxA3 12 (isX rfl) (isX rfl) rfl (by simp <;> omega) rfl rfl) ?_
  refine hc (kInc (isX rfl) (denX rfl) (by omega)) ?_
  refine hc (kLtT (isX rfl) (isX rfl) (by omega)) ?_
  refine hc (kLenE (isX rfl) (denX rfl) (by first | omega | (simp <;> omega))) ?_
  refine hc (kInc (isX rfl) (denX rfl) (by omega)) ?_
  refine hc (kEqI (isX rfl) (isX rfl) (decide_eq_true (by omega))) ?_
  refine hc (kEqS (isX rfl) (isX rfl) (decide_eq_true rfl)) ?_
  exact hnil
def hy11 : List (HK × AV) := [(.len (.x 2), .x 3),
  (.bin .gtr (.x 3) (i6 200), .b false),
  (.bin .eql (.x 3) (i6 0), .b false),
  (.bin .eql (.x 2) (.s 0 0), .b false),
  (.call 51 [.x 3, i6 16], .x 4),
  (.bin .add (.x 4) (.s 2 2573), .x 5),
  (.bin .add (.x 5) (.x 2), .x 6),
  (.bin .add (.x 6) (.s 2 2573), .x 7),
  (.len (.x 7), .x 8),
  (.bin .lss (i6 0) (.x 8), .b true),
  (.idx (.x 7) (i6 0), .x 9),
  (.bin .neq (.x 9) (u1 13), .b true),
  (.bin .lss (i6 1) (.x 8), .b true),
  (.idx (.x 7) (i6 1), .x 10),
  (.bin .neq (.x 10) (u1 13), .b true),
  (.bin .lss (i6 2) (.x 8), .b true),
  (.idx (.x 7) (i6 2), u1 13),
  (.sub (.x 7) none (some (i6 2)), .x 11),
  (.bin .rem (.x 1) (u1 3), u1 1),
  (.bin .add (.x 11) (.s 4 1648189755), .x 12),
  (.sub (.x 7) (some (i6 2)) none, .x 13),
  (.bin .add (.x 12) (.x 13), .x 14),
  (.bin .add (.x 14) (.s 3 658736), .x 15),
  (.bin .rem (.x 0) (u1 5), u1 1),
  (.bin .add (.x 15) (.s 6 11052597131841), .x 16),
  (.bin .add (.x 16) (.s 6 111542170094093), .x 17),
  (.len (.x 17), .x 18),
  (.bin .lss (i6 0) (.x 18), .b true),
  (.idx (.x 17) (i6 0), .x 19),
  (.bin .eql (.x 19) (u1 10), .b false),
  (.bin .eql (.x 19) (u1 13), .b false),
  (.bin .lss (i6 1) (.x 18), .b true),
  (.idx (.x 17) (i6 1), .x 20),
  (.bin .eql (.x 20) (u1 10), .b false),
  (.bin .eql (.x 20) (u1 13), .b false),
  (.bin .lss (i6 2) (.x 18), .b true),
  (.idx (.x 17) (i6 2), u1 59),
  (.bin .lss (i6 3) (.x 18), .b true),
  (.idx (.x 17) (i6 3), u1 97),
  (.bin .lss (i6 4) (.x 18), .b true),
  (.idx (.x 17) (i6 4), u1 61),
  (.bin .lss (i6 5) (.x 18), .b true),
  (.idx (.x 17) (i6 5), u1 98),
  (.bin .lss (i6 6) (.x 18), .b true),
  (.idx (.x 17) (i6 6), u1 13),
  (.bin .lss (i6 7) (.x 18), .b true),
  (.idx (.x 17) (i6 7), u1 10),
  (.bytes [.x 19, .x 20, u1 59, u1 97, u1 61, u1 98], .x 21),
  (.bin .eql (.s 1 59) (.x 21), .b false),
  (.ext 73 [.x 21, u1 59], i6 2),
  (.sub (.x 21) none (some (i6 2)), .x 22),
  (.sub (.x 21) (some (i6 3)) none, .x 23),
  (.call 10 [.x 22], .tu [.x 24, .b true]),
  (.bin .add (i6 0) (.x 24), .x 25),
  (.bin .gtr (.x 25) (i6 1000), .b false),
  (.bin .eql (.x 24) (i6 0), .b false),
  (.bin .lss (i6 8) (.x 18), .b true),
  (.sub (.x 17) (some (i6 8)) none, .x 26),
  (.len (.x 26), .x 27),
  (.mm false (.x 27) (.x 24), .x 28),
  (.sub (.x 26) none (some (.x 28)), .x 29),
  (.byt (.x 29) (i6 0), .x 30),
  (.fit (.x 29), .b true),
  (.bin .sub (.x 24) (.x 28), i6 0),
  (.bin .add (i6 8) (.x 28), .x 31),
  (.bin .lss (.x 31) (.x 18), .b true),
  (.idx (.x 17) (.x 31), u1 13),
  (.bin .add (.x 31) (i6 1), .x 32),
  (.bin .lss (.x 32) (.x 18), .b true),
  (.idx (.x 17) (.x 32), u1 10),
  (.bin .add (.x 32) (i6 1), .x 33),
  (.bin .lss (.x 33) (.x 18), .b true),
  (.idx (.x 17) (.x 33), u1 48),
  (.bin .add (.x 33) (i6 1), .x 34),
  (.bin .lss (.x 34) (.x 18), .b true),
  (.idx (.x 17) (.x 34), u1 13),
  (.bin .add (.x 34) (i6 1), .x 35),
  (.bin .lss (.x 35) (.x 18), .b true),
  (.idx (.x 17) (.x 35), u1 10),
  (.len (.x 29), .x 36),
  (.bin .add (.x 36) (i6 0), .x 37),
  (.bin .gtr (.x 37) (i6 1000), .b false),
  (.bin .add (.x 35) (i6 1), .x 38),
  (.bin .lss (.x 38) (.x 18), .b true),
  (.idx (.x 17) (.x 38), u1 65),
  (.bin .add (.x 38) (i6 1), .x 39),
  (.bin .lss (.x 39) (.x 18), .b true),
  (.idx (.x 17) (.x 39), u1 58),
  (.bin .add (.x 39) (i6 1), .x 40),
  (.bin .lss (.x 40) (.x 18), .b true),
  (.idx (.x 17) (.x 40), u1 32),
  (.bin .add (.x 40) (i6 1), .x 41),
  (.bin .lss (.x 41) (.x 18), .b true),
  (.idx (.x 17) (.x 41), u1 98),
  (.bin .add (.x 41) (i6 1), .x 42),
  (.bin .lss (.x 42) (.x 18), .b true),
  (.idx (.x 17) (.x 42), u1 13),
  (.bin .add (.x 42) (i6 1), .x 43),
  (.bin .lss (.x 43) (.x 18), .b true),
  (.idx (.x 17) (.x 43), u1 10),
  (.bin .add (.x 43) (i6 1), .x 44),
  (.bin .lss (.x 44) (.x 18), .b true),
  (.idx (.x 17) (.x 44), u1 13),
  (.bin .add (.x 44) (i6 1), .x 45),
  (.bin .lss (.x 45) (.x 18), .b true),
  (.idx (.x 17) (.x 45), u1 10),
  (.bin .add (.x 45) (i6 1), .x 46),
  (.bin .lss (.x 46) (.x 18), .b true),
  (.len (.x 16), .x 47),
  (.bin .add (.x 47) (i6 2), .x 48),
  (.bin .eql (.x 46) (.x 48), .b true),
  (.bin .eql (.x 29) (.x 2), .b true)]
theorem run11 (e6 : Nat) : okB (call (tbl hy11) 20000 6 [.x 0, .x 1, .x 2] ⟨H0 e6 , 7, 0, 0⟩) = true := by kernel_rfl
def nu11 (n ext : Int) (body : List UInt8) : List Value := [.int .u8 (n),
  .int .u8 (ext),
  St' body,
  .int .i64 ((body.length : Int)),
  St' ([u8 (dg ((body.length : Int) / 16)), u8 (dg ((body.length : Int) % 16))]),
  St' ([u8 (dg ((body.length : Int) / 16)), u8 (dg ((body.length : Int) % 16)), u8 13, u8 10]),
  St' ([u8 (dg ((body.length : Int) / 16)), u8 (dg ((body.length : Int) % 16)), u8 13, u8 10] ++ body),
  St' ([u8 (dg ((body.length : Int) / 16)), u8 (dg ((body.length : Int) % 16)), u8 13, u8 10] ++ (body ++ [u8 13, u8 10])),
  .int .i64 ((body.length : Int) + 6),
  .int .u8 (dg ((body.length : Int) / 16)),
  .int .u8 (dg ((body.length : Int) % 16)),
  St' ([u8 (dg ((body.length : Int) / 16)), u8 (dg ((body.length : Int) % 16))]),
  St' ([u8 (dg ((body.length : Int) / 16)), u8 (dg ((body.length : Int) % 16)), u8 59, u8 97, u8 61, u8 98]),
  St' ([u8 13, u8 10] ++ (body ++ [u8 13, u8 10])),
  St' ([u8 (dg ((body.length : Int) / 16)), u8 (dg ((body.length : Int) % 16)), u8 59, u8 97, u8 61, u8 98, u8 13, u8 10] ++ (body ++ [u8 13, u8 10])),
  St' ([u8 (dg ((body.length : Int) / 16)), u8 (dg ((body.length : Int) % 16)), u8 59, u8 97, u8 61, u8 98, u8 13, u8 10] ++ (body ++ [u8 13, u8 10, u8 48, u8 13, u8 10])),
  St' ([u8 (dg ((body.length : Int) / 16)), u8 (dg ((body.length : Int) % 16)), u8 59, u8 97, u8 61, u8 98, u8 13, u8 10] ++ (body ++ [u8 13, u8 10, u8 48, u8 13, u8 10, u8 65, u8 58, u8 32, u8 98, u8 13, u8 10])),
  St' ([u8 (dg ((body.length : Int) / 16)), u8 (dg ((body.length : Int) % 16)), u8 59, u8 97, u8 61, u8 98, u8 13, u8 10] ++ (body ++ [u8 13, u8 10, u8 48, u8 13, u8 10, u8 65, u8 58, u8 32, u8 98, u8 13, u8 10, u8 13, u8 10, u8 109, u8 111, u8 114, u8 101])),
  .int .i64 ((body.length : Int) + 25),
  .int .u8 (dg ((body.length : Int) / 16)),
  .int .u8 (dg ((body.length : Int) % 16)),
  St' ([u8 (dg ((body.length : Int) / 16)), u8 (dg ((body.length : Int) % 16)), u8 59, u8 97, u8 61, u8 98]),
  St' ([u8 (dg ((body.length : Int) / 16)), u8 (dg ((body.length : Int) % 16))]),
  St' ([u8 97, u8 61, u8 98]),
  .int .i64 ((body.length : Int)),
  .int .i64 ((body.length : Int)),
  St' (body ++ [u8 13, u8 10, u8 48, u8 13, u8 10, u8 65, u8 58, u8 32, u8 98, u8 13, u8 10, u8 13, u8 10, u8 109, u8 111, u8 114, u8 101]),
  .int .i64 ((body.length : Int) + 17),
  .int .i64 ((body.length : Int)),
  St' body,
  .int .u8 (bt body 0),
  .int .i64 ((body.length : Int) + 8),
  .int .i64 ((body.length : Int) + 9),
  .int .i64 ((body.length : Int) + 10),
  .int .i64 ((body.length : Int) + 11),
  .int .i64 ((body.length : Int) + 12),
  .int .i64 ((body.length : Int)),
  .int .i64 ((body.length : Int)),
  .int .i64 ((body.length : Int) + 13),
  .int .i64 ((body.length : Int) + 14),
  .int .i64 ((body.length : Int) + 15),
  .int .i64 ((body.length : Int) + 16),
  .int .i64 ((body.length : Int) + 17),
  .int .i64 ((body.length : Int) + 18),
  .int .i64 ((body.length : Int) + 19),
  .int .i64 ((body.length : Int) + 20),
  .int .i64 ((body.length : Int) + 21),
  .int .i64 ((body.length : Int) + 19),
  .int .i64 ((body.length : Int) + 21)]
theorem path11 (n ext : Int) (body : List UInt8) (bb : BB n ext body) (h0 : ¬ (200 < (body.length : Int))) (h1 : ¬ ((body.length : Int) = 0)) (h3 : ¬ ((body.length : Int) < 16)) (h9 : ext % 3 = 1) (h10 : n % 5 = 1) (w : World) (hl : laidE w) : Cw #[.int .u8 n, .int .u8 ext, St' body] w := by
  obtain ⟨fi, hfi, hb⟩ := fiE
  refine runP (tb := tbl hy11) ((tabkOk (nuL (nu11 n ext body)) (nuL_one (l := nu11 n ext body) rfl)).hyps ?_) rfl hfi hb (fun e6 => run11 e6 ) (args := [.int .u8 n, .int .u8 ext, St' body]) (by simp only [RelL, Rel]; exact ⟨_, _, rfl, rfl, ⟨_, _, rfl, rfl, ⟨_, _, rfl, rfl, rfl⟩⟩⟩) w hl
  obtain ⟨b0, b1, b2, b3, b4⟩ := bb
  have := dg_or ((body.length : Int) / 16)
  have := dg_or ((body.length : Int) % 16)
  skip
  have := bt_lo body 0; have := bt_hi body 0
  unfold hy11
  refine hc (kLenE (isX rfl) (denX rfl) (by first | omega | (simp <;> omega))) ?_
  refine hc (kGt (isX rfl) (isZ (m := 200) rfl) (decide_eq_false (by omega))) ?_
  refine hc (kEqI (isX rfl) (isZ (m := 0) rfl) (decide_eq_false (by omega))) ?_
  refine hc (kEqS (isX rfl) (isSx (l := ([] : List UInt8)) 0 0 rfl) (by first | exact nilT (by first | omega | (simp <;> omega)) | exact nilF (by first | omega | (simp <;> omega)) | exact nilT' (by first | omega | (simp <;> omega)) | exact nilF' (by first | omega | (simp <;> omega)))) ?_
  refine hc (hokFmt (n := (body.length : Int)) (isX rfl) (isZ (m := 16) rfl) (denX (congrArg (fun l => St' l) (hexS_hi (by omega)).symm)) (by omega) (by omega)) ?_
  refine hc (kCat (isX rfl) (isSx (l := [u8 13, u8 10]) 2 2573 rfl) (denX rfl) (by simp) (by simp <;> omega)) ?_
  refine hc (kCat (isX rfl) (isX rfl) (denX rfl) (by simp) (by simp <;> omega)) ?_
  refine hc (kCat (isX rfl) (isSx (l := [u8 13, u8 10]) 2 2573 rfl) (denX rfl) (by simp) (by simp <;> omega)) ?_
  refine hc (kLenE (isX rfl) (denX rfl) (by first | omega | (simp <;> omega))) ?_
  refine hc (kLtT (isZ (m := 0) rfl) (isX rfl) (by omega)) ?_
  refine hc (kIdxE (i := 0) (isX rfl) (isZ (m := 0) rfl) (denX rfl) rfl (by simp <;> omega) (bt_at rfl (by omega) (by omega))) ?_
  refine hc (kNeI (isX rfl) (isZ (m := 13) rfl) (neT (by omega))) ?_
  refine hc (kLtT (isZ (m := 1) rfl) (isX rfl) (by omega)) ?_
  refine hc (kIdxE (i := 1) (isX rfl) (isZ (m := 1) rfl) (denX rfl) rfl (by simp <;> omega) (bt_at rfl (by omega) (by omega))) ?_
  refine hc (kNeI (isX rfl) (isZ (m := 13) rfl) (neT (by omega))) ?_
  refine hc (kLtT (isZ (m := 2) rfl) (isX rfl) (by omega)) ?_
  refine hc (kIdxC (isX rfl) (by simp <;> omega) rfl (by omega)) ?_
  refine hc (kCut (isX rfl) (.inl ⟨rfl, rfl⟩) (.inr ⟨_, _, rfl, (isZ (m := 2) rfl)⟩) (p := ([] : List UInt8)) (m := [u8 (dg ((body.length : Int) / 16)), u8 (dg ((body.length : Int) % 16))]) (q := ([u8 13, u8 10] ++ (body ++ [u8 13, u8 10]))) (by simp) (by simp <;> omega) (by simp <;> omega) (denX rfl)) ?_
  refine hc (kRem (isX rfl) (isZ (m := 3) rfl) (denZ (m := 1) rfl) (by omega) (by omega) (by omega)) ?_
  refine hc (kCat (isX rfl) (isSx (l := [u8 59, u8 97, u8 61, u8 98]) 4 1648189755 rfl) (denX rfl) (by simp) (by simp <;> omega)) ?_
  refine hc (kCut (isX rfl) (.inr ⟨_, _, rfl, (isZ (m := 2) rfl)⟩) (.inl ⟨rfl, rfl⟩) (p := [u8 (dg ((body.length : Int) / 16)), u8 (dg ((body.length : Int) % 16))]) (m := ([u8 13, u8 10] ++ (body ++ [u8 13, u8 10]))) (q := ([] : List UInt8)) (by simp) (by simp <;> omega) (by simp <;> omega) (denX rfl)) ?_
  refine hc (kCat (isX rfl) (isX rfl) (denX rfl) (by simp) (by simp <;> omega)) ?_
  refine hc (kCat (isX rfl) (isSx (l := [u8 48, u8 13, u8 10]) 3 658736 rfl) (denX rfl) (by simp) (by simp <;> omega)) ?_
  refine hc (kRem (isX rfl) (isZ (m := 5) rfl) (denZ (m := 1) rfl) (by omega) (by omega) (by omega)) ?_
  refine hc (kCat (isX rfl) (isSx (l := [u8 65, u8 58, u8 32, u8 98, u8 13, u8 10]) 6 11052597131841 rfl) (denX rfl) (by simp) (by simp <;> omega)) ?_
  refine hc (kCat (isX rfl) (isSx (l := [u8 13, u8 10, u8 109, u8 111, u8 114, u8 101]) 6 111542170094093 rfl) (denX rfl) (by simp) (by simp <;> omega)) ?_
  refine hc (kLenE (isX rfl) (denX rfl) (by first | omega | (simp <;> omega))) ?_
  refine hc (kLtT (isZ (m := 0) rfl) (isX rfl) (by omega)) ?_
  refine hc (kIdxE (i := 0) (isX rfl) (isZ (m := 0) rfl) (denX rfl) rfl (by simp <;> omega) (bt_at rfl (by omega) (by omega))) ?_
  refine hc (kEqI (isX rfl) (isZ (m := 10) rfl) (decide_eq_false (by omega))) ?_
  refine hc (kEqI (isX rfl) (isZ (m := 13) rfl) (decide_eq_false (by omega))) ?_
  refine hc (kLtT (isZ (m := 1) rfl) (isX rfl) (by omega)) ?_
  refine hc (kIdxE (i := 1) (isX rfl) (isZ (m := 1) rfl) (denX rfl) rfl (by simp <;> omega) (bt_at rfl (by omega) (by omega))) ?_
  refine hc (kEqI (isX rfl) (isZ (m := 10) rfl) (decide_eq_false (by omega))) ?_
  refine hc (kEqI (isX rfl) (isZ (m := 13) rfl) (decide_eq_false (by omega))) ?_
  refine hc (kLtT (isZ (m := 2) rfl) (isX rfl) (by omega)) ?_
  refine hc (kIdxC (isX rfl) (by simp <;> omega) rfl (by omega)) ?_
  refine hc (kLtT (isZ (m := 3) rfl) (isX rfl) (by omega)) ?_
  refine hc (kIdxC (isX rfl) (by simp <;> omega) rfl (by omega)) ?_
  refine hc (kLtT (isZ (m := 4) rfl) (isX rfl) (by omega)) ?_
  refine hc (kIdxC (isX rfl) (by simp <;> omega) rfl (by omega)) ?_
  refine hc (kLtT (isZ (m := 5) rfl) (isX rfl) (by omega)) ?_
  refine hc (kIdxC (isX rfl) (by simp <;> omega) rfl (by omega)) ?_
  refine hc (kLtT (isZ (m := 6) rfl) (isX rfl) (by omega)) ?_
  refine hc (kIdxC (isX rfl) (by simp <;> omega) rfl (by omega)) ?_
  refine hc (kLtT (isZ (m := 7) rfl) (isX rfl) (by omega)) ?_
  refine hc (kIdxC (isX rfl) (by simp <;> omega) rfl (by omega)) ?_
  refine hc (kBytesB (bs := [u8 (dg ((body.length : Int) / 16)), u8 (dg ((body.length : Int) % 16)), u8 59, u8 97, u8 61, u8 98]) (.cons (isB8 (isX rfl) (by omega) (by omega)) (.cons (isB8 (isX rfl) (by omega) (by omega)) (bC (by omega) (bC (by omega) (bC (by omega) (bC (by omega) .nil)))))) (denX rfl)) ?_
  refine hc (kEqS (isSx (l := [u8 59]) 1 59 rfl) (isX rfl) (neLen (by first | omega | (simp <;> omega)))) ?_
  refine hc (kExtI (n := 2) exF73 exA73 exB73 (isX rfl) (isZ (m := 59) rfl) (denI .i64 2) ((ixN (m := 1) (n := 2) (by omega) (ixN (m := 0) (n := 1) (by omega) (ixE (by omega)) (by omega)) (by omega)))) ?_
  refine hc (kMid (P := 0) (Q := 2) (isX rfl) (.inl ⟨rfl, rfl⟩) (.inr ⟨_, _, rfl, (isZ (m := 2) rfl)⟩) (by omega) (by omega) (by simp) (denX rfl)) ?_
  refine hc (kMid (P := 3) (Q := 6) (isX rfl) (.inr ⟨_, _, rfl, (isZ (m := 3) rfl)⟩) (.inl ⟨rfl, rfl⟩) (by omega) (by omega) (by simp) (denX rfl)) ?_
  refine hc (hokHex2 (n := (body.length : Int)) (isX rfl) (denT2 (denX rfl) (denB true)) (by omega) (by omega)) ?_
  refine hc (kAdd (isZ (m := 0) rfl) (isX rfl) (denX rfl) (by omega) (fI64 (by omega) (by omega))) ?_
  refine hc (kGt (isX rfl) (isZ (m := 1000) rfl) (decide_eq_false (by omega))) ?_
  refine hc (kEqI (isX rfl) (isZ (m := 0) rfl) (decide_eq_false (by omega))) ?_
  refine hc (kLtT (isZ (m := 8) rfl) (isX rfl) (by omega)) ?_
  refine hc (kCut (isX rfl) (.inr ⟨_, _, rfl, (isZ (m := 8) rfl)⟩) (.inl ⟨rfl, rfl⟩) (p := [u8 (dg ((body.length : Int) / 16)), u8 (dg ((body.length : Int) % 16)), u8 59, u8 97, u8 61, u8 98, u8 13, u8 10]) (m := (body ++ [u8 13, u8 10, u8 48, u8 13, u8 10, u8 65, u8 58, u8 32, u8 98, u8 13, u8 10, u8 13, u8 10, u8 109, u8 111, u8 114, u8 101])) (q := ([] : List UInt8)) (by simp) (by simp <;> omega) (by simp <;> omega) (denX rfl)) ?_
  refine hc (kLenE (isX rfl) (denX rfl) (by first | omega | (simp <;> omega))) ?_
  refine hc (kMin (isX rfl) (isX rfl) (denX rfl) (by omega)) ?_
  refine hc (kCut (isX rfl) (.inl ⟨rfl, rfl⟩) (.inr ⟨_, _, rfl, (isX rfl)⟩) (p := ([] : List UInt8)) (m := body) (q := [u8 13, u8 10, u8 48, u8 13, u8 10, u8 65, u8 58, u8 32, u8 98, u8 13, u8 10, u8 13, u8 10, u8 109, u8 111, u8 114, u8 101]) (by simp) (by simp <;> omega) (by simp <;> omega) (denX rfl)) ?_
  refine hc (kByt (i := 0) (isX rfl) (isZ (m := 0) rfl) (denX rfl) rfl (by first | omega | (simp <;> omega)) rfl) ?_
  refine hc (kFit (isX rfl) (by first | omega | (simp <;> omega))) ?_
  refine hc (kSub (isX rfl) (isX rfl) (denZ (m := 0) rfl) (by omega) (fI64 (by omega) (by omega))) ?_
  refine hc (kAdd (isZ (m := 8) rfl) (isX rfl) (denX rfl) (by omega) (fI64 (by omega) (by omega))) ?_
  refine hc (kLtT (isX rfl) (isX rfl) (by omega)) ?_
  refine hc (kIdxA3 0 (isX rfl) (isX rfl) rfl (by simp <;> omega) rfl rfl) ?_
  refine hc (kInc (isX rfl) (denX rfl) (by omega)) ?_
  refine hc (kLtT (isX rfl) (isX rfl) (by omega)) ?_
  refine hc (kIdxA3 1 (isX rfl) (isX rfl) rfl (by simp <;> omega) rfl rfl) ?_
  refine hc (kInc (isX rfl) (denX rfl) (by omega)) ?_
  refine hc (kLtT (isX rfl) (isX rfl) (by omega)) ?_
  refine hc (kIdxA3 2 (isX rfl) (isX rfl) rfl (by simp <;> omega) rfl rfl) ?_
  refine hc (kInc (isX rfl) (denX rfl) (by omega)) ?_
  refine hc (kLtT (isX rfl) (isX rfl) (by omega)) ?_
  refine hc (kIdxA3 3 (isX rfl) (isX rfl) rfl (by simp <;> omega) rfl rfl) ?_
  refine hc (kInc (isX rfl) (denX rfl) (by omega)) ?_
  refine hc (kLtT (isX rfl) (isX rfl) (by omega)) ?_
  refine hc (kIdxA3 4 (isX rfl) (isX rfl) rfl (by simp <;> omega) rfl rfl) ?_
  refine hc (kLenE (isX rfl) (denX rfl) (by first | omega | (simp <;> omega))) ?_
  refine hc (kInc (isX rfl) (denX rfl) (by omega)) ?_
  refine hc (kGt (isX rfl) (isZ (m := 1000) rfl) (decide_eq_false (by omega))) ?_
  refine hc (kInc (isX rfl) (denX rfl) (by omega)) ?_
  refine hc (kLtT (isX rfl) (isX rfl) (by omega)) ?_
  refine hc (kIdxA3 5 (isX rfl) (isX rfl) rfl (by simp <;> omega) rfl rfl) ?_
  refine hc (kInc (isX rfl) (denX rfl) (by omega)) ?_
  refine hc (kLtT (isX rfl) (isX rfl) (by omega)) ?_
  refine hc (kIdxA3 6 (isX rfl) (isX rfl) rfl (by simp <;> omega) rfl rfl) ?_
  refine hc (kInc (isX rfl) (denX rfl) (by omega)) ?_
  refine hc (kLtT (isX rfl) (isX rfl) (by omega)) ?_
  refine hc (kIdxA3 7 (isX rfl) (isX rfl) rfl (by simp <;> omega) rfl rfl) ?_
  refine hc (kInc (isX rfl) (denX rfl) (by omega)) ?_
  refine hc (kLtT (isX rfl) (isX rfl) (by omega)) ?_
  refine hc (kIdxA3 8 (isX rfl) (isX rfl) rfl (by simp <;> omega) rfl rfl) ?_
  refine hc (kInc (isX rfl) (denX rfl) (by omega)) ?_
  refine hc (kLtT (isX rfl) (isX rfl) (by omega)) ?_
  refine hc (kIdxA3 9 (isX rfl) (isX rfl) rfl (by simp <;> omega) rfl rfl) ?_
  refine hc (kInc (isX rfl) (denX rfl) (by omega)) ?_
  refine hc (kLtT (isX rfl) (isX rfl) (by omega)) ?_
  refine hc (kIdxA3 10 (isX rfl) (isX rfl) rfl (by simp <;> omega) rfl rfl) ?_
  refine hc (kInc (isX rfl) (denX rfl) (by omega)) ?_
  refine hc (kLtT (isX rfl) (isX rfl) (by omega)) ?_
  refine hc (kIdxA3 11 (isX rfl) (isX rfl) rfl (by simp <;> omega) rfl rfl) ?_
  refine hc (kInc (isX rfl) (denX rfl) (by omega)) ?_
  refine hc (kLtT (isX rfl) (isX rfl) (by omega)) ?_
  refine hc (kIdxA3 12 (isX rfl) (isX rfl) rfl (by simp <;> omega) rfl rfl) ?_
  refine hc (kInc (isX rfl) (denX rfl) (by omega)) ?_
  refine hc (kLtT (isX rfl) (isX rfl) (by omega)) ?_
  refine hc (kLenE (isX rfl) (denX rfl) (by first | omega | (simp <;> omega))) ?_
  refine hc (kInc (isX rfl) (denX rfl) (by omega)) ?_
  refine hc (kEqI (isX rfl) (isX rfl) (decide_eq_true (by omega))) ?_
  refine hc (kEqS (isX rfl) (isX rfl) (decide_eq_true rfl)) ?_
  exact hnil
end Go.Proofs.YtdnhfkceldafaaaDoor.chunkTrailers
