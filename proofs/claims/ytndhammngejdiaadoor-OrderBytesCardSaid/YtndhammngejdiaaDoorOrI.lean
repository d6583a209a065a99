/-
  Orders: the layer's fixed answer.
-/
import Derived.Test.YtndhammngejdiaaDoorOrH

namespace Go.Proofs.YtndhammngejdiaaDoor.od
open Go.RowKit
open base (ret_bool ret_int made up Blk Only Nums)
open bytes (Small small_nil small_app small_drop small_take Lay By str Own conv_any)
open vi (bs bs_len)
open vnum
set_option linter.unusedVariables false
set_option linter.unusedSimpArgs false
def x24 : Cm := ⟨1, 0, 24, 0, 0, 0, 0, ⟨#[]⟩, ⟨#[]⟩⟩
theorem fs24 : fs 24 = [] := by decide
theorem x24_right : rightM x24 = true := by
  unfold rightM
  rw [if_neg (by unfold x24; simp), if_neg]
  · rw [if_pos (by rfl)]
    rfl
  · have : eqb x24 (plainM x24) = true := eqb_iff.2 (by
      unfold plainM
      rw [if_pos (by rfl)]
      show x24 = (fs 24).foldl (setF x24) (base0 x24)
      rw [fs24]
      rfl)
    rw [this]
    simp
theorem x24_ok : x24.Ok := ⟨by decide, wf0, by decide, wf0, wf0, wf0, wf0, sz0, sz0⟩
theorem enc_1 : enc 1 = [2] := by
  have z : zig 1 = 2 := by decide
  unfold enc
  rw [z, vb_small (by omega)]
theorem enc_0 : enc 0 = [0] := by
  have z : zig 0 = 0 := by decide
  unfold enc
  rw [z, vb_small (by omega)]
theorem enc_24 : enc 24 = [48] := by
  have z : zig 24 = 48 := by decide
  unfold enc
  rw [z, vb_small (by omega)]
theorem enc_30 : enc 30 = [60] := by
  have z : zig 30 = 60 := by decide
  unfold enc
  rw [z, vb_small (by omega)]
theorem x24_bytes : bytesM x24 = [2, 48] := by
  unfold bytesM
  rw [if_pos (by rfl)]
  show enc 1 ++ (enc 24 ++ (fs 24).flatMap (fb x24)) = _
  rw [fs24, enc_1, enc_24]
  rfl
theorem two_none : parse512 [2] = none := by
  unfold parse512
  rw [if_neg (by simp)]
  unfold parseM
  have h : dec [2] = some (1, 1) := by
    have := dec_enc (n := 1) [] (by omega) (by omega)
    rw [enc_1] at this
    exact this
  rw [h]
  simp only [List.drop_succ_cons, List.drop_zero, dec_nil]
theorem bad_bytes : replyb 30 0 [] = [60, 0, 0] := by
  unfold replyb vi.encs
  rw [enc_30]
  show [60] ++ (enc 0 ++ (enc 0 ++ vi.flat [])) = _
  rw [enc_0]
  rfl
set_option maxRecDepth 100000 in
set_option maxHeartbeats 4000000 in
theorem awake_any (w : World) (hT : Tab w) : Calls Tryd.prog 8 #[] w (BoolP true w) := by
  have BA := Lib.hid (bytes_any x24 w hT x24_ok)
  have TW := Lib.hid hT
  clear hT
  go_enter Tryd.func8, Tryd.ntmps8
  go_wp2_with fail
  refine BA.out.mono ?_
  rintro e w1 ⟨hb1, h1⟩
  obtain ⟨v1, rfl, ho1⟩ : ∃ v, e = .returned (.tuple #[v, .int .i64 0]) ∧ Own w1 w.heap.size v [2, 48] := by
    rcases h1 with ⟨h, _⟩ | ⟨_, v, h2, h3⟩
    · rw [x24_right] at h; cases h
    · rw [x24_bytes] at h3; exact ⟨v, h2, h3⟩
  obtain ⟨A1, c1, rfl, hl1, -, -⟩ := ho1.lay
  have L1 := Lib.hid hl1
  have B1 := Lib.hid hb1
  have M2 := Lib.hid (made w1 (.cells #[.int .u8 2] 5))
  have PA := Lib.hid (parse_any (some ⟨w1.heap.size, 0, none⟩) 1 [2] (w1.alloc (.cells #[.int .u8 2] 5)) (TW.out.keep (up B1.out M2.out B1.out.size)) (vi.bytes_lit w1 2 2 rfl) (by intro c hc; simp at hc; omega))
  clear h1 hb1 ho1 hl1 BA
  go_wp2_with fail
  refine PA.out.mono ?_
  rintro e w3 ⟨hb3, h3⟩
  obtain rfl : e = .returned (.tuple #[.agg #[.int .i64 0, .int .i64 0, .int .i64 0, .int .i64 0, .int .i64 0, .int .i64 0, .int .i64 0, .string ⟨#[]⟩, .string ⟨#[]⟩], .int .i64 30]) := by
    rcases h3 with ⟨_, h⟩ | ⟨x, h, _⟩
    · exact h
    · rw [two_none] at h; cases h
  have B3 := Lib.hid (show Below w.heap.size w w3 from up (up B1.out M2.out B1.out.size) hb3 (up B1.out M2.out B1.out.size).size)
  have L3 := Lib.hid ((L1.out.below M2.out).below hb3)
  clear h3 hb3 PA M2
  have B4 := Lib.hid (show Below w.heap.size w (w3.alloc (.cells #[.int .i64 0, .int .i64 0, .int .i64 0, .int .i64 0, .int .i64 0, .int .i64 0, .int .i64 0, .string ⟨#[]⟩, .string ⟨#[]⟩] 25)) from up B3.out (made w3 _) B3.out.size)
  have cv : (convert 32 9 (.slice A1 2 c1)).run Tryd.prog (w3.alloc (.cells #[.int .i64 0, .int .i64 0, .int .i64 0, .int .i64 0, .int .i64 0, .int .i64 0, .int .i64 0, .string ⟨#[]⟩, .string ⟨#[]⟩] 25)) = .ok (.string (str [2, 48])) (w3.alloc (.cells #[.int .i64 0, .int .i64 0, .int .i64 0, .int .i64 0, .int .i64 0, .int .i64 0, .int .i64 0, .string ⟨#[]⟩, .string ⟨#[]⟩] 25)) := conv_any _ A1 c1 [2, 48] (L3.out.below (made w3 _)) (by intro c hc; simp at hc; omega)
  rw [show str [2, 48] = ⟨#[2, 48]⟩ from rfl] at cv
  have BD := Lib.hid (bad_any (w3.alloc (.cells #[.int .i64 0, .int .i64 0, .int .i64 0, .int .i64 0, .int .i64 0, .int .i64 0, .int .i64 0, .string ⟨#[]⟩, .string ⟨#[]⟩] 25)))
  rw [bad_bytes] at BD
  unfold vi.NewB at BD
  go_wp2_with fail
  refine BD.out.mono ?_
  rintro e w5 ⟨v5, rfl, ho5, hb5⟩
  obtain ⟨A5, c5, rfl, hl5, -, -⟩ := ho5.lay
  have cv5 : (convert 32 9 (.slice A5 3 c5)).run Tryd.prog w5 = .ok (.string (str [60, 0, 0])) w5 := conv_any w5 A5 c5 [60, 0, 0] hl5 (by intro c hc; simp at hc; omega)
  rw [show str [60, 0, 0] = ⟨#[60, 0, 0]⟩ from rfl] at cv5
  have B5 := Lib.hid (up B4.out hb5 B4.out.size)
  clear hb5 ho5 hl5 BD cv
  go_wp2_with fail
  go_ret
  exact ⟨rfl, B5.out⟩
end Go.Proofs.YtndhammngejdiaaDoor.od
