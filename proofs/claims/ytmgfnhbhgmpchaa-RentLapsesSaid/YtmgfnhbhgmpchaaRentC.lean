/-
  The layer's fixed answer.
-/
import Derived.Test.YtmgfnhbhgmpchaaRentB
namespace Go.Proofs.Ytmgfnhbhgmpchaa.rn
open Go.RowKit
open base (ret_bool ret_int made up Blk Only)
open mk
set_option linter.unusedVariables false
set_option linter.unusedSimpArgs false

theorem tab {k : Nat} (hk : k < 6) : ∃ x0 x1 : Int, (#[.int .i64 100, .int .i64 0, .int .i64 101, .int .i64 1, .int .i64 110, .int .i64 1, .int .i64 111, .int .i64 2, .int .i64 140, .int .i64 4, .int .i64 141, .int .i64 5] : Array Value)[k * 2]? = some (.int .i64 x0) ∧ (#[.int .i64 100, .int .i64 0, .int .i64 101, .int .i64 1, .int .i64 110, .int .i64 1, .int .i64 111, .int .i64 2, .int .i64 140, .int .i64 4, .int .i64 141, .int .i64 5] : Array Value)[k * 2 + 1]? = some (.int .i64 x1) ∧ stageOf 100 x0 = x1 ∧ x0 ≤ 200 := by
  rcases k with _ | _ | _ | _ | _ | _ | k
  · exact ⟨100, 0, rfl, rfl, by decide, by decide⟩
  · exact ⟨101, 1, rfl, rfl, by decide, by decide⟩
  · exact ⟨110, 1, rfl, rfl, by decide, by decide⟩
  · exact ⟨111, 2, rfl, rfl, by decide, by decide⟩
  · exact ⟨140, 4, rfl, rfl, by decide, by decide⟩
  · exact ⟨141, 5, rfl, rfl, by decide, by decide⟩
  · omega
set_option maxRecDepth 100000 in
set_option maxHeartbeats 4000000 in
theorem awake_any (w : World) : Calls Try.prog 9 #[] w fun e w' => e = .returned (.bool true) ∧ Below w.heap.size w w' := by
  have NW := Lib.hid (new_any w)
  go_enter Try.func9, Try.ntmps9
  go_wp2_with fail
  refine NW.out.mono ?_
  rintro e w1 ⟨rfl, hr1, hb1⟩
  have B1 := Lib.hid hb1
  have A1 := Lib.hid (add_yes (w.heap.size + 1) w.heap.size 0 (fun _ => none) 7 5 0 w1 hr1 (by decide) (by decide +kernel) (by decide))
  clear hr1 hb1 NW
  go_wp2_with fail
  refine A1.out.mono ?_
  rintro e w2 ⟨rfl, hr2, ho2⟩
  have R2 := Lib.hid (show RAt w2 (w.heap.size + 1) w.heap.size (set (fun _ => none) 7 (some (7, 5, 100))) 1 from hr2)
  have B2 := Lib.hid (show Below w.heap.size w w2 from B1.out.trans (ho2.to (Nat.le_refl _) B1.out.size))
  clear hr2 ho2 A1
  have ms : set (fun _ => none) 7 (some (7, 5, 100)) 7 = some ((7, 5, 100) : R3) := set_same _ _ _
  have er : addErr (set (fun _ => none) 7 (some (7, 5, 100))) 7 5 0 = 13 := by
    unfold addErr
    rw [if_neg (by decide), if_neg (by decide), ms]
    rfl
  have A2 := Lib.hid (add_no (w.heap.size + 1) w.heap.size 1 (set (fun _ => none) 7 (some (7, 5, 100))) 7 5 0 w2 R2.out (by decide) (by rw [er]; decide))
  rw [er] at A2
  have SG := Lib.hid (fun ws t (h : RAt ws (w.heap.size + 1) w.heap.size (set (fun _ => none) 7 (some (7, 5, 100))) 1) (ht : t ≤ 9223372036854775807) => stage_some (w.heap.size + 1) w.heap.size 1 (set (fun _ => none) 7 (some (7, 5, 100))) 7 t ws h (by decide) 7 5 100 ms (by omega) (by omega) ht)
  clear ms er
  generalize set (fun _ => none) 7 (some (7, 5, 100)) = m at *
  go_wp2_with fail
  refine A2.out.mono ?_
  rintro e w3 ⟨rfl, hr3, ho3⟩
  have B3 := Lib.hid (show Below w.heap.size w w3 from B2.out.trans (ho3.to (Nat.le_refl _) B2.out.size))
  have hm := made w3 (.cells #[.int .i64 100, .int .i64 0, .int .i64 101, .int .i64 1, .int .i64 110, .int .i64 1, .int .i64 111, .int .i64 2, .int .i64 140, .int .i64 4, .int .i64 141, .int .i64 5] 59)
  have R4 := Lib.hid (hr3.below hm)
  have B4 := Lib.hid (up B3.out hm B3.out.size)
  have BT := Lib.hid (Blk.new w3 59 #[.int .i64 100, .int .i64 0, .int .i64 101, .int .i64 1, .int .i64 110, .int .i64 1, .int .i64 111, .int .i64 2, .int .i64 140, .int .i64 4, .int .i64 141, .int .i64 5])
  clear hm hr3 ho3 A2 R2
  go_wp2_with fail
  generalize w3.alloc (.cells #[.int .i64 100, .int .i64 0, .int .i64 101, .int .i64 1, .int .i64 110, .int .i64 1, .int .i64 111, .int .i64 2, .int .i64 140, .int .i64 4, .int .i64 141, .int .i64 5] 59) = w4 at *
  go_loopw [27] (fun i wr => ∃ (k : Nat) (W : World), W = wr ∧ k ≤ 6 ∧ i = .int .i64 k ∧ Below w4.heap.size w4 wr) (fun i _ => 6 - (intOf i).toNat)
  case atStart => exact ⟨0, _, rfl, by omega, rfl, Below.refl _ _⟩
  case round =>
  obtain ⟨k, w5, rfl, hk, rfl, hb5⟩ := hrel
  have B5 := Lib.hid hb5
  by_cases hk6 : k < 6
  · obtain ⟨x0, x1, h0, h1, h2, h3⟩ := tab hk6
    have bt := BT.out.below hb5 BT.out.lt
    have e0 := (bt.cell (k * 2)).trans h0
    have e1 := (bt.cell (k * 2 + 1)).trans h1
    have hm := made w5 (.cells #[.int .i64 x0, .int .i64 x1] 59)
    have B6 := Lib.hid (up B5.out hm B5.out.size)
    have BX := Lib.hid (Blk.new w5 59 #[.int .i64 x0, .int .i64 x1])
    have S6 := Lib.hid (SG.out (w5.alloc (.cells #[.int .i64 x0, .int .i64 x1] 59)) x0 (R4.out.below B6.out) (by omega))
    rw [h2] at S6
    clear hm h0 h1 h2 h3 bt hb5
    go_upto_region 7 with fail
    generalize w5.alloc (.cells #[.int .i64 x0, .int .i64 x1] 59) = w6 at *
    clear e0 e1
    have y0 := BX.out.cell 0
    go_wp2_with fail
    refine S6.out.mono ?_
    rintro e w7 ⟨rfl, hb7⟩
    have B7 := Lib.hid (up B6.out hb7 B6.out.size)
    have y1 := (BX.out.below hb7 BX.out.lt).cell 1
    clear hb7 y0 S6
    go_wp2_with fail
    refine ⟨⟨k + 1, _, rfl, by omega, by go_num, B7.out⟩, by simp [intOf]; omega⟩
  · obtain rfl : k = 6 := by omega
    have LN := Lib.hid (len_any (w.heap.size + 1) w.heap.size 1 m w5 (R4.out.below hb5))
    clear hb5
    go_wp2_with fail
    refine LN.out.mono ?_
    rintro e w6 ⟨rfl, rfl⟩
    go_wp2_with fail
    go_ret
    exact ⟨rfl, up B4.out B5.out B4.out.size⟩
end Go.Proofs.Ytmgfnhbhgmpchaa.rn
