/-
  Contracts of package bid: the auction with number 1 is found; what it asks.
-/
import Derived.Test.YtlklfolpcebahaaBidC
namespace Go.Proofs.Ytlklfolpcebahaa.bd
open Go.RowKit
open base (ret_bool ret_int made up Blk Only Nums)
set_option linter.unusedVariables false
set_option linter.unusedSimpArgs false

theorem is_one (d l b p n : Int) (bx : Nat) (w : World) (hb : Blk w bx 3 #[.int .i64 1]) :
    Calls Try.prog 40 #[(.agg #[.int .i64 1, .int .i64 d, .int .i64 1, .int .i64 l, .int .i64 b, .int .i64 p, .int .i64 n]), .pointer (some ⟨bx, 0, none⟩)] w fun e w' => e = .returned (.bool true) ∧ Below w.heap.size w w' := by
  have hm := Lib.hid (made w (.cells #[.int .i64 1, .int .i64 d, .int .i64 1, .int .i64 l, .int .i64 b, .int .i64 p, .int .i64 n] 35))
  have c0 := (hb.alloc (.cells #[.int .i64 1, .int .i64 d, .int .i64 1, .int .i64 l, .int .i64 b, .int .i64 p, .int .i64 n] 35)).cell 0
  clear hb
  go_enter Try.func40, Try.ntmps40
  go_wp2_with fail
  go_ret
  exact ⟨rfl, hm.out⟩
set_option maxRecDepth 100000 in
set_option maxHeartbeats 1000000 in
theorem index_one (g gl cap : Nat) (d l b p n : Int) (bx : Nat) (w : World) (h : One w g gl cap d l b p n) (hb : Blk w bx 3 #[.int .i64 1]) :
    Calls Try.prog 41 #[.slice (some ⟨gl, 0, none⟩) 1 cap, .func (.func 40) #[] #[.pointer (some ⟨bx, 0, none⟩)]] w fun e w' => e = .returned (.int .i64 0) ∧ Below w.heap.size w w' := by
  have r := h.row
  have d0 := r.cell (j := 0) (by omega)
  have d1 := r.cell (j := 1) (by omega)
  have d2 := r.cell (j := 2) (by omega)
  have d3 := r.cell (j := 3) (by omega)
  have d4 := r.cell (j := 4) (by omega)
  have d5 := r.cell (j := 5) (by omega)
  have d6 := r.cell (j := 6) (by omega)
  simp only [List.getD_cons_zero, List.getD_cons_succ] at d0 d1 d2 d3 d4 d5 d6
  have IS := Lib.hid (is_one d l b p n bx w hb)
  clear h hb r
  go_enter Try.func41, Try.ntmps41
  go_wp2_with fail
  go_loopw [8] (fun i wr => i = .int .i64 0 ∧ wr = w) (fun _ _ => 0)
  case atStart => exact ⟨rfl, rfl⟩
  case round =>
    obtain ⟨rfl, rfl⟩ := hrel
    go_wp2_with fail
    refine IS.out.mono ?_
    rintro e w2 ⟨rfl, hb2⟩
    have B2 := Lib.hid hb2
    clear hb2 d0 d1 d2 d3 d4 d5 d6 IS
    go_wp2_with fail
    go_ret
    exact ⟨rfl, B2.out⟩
set_option maxHeartbeats 1000000 in
theorem find_one (g gl cap : Nat) (d l b p n : Int) (bx : Nat) (w : World) (h : One w g gl cap d l b p n) (hb : Blk w bx 3 #[.int .i64 1]) :
    Calls Try.prog 30 #[.pointer (some ⟨g, 0, none⟩), .func (.func 40) #[] #[.pointer (some ⟨bx, 0, none⟩)]] w fun e w' => e = .returned (.tuple #[.int .i64 0, .bool true]) ∧ Below w.heap.size w w' := by
  have c0 := h.blk.cell 0
  have IX := Lib.hid (index_one g gl cap d l b p n bx w h hb)
  clear h hb
  go_enter Try.func30, Try.ntmps30
  go_wp2_with fail
  refine IX.out.mono ?_
  rintro e w' ⟨rfl, hb⟩
  have B := Lib.hid hb
  clear hb c0 IX
  go_wp2_with fail
  go_ret2
  exact ⟨rfl, B.out⟩
set_option maxHeartbeats 1000000 in
theorem numbered_one (g gl cap : Nat) (d l b p n : Int) (w : World) (h : One w g gl cap d l b p n) :
    Calls Try.prog 29 #[.pointer (some ⟨g, 0, none⟩), .int .i64 1] w fun e w' => e = .returned (.tuple #[.int .i64 0, .bool true]) ∧ Below w.heap.size w w' := by
  have hm : Below w.heap.size w (w.alloc (.cells #[.int .i64 1] 3)) := made w _
  have FO := Lib.hid (find_one g gl cap d l b p n w.heap.size (w.alloc (.cells #[.int .i64 1] 3)) (h.below hm) (Blk.new _ _ _))
  have M := Lib.hid hm
  clear h hm
  go_enter Try.func29, Try.ntmps29
  go_wp2_with fail
  refine FO.out.mono ?_
  rintro e w' ⟨rfl, hb⟩
  have B := Lib.hid (up M.out hb M.out.size)
  clear hb FO M
  go_wp2_with fail
  go_ret2
  exact ⟨rfl, B.out⟩
def askOf (l b p : Int) : Int := if p = 0 then l else b + stepOf b
theorem step_le {b : Int} (h0 : 0 ≤ b) (h1 : b ≤ 1099511627776) : 1 ≤ stepOf b ∧ stepOf b ≤ 1099511627776 := by unfold stepOf; split <;> omega
set_option maxHeartbeats 1000000 in
theorem asks_any (d l b p n : Int) (w : World) (hb : 0 ≤ b ∧ b ≤ 1099511627776) (hp : 0 ≤ p) :
    Calls Try.prog 34 #[(.agg #[.int .i64 1, .int .i64 d, .int .i64 1, .int .i64 l, .int .i64 b, .int .i64 p, .int .i64 n])] w fun e w' => e = .returned (.int .i64 (askOf l b p)) ∧ Below w.heap.size w w' := by
  have hm := Lib.hid (made w (.cells #[.int .i64 1, .int .i64 d, .int .i64 1, .int .i64 l, .int .i64 b, .int .i64 p, .int .i64 n] 35))
  have ST := Lib.hid (step_ok b (w.alloc (.cells #[.int .i64 1, .int .i64 d, .int .i64 1, .int .i64 l, .int .i64 b, .int .i64 p, .int .i64 n] 35)) hb.1 hb.2)
  have AO := Lib.hid (show askOf l b p = if p = 0 then l else b + stepOf b from rfl)
  obtain ⟨hs0, hs1⟩ := step_le hb.1 hb.2
  obtain ⟨hb0, hb1⟩ := hb
  generalize askOf l b p = a at *
  generalize stepOf b = s at *
  by_cases hp0 : p = 0
  · rw [if_pos hp0] at AO
    have q : (p == 0) = true := by simpa using hp0
    clear hp0
    go_enter Try.func34, Try.ntmps34
    go_wp2_with fail
    go_ret
    exact ⟨ret_int AO.out.symm, hm.out⟩
  · rw [if_neg hp0] at AO
    have q : (p == 0) = false := by simpa using hp0
    clear hp0
    go_enter Try.func34, Try.ntmps34
    go_wp2_with fail
    refine ST.out.mono ?_
    rintro e w' ⟨rfl, rfl⟩
    go_wp2_with fail
    go_ret
    exact ⟨ret_int AO.out.symm, hm.out⟩
end Go.Proofs.Ytlklfolpcebahaa.bd
