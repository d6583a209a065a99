/-
  Contracts of package pool: taken, and made.
-/
import Derived.Test.YteecebklomeklaaDoorPoolC
namespace Go.Proofs.YteecebklomeklaaDoor.po
open Go.RowKit
open base (ret_bool ret_int made up Blk Only Nums)
open pnum
set_option linter.unusedVariables false
set_option linter.unusedSimpArgs false

theorem next0 (g gw : Nat) (W : List Nat) (c : Nat) (x : List Bool) (o : Option Nat) (w : World) (hT : Tab w) (h : PAt w g gw W c x) (ho : NextIs x 0 o) :
    Calls Tryd.prog 14 #[.pointer (some ⟨g, 0, none⟩), .int .i64 0] w (NextP o w) := by
  by_cases hx : 0 < x.length
  · exact next_in g gw W c x 0 o w hT h hx ho
  · have e := ho.unique (NextIs.out (i := 0) (by omega))
    subst e
    exact next_out g gw W c x 0 w h (by omega) (by omega)
def TakeP (g gw : Nat) (c : Nat) (j : Nat) (x : List Bool) (w : World) (e : Ending) (w' : World) : Prop := e = .returned (.tuple #[.int .i64 j, .int .i64 0]) ∧ Only (Two g gw) w w' ∧ ∃ W', PAt w' g gw W' c x
set_option maxHeartbeats 1000000 in
theorem take_yes (g gw : Nat) (W : List Nat) (c : Nat) (x : List Bool) (j : Nat) (w : World) (hT : Tab w) (h : PAt w g gw W c x) (ho : NextIs x 0 (some j)) :
    Calls Tryd.prog 24 #[.pointer (some ⟨g, 0, none⟩)] w (TakeP g gw c j (x.set j false) w) := by
  have N := Lib.hid (next0 g gw W c x _ w hT h ho)
  have H := Lib.hid h
  have J := Lib.hid ho
  clear h ho hT
  go_enter Tryd.func24, Tryd.ntmps24
  go_wp2_with fail
  refine N.out.mono ?_
  rintro e w1 ⟨he, hn⟩
  obtain rfl : e = .returned (.tuple #[.int .i64 (j : Nat), .bool true]) := he
  have M := Lib.hid (mark_yes g gw W c x j w1 (H.out.below hn.below) J.out.2.1 J.out.2.2.1)
  have HN := Lib.hid hn
  clear hn N
  go_wp2_with fail
  refine M.out.mono ?_
  rintro e w2 ⟨rfl, ho2, hp⟩
  have H2 : Only (Two g gw) w w1 := HN.out.mono (fun _ _ q => q.elim)
  have R := Lib.hid (show TakeP g gw c j (x.set j false) w (.returned (.tuple #[.int .i64 j, .int .i64 0])) w2 from ⟨rfl, H2.trans ho2 (fun _ _ q => q), hp⟩)
  go_wp2_with fail
  go_ret2
  exact R.out
set_option maxHeartbeats 1000000 in
theorem take_no (g gw : Nat) (W : List Nat) (c : Nat) (x : List Bool) (w : World) (hT : Tab w) (h : PAt w g gw W c x) (ho : NextIs x 0 none) :
    Calls Tryd.prog 24 #[.pointer (some ⟨g, 0, none⟩)] w fun e w' => e = .returned (.tuple #[.int .i64 0, .int .i64 21]) ∧ Nix w w' := by
  have N := Lib.hid (next0 g gw W c x _ w hT h ho)
  clear h ho hT
  go_enter Tryd.func24, Tryd.ntmps24
  go_wp2_with fail
  refine N.out.mono ?_
  rintro e w1 ⟨he, hn⟩
  obtain rfl : e = .returned (.tuple #[.int .i64 0, .bool false]) := he
  have HN := Lib.hid hn
  clear hn N
  go_wp2_with fail
  go_ret2
  exact ⟨rfl, HN.out⟩

theorem info_u64 : (Tryd.prog.info? 63).map (fun i => (i.zero, i.size, i.bytes)) = some (some (.int .u64 0), 1, 8) := by kernel_rfl
def Part (n k : Nat) : List Bool := List.replicate k true ++ List.replicate (n - k) false
theorem Part.len {n k : Nat} (h : k ≤ n) : (Part n k).length = n := by simp [Part]; omega
theorem Part.full (n : Nat) : Part n n = List.replicate n true := by simp [Part]
theorem Part.set {n k : Nat} (h : k < n) : (Part n k).set k true = Part n (k + 1) := by
  have e : (List.replicate k true ++ false :: List.replicate (n - (k + 1)) false).set k true = List.replicate k true ++ true :: List.replicate (n - (k + 1)) false := by
    rw [List.set_append_right _ _ (by simp)]
    simp
  unfold Part
  rw [show n - k = (n - (k + 1)) + 1 by omega, List.replicate_succ, e, List.replicate_succ', List.append_assoc]
  rfl
theorem Part.bits0 (n : Nat) : Bits (List.replicate ((n + 63) / 64) 0) (Part n 0) := by
  refine ⟨by simp [Part], fun v hv => by rw [List.eq_of_mem_replicate hv]; decide, fun i => ?_⟩
  have e1 : (List.replicate ((n + 63) / 64) 0).getD (i / 64) 0 = 0 := by
    simp only [List.getD, List.getElem?_replicate]
    split <;> rfl
  rw [e1]
  simp only [Part, List.replicate_zero, List.nil_append, List.getD, List.getElem?_replicate, Nat.zero_testBit]
  split <;> rfl
theorem made_words (w : World) (m : Nat) : RowU (w.alloc (.cells (madeCells #[.int .u64 0] m) 63)) w.heap.size (List.replicate m 0) := by
  obtain ⟨c, h1, h2, h3⟩ := World.rowIs_made w (.int .u64 0) m 63
  refine ⟨c, h1, fun j hj => ?_⟩
  have hj' : j < m := by simpa using hj
  rw [h3 j hj']
  simp [List.getD, List.getElem?_replicate, hj']
/-- being made: k of n are free -/
structure NewAt (w : World) (n k : Nat) (ws : List Nat) (wr : World) : Prop where
  blk : Blk wr (w.heap.size + 1) 62 #[.int .i64 (n : Nat), .int .i64 (n : Nat), .slice (some ⟨w.heap.size, 0, none⟩) ws.length ws.length]
  row : RowU wr w.heap.size ws
  bits : Bits ws (Part n k)
  below : Below w.heap.size w wr
theorem NewAt.next {w : World} {n k : Nat} {ws : List Nat} {wr : World} (h : NewAt w n k ws wr) (hk : k < n) : NewAt w n (k + 1) (ws.set (k / 64) (ws.getD (k / 64) 0 ||| 2 ^ (k % 64))) (wr.drew.setCell ⟨w.heap.size, k / 64, none⟩ (.int .u64 (ws.getD (k / 64) 0 ||| 2 ^ (k % 64) : Nat))) := by
  have hl : (Part n k).length = n := Part.len (by omega)
  have hin := h.bits.in_ (i := k) (by omega)
  have hr : RowU wr.drew w.heap.size ws := h.row
  have hb : Blk wr.drew (w.heap.size + 1) 62 #[.int .i64 (n : Nat), .int .i64 (n : Nat), .slice (some ⟨w.heap.size, 0, none⟩) ws.length ws.length] := h.blk
  refine ⟨?_, hr.put hin _, ?_, ?_⟩
  · rw [List.length_set]
    exact hb.far (p := ⟨w.heap.size, k / 64, none⟩) (by simp) _
  · have := h.bits.give (i := k) (by omega)
    rw [Part.set hk] at this
    exact this
  · exact h.below.drew.setCell (Nat.le_refl _) _
theorem asz (w : World) (o : Obj) : (w.alloc o).heap.size = w.heap.size + 1 := by first | exact Array.size_push _ | simp
def NewP (n : Nat) (w : World) (e : Ending) (w' : World) : Prop := e = .returned (.pointer (some ⟨w.heap.size + 1, 0, none⟩)) ∧ Below w.heap.size w w' ∧ ∃ W c, PAt w' (w.heap.size + 1) w.heap.size W c (List.replicate n true)
set_option maxRecDepth 100000 in
set_option maxHeartbeats 2000000 in
theorem new_any (n : Nat) (w : World) (hn : n ≤ 65536) (h0 : 0 < w.heap.size) :
    Calls Tryd.prog 9 #[.int .i64 n] w (NewP n w) := by
  obtain ⟨m, hm⟩ : ∃ m, m = (n + 63) / 64 := ⟨_, rfl⟩
  have hmk := run_make_row' (P := Tryd.prog) 60 63 (.int .u64 0) 8 Tryd.underlying60 info_u64 rfl .i64 .i64 m (by omega) (by omega)
  have q1 : ((n : Int) + 64 - 1) / 64 = (m : Int) := by omega
  have q2 : ((n : Int) + 63) / 64 = (m : Int) := by omega
  have hb : Blk ((w.alloc (.cells (madeCells #[.int .u64 0] m) 63)).alloc (.cells #[.int .i64 (n : Nat), .int .i64 (n : Nat), .slice (some ⟨w.heap.size, 0, none⟩) m m] 62)) (w.heap.size + 1) 62 #[.int .i64 (n : Nat), .int .i64 (n : Nat), .slice (some ⟨w.heap.size, 0, none⟩) m m] := by
    have := Blk.new (w.alloc (.cells (madeCells #[.int .u64 0] m) 63)) 62 #[.int .i64 (n : Nat), .int .i64 (n : Nat), .slice (some ⟨w.heap.size, 0, none⟩) m m]
    rw [asz] at this
    exact this
  have A0 := Lib.hid (show NewAt w n 0 (List.replicate m 0) ((w.alloc (.cells (madeCells #[.int .u64 0] m) 63)).alloc (.cells #[.int .i64 (n : Nat), .int .i64 (n : Nat), .slice (some ⟨w.heap.size, 0, none⟩) m m] 62)) from
    ⟨by rw [List.length_replicate]; exact hb, by
      obtain ⟨cs, hr, hc⟩ := made_words w m
      exact ⟨cs, hr.alloc _, hc⟩, by subst hm; exact Part.bits0 n, (made w _).alloc (by rw [asz]; omega) _⟩)
  clear hb
  have MQ := Lib.hid hm
  have hm2 : m ≤ 1024 := by omega
  clear hm
  go_enter Tryd.func9, Tryd.ntmps9
  go_wp2_with fail
  simp only [q1]
  go_loopw [21] (fun i wr => ∃ (k : Nat) (W : World) (ws : List Nat), W = wr ∧ k ≤ n ∧ i = .int .i64 k ∧ NewAt w n k ws wr) (fun i _ => n - (intOf i).toNat)
  case atStart => exact ⟨0, _, _, rfl, by omega, rfl, A0.out⟩
  case round =>
    obtain ⟨k, w2, ws, rfl, hk, rfl, hat⟩ := hrel
    by_cases hkn : k < n
    · have wq := quo_wrap (i := k) (by omega)
      have hin : k / 64 < ws.length := hat.bits.in_ (by rw [Part.len hk]; exact hkn)
      have hlv := hat.bits.lt (k / 64)
      have hlp := pow_lt (show k % 64 < 64 by omega)
      have hand := bits_or_u64_nat _ _ hlv hlp
      have BI := Lib.hid (fun w => bit_any k w (by omega))
      have NX := Lib.hid (hat.next hkn)
      have c2 := hat.blk.cell 2
      have c3 := hat.row.cell hin
      have d3 : w2.drew.cell? ⟨w.heap.size, k / 64, none⟩ = _ := c3
      have fr3 := hat.row.free (k / 64)
      have fr : w2.drew.frozen? ⟨w.heap.size, k / 64, none⟩ = false := fr3
      clear hat A0 MQ
      generalize ws.getD (k / 64) 0 = v at *
      generalize 2 ^ (k % 64) = p at *
      generalize hq : k / 64 = q at *
      go_wp2_with fail
      go_still_tail 12, (by kernel_rfl)
      still_call (BI.out _)
      repeat still_step
      refine wpStill_nil ?_
      change wpList _ _ _ _ _ w2.drew
      go_wp2_with fail
      refine ⟨⟨k + 1, _, _, rfl, by omega, by go_num, NX.out⟩, by simp [intOf]; omega⟩
    · obtain rfl : k = n := by omega
      have AT := Lib.hid hat
      clear hat A0 MQ
      go_wp2_with fail
      go_ret
      refine ⟨rfl, AT.out.below, ws, ws.length, ?_, AT.out.row, by rw [← Part.full]; exact AT.out.bits, Nat.le_refl _, ?_, by simpa using hn, by omega, h0⟩
      · have := AT.out.blk
        rw [List.length_replicate, List.count_replicate_self]
        exact this
      · have := AT.out.bits.1
        rw [Part.len hk] at this
        unfold maxLen
        omega
end Go.Proofs.YteecebklomeklaaDoor.po
