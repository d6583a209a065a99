/-
  Contracts of package seal: the sum of parts, by the table.
-/
import Derived.Test.YtigjfmfhmoabiaaDoorSeal
namespace Go.Proofs.YtigjfmfhmoabiaaDoor.sl
open Go.RowKit
open base (ret_bool ret_int made up Blk Only Nums)
open crc
set_option linter.unusedVariables false

/-- the table lies in the program's first block -/
def Tab (w : World) : Prop := 0 < w.heap.size ∧ ∀ k, k < 16 → w.cell? ⟨0, k, none⟩ = some (.int .u32 (tab k : Nat))
theorem Tab.keep {w w' : World} (h : Tab w) {B : Nat} (hb : Below B w w') (hB : 0 < B) : Tab w' := ⟨Nat.lt_of_lt_of_le h.1 hb.size, fun k hk => (hb.cell (p := ⟨0, k, none⟩) hB).trans (h.2 k hk)⟩

def Parts (w : World) (B : Option Addr) (ls : List (List Nat)) : Prop := ∀ i, i < ls.length → ∃ b off A c, B = some ⟨b, off, none⟩ ∧ b < w.heap.size ∧ w.cell? ⟨b, off + i, none⟩ = some (.slice A (ls.getD i []).length c) ∧ (ls.getD i []).length ≤ 9223372036854775807 ∧ Lay w A (ls.getD i []) ∧ Small (ls.getD i [])

theorem takes_next {l : List (List Nat)} {k : Nat} (h : k < l.length) : l.take (k + 1) = l.take k ++ [l.getD k []] := by
  rw [List.take_succ_eq_append_getElem h]; simp [List.getD, List.getElem?_eq_getElem h]
theorem and15 (r : Nat) (h : r < 4294967296) : bits .and .u32 (r : Int) 15 = ((r % 16 : Nat) : Int) := by
  have := u32_and_nat r 15 h (by omega)
  rw [show r &&& 15 = r % 16 from Nat.and_two_pow_sub_one_eq_mod r 4] at this
  exact this
theorem xor_h (z : Nat) (h : z < 4294967296) : bits .xor .u32 ((z : Int) / 16) ((tab (z % 16) : Nat) : Int) = ((hstep z : Nat) : Int) := by
  have := u32_xor_nat (z / 16) (tab (z % 16)) (by omega) (tab_lt _ (by omega))
  unfold hstep
  rw [← this]
  simp
theorem nat_not (r : Nat) (h : r < 4294967296) : 4294967295 ^^^ r = 4294967295 - r := by
  have h1 := BitVec.toNat_not (x := BitVec.ofNat 32 r)
  rw [BitVec.not_def, BitVec.toNat_xor, BitVec.toNat_allOnes, BitVec.toNat_ofNat, Nat.mod_eq_of_lt (by omega)] at h1
  exact h1
theorem xor_all (r : Nat) (h : r < 4294967296) : bits .xor .u32 IntKind.u32.max (r : Int) = ((4294967295 - r : Nat) : Int) := by
  have := u32_xor_nat 4294967295 r (by omega) h
  rw [nat_not r h] at this
  exact this
theorem small_flat {w : World} {B : Option Addr} {ls : List (List Nat)} (h : Parts w B ls) (k : Nat) : Small ((ls.take k).flatten) := by
  intro c hc
  obtain ⟨l, hl, hcl⟩ := List.mem_flatten.1 hc
  obtain ⟨i, hi, rfl⟩ := List.mem_iff_getElem.1 (List.mem_of_mem_take hl)
  obtain ⟨_, _, _, _, _, _, _, _, _, hs⟩ := h i hi
  simp [List.getD, List.getElem?_eq_getElem hi] at hs
  exact hs c hcl

set_option maxHeartbeats 2000000 in
theorem sum_any (B : Option Addr) (cap : Nat) (ls : List (List Nat)) (w : World) (hbig : ls.length ≤ 9223372036854775807) (hn : Parts w B ls) (hT : Tab w) :
    Calls Tryd.prog 56 #[.slice B ls.length cap] w fun e w' => e = .returned (.int .u32 (sum ls.flatten : Nat)) ∧ w = w' := by
  have N := Lib.hid hn
  have T := Lib.hid hT
  clear hn hT
  go_enter Tryd.func56, Tryd.ntmps56
  go_wp2
  go_loop [3, 5, 7, 10] (fun x _ _ i => ∃ k r : Nat, k ≤ ls.length ∧ i = .int .i64 k ∧ x = .int .u32 r ∧ r = crc (ls.take k).flatten) (fun _ _ _ i => ls.length - (intOf i).toNat)
  case atStart => exact ⟨0, 4294967295, Nat.zero_le _, rfl, rfl, rfl⟩
  case round =>
    obtain ⟨k, r, hk, rfl, rfl, hr⟩ := hrel
    have R := Lib.hid hr
    clear hr
    have hrl : r < 4294967296 := by rw [R.out]; exact crc_lt _ (small_flat N.out k)
    by_cases hlt : k < ls.length
    · obtain ⟨b, off, A, c, rfl, _, hcell, hlen, hlay, hsm⟩ := N.out k hlt
      have hnx := takes_next hlt
      generalize ls.getD k [] = l at *
      have NX := Lib.hid hnx
      have L := Lib.hid hlay
      have SM := Lib.hid hsm
      clear hnx hlay hsm
      go_wp2
      go_loop [3, 7, 16] (fun x _ i => ∃ j q : Nat, j ≤ l.length ∧ i = .int .i64 j ∧ x = .int .u32 q ∧ q = (l.take j).foldl byteR r) (fun _ _ i => l.length - (intOf i).toNat)
      case atStart => exact ⟨0, r, Nat.zero_le _, rfl, rfl, rfl⟩
      case round =>
        obtain ⟨j, q, hj, rfl, rfl, hq⟩ := hrel
        have Q := Lib.hid hq
        clear hq
        have hql : q < 4294967296 := by rw [Q.out]; exact fold_lt _ (small_take SM.out j) r hrl
        by_cases hjl : j < l.length
        · obtain ⟨b2, off2, rfl, _, hcell2⟩ := L.out.at_ hjl
          have hy2 := small_at SM.out hjl
          have hnx := take_next hjl
          generalize hy : l.getD j 0 = y at *
          have NY := Lib.hid hnx
          clear hnx hy
          have x1 := u32_xor_nat q y hql (by omega)
          have hzl := xor_lt q y hql hy2
          have hbr : byteR q y = hstep (hstep (q ^^^ y)) := byteR_eq q y
          generalize q ^^^ y = z at *
          have BR := Lib.hid hbr
          clear hbr
          have x2 := and15 z hzl
          have hm1 : z % 16 < 16 := by omega
          have t1 := T.out.2 (z % 16) hm1
          have x3 := xor_h z hzl
          have hhl := hstep_lt z hzl
          generalize z % 16 = m at *
          generalize hstep z = z2 at *
          have x4 := and15 z2 hhl
          have hm2 : z2 % 16 < 16 := by omega
          have t2 := T.out.2 (z2 % 16) hm2
          have x5 := xor_h z2 hhl
          rw [← BR.out] at x5
          generalize z2 % 16 = m2 at *
          go_wp2
          go_round
          case rel => exact ⟨j + 1, byteR q y, by omega, by go_num, rfl, by rw [NY.out, List.foldl_append, ← Q.out]; rfl⟩
          case measure => simp [intOf] <;> omega
        · obtain rfl : j = l.length := by omega
          go_wp2
          go_round
          case rel => exact ⟨k + 1, q, by omega, by go_num, rfl, by rw [NX.out, List.flatten_append, crc_append, ← R.out]; simpa using Q.out⟩
          case measure => simp [intOf] <;> omega
    · obtain rfl : k = ls.length := by omega
      go_wp2
      go_ret
      have he := R.out
      rw [List.take_length] at he
      exact ⟨ret_int (by rw [xor_all r hrl, he]; rfl), rfl⟩
end Go.Proofs.YtigjfmfhmoabiaaDoor.sl
