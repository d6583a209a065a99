/-
  Contract of the reference of varint: Bytes.
-/
import Derived.Test.YtndhammngejdiaaDoorVoutC
namespace Go.Proofs.YtndhammngejdiaaDoor.vi
open Go.RowKit
open base (ret_bool ret_int made up Nums Only Blk)
open bytes vnum
set_option linter.unusedVariables false
set_option linter.unusedSimpArgs false

set_option maxHeartbeats 1000000 in
theorem rbytes_any (A : Option Addr) (c : Nat) (m : List Nat) (w : World) (hL : Lay w A m) (hm : m.length ≤ 100000) :
    Calls Tryd.prog 36 #[.slice A m.length c] w (NewB (enc (m.length : Int) ++ m) w) := by
  have RI := Lib.hid (rint_any (m.length : Int) w (by omega) (by omega))
  have hel := enc_len (n := (m.length : Int)) (by omega) (by omega)
  have N := Lib.hid hL
  clear hL
  unfold NewB at RI
  generalize enc (m.length : Int) = q at *
  go_enter Tryd.func36, Tryd.ntmps36
  go_wp2_with fail
  refine RI.out.mono ?_
  rintro e w1 ⟨v1, rfl, ho, hb⟩
  have O := Lib.hid (And.intro ho hb)
  clear ho hb RI
  go_wp2_with fail
  go_loopw [3, 4] (fun o i wr => ∃ (k : Nat) (W : World), W = wr ∧ k ≤ m.length ∧ i = .int .i64 k ∧ Own wr w.heap.size o (q ++ m.take k) ∧ Below w.heap.size w wr) (fun _ i _ => m.length - (intOf i).toNat)
  case atStart => exact ⟨0, _, rfl, by omega, rfl, by have := O.out.1; simpa using this, O.out.2⟩
  case round =>
    obtain ⟨k, w2, rfl, hk, rfl, ho2, hb2⟩ := hrel
    have O2 := Lib.hid ho2
    have B2 := Lib.hid hb2
    have N2 := Lib.hid (N.out.below hb2)
    clear ho2 hb2 O
    by_cases hlt : k < m.length
    · obtain ⟨b4, off4, rfl, _, hc4⟩ := N2.out.at_ hlt
      have TN := Lib.hid (take_next hlt)
      obtain ⟨y, hy⟩ : ∃ y, m.getD k 0 = y := ⟨_, rfl⟩
      rw [hy] at hc4 TN
      have LY := Lib.hid (bytes_lit w2 y _ rfl)
      have OA := Lib.hid (And.intro (Own.below O2.out (made w2 (.cells #[.int .u8 (y : Int)] 5))) (B2.out.alloc B2.out.size (.cells #[.int .u8 (y : Int)] 5)))
      have LE := Lib.hid (show (q ++ m.take k).length + [y].length ≤ 100000000 by simp; omega)
      clear hy
      go_wp2_with ((with_reducible show wpList _ _ _ (⟨some 20, _, _, _, _, _⟩ :: _) _ _); go_must (refine wp_app (c := 1) rfl _ _ rfl rfl rfl rfl OA.out.1 LY.out LE.out OA.out.2.size ?_))
      intro v5 w5 own5 grew5
      have R5 := Lib.hid (And.intro (show Own w5 w.heap.size v5 (q ++ m.take (k + 1)) from by rw [TN.out]; first | exact own5 | (simpa [List.append_assoc] using own5)) (OA.out.2.trans (grew5.below OA.out.1 OA.out.2.size)))
      clear own5 grew5 OA LY
      go_wp2_with fail
      refine ⟨⟨k + 1, _, rfl, by omega, by go_num, R5.out.1, R5.out.2⟩, by simp [intOf]; omega⟩
    · obtain rfl : k = m.length := by omega
      have ho2 := O2.out
      rw [List.take_length] at ho2
      have O3 := Lib.hid ho2
      clear ho2
      go_wp2_with fail
      go_ret
      exact ⟨_, rfl, O3.out, B2.out⟩
end Go.Proofs.YtndhammngejdiaaDoor.vi
