/-
  The next free number from any number on, in the program and in the reference; the iterator is made.
-/
import Derived.Test.YteecebklomeklaaDoorPoolL
namespace Go.Proofs.YteecebklomeklaaDoor.po
open Go.RowKit Go.Shelf
open base (ret_bool ret_int made up Blk Only Nums)
open pnum
set_option linter.unusedVariables false
set_option linter.unusedSimpArgs false

theorem next_int {g gw : Nat} {W : List Nat} {c : Nat} {x : List Bool} {z : Int} {o : Option Nat} {w : World} (hT : Tab w) (h : PAt w g gw W c x) (hz : z ≤ 9223372036854775807) (ho : NextIs x z.toNat o) :
    Calls Tryd.prog 14 #[.pointer (some ⟨g, 0, none⟩), .int .i64 z] w (NextP o w) := by
  by_cases q : 0 ≤ z
  · have e : (z.toNat : Int) = z := by omega
    have := next_nat g gw W c x z.toNat o w hT h (by omega) ho
    rwa [e] at this
  · have e : z.toNat = 0 := by omega
    rw [e] at ho
    by_cases q2 : 0 < x.length
    · exact next_neg g gw W c x z (by omega) o w hT h q2 ho
    · obtain rfl := ho.unique (NextIs.out (show x.length ≤ 0 by omega))
      exact next_nil g gw W c x z w h (by omega) (by omega)
set_option maxRecDepth 100000 in
set_option maxHeartbeats 2000000 in
theorem rnext_int (A : Option Addr) (c : Nat) (x : List Bool) (z : Int) (o : Option Nat) (w : World) (hA : LayB w A x) (ho : pnum.NextIs x z.toNat o) (hl : x.length ≤ 65536) :
    Calls Tryd.prog 15 #[.slice A x.length c, .int .i64 z] w fun e w' => e = .returned (.int .i64 (nextI o)) ∧ w' = w := by
  have L := Lib.hid hA
  have HO := Lib.hid ho
  clear hA ho
  go_enter Tryd.func15, Tryd.ntmps15
  go_wp2_with fail
  go_loop [5] (fun j => ∃ k : Nat, j = .int .i64 k ∧ k ≤ x.length ∧ ∀ m, z.toNat ≤ m → m < k → x.getD m false = false) (fun j => x.length - (intOf j).toNat)
  case atStart => exact ⟨0, rfl, by omega, fun m _ h => by omega⟩
  case round =>
    obtain ⟨k, rfl, hk, hno⟩ := hrel
    have NO := Lib.hid hno
    clear hno
    by_cases hkl : k < x.length
    · obtain ⟨b, rfl, _, hc⟩ := L.out (by omega)
      have hc2 := hc k hkl
      clear hc
      obtain ⟨v, hv⟩ : ∃ v, v = x.getD k false := ⟨_, rfl⟩
      rw [← hv] at hc2
      have V := Lib.hid hv
      clear hv
      by_cases hik : z ≤ k
      · cases v with
        | true =>
          go_wp2_with fail
          go_ret
          have e := HO.out.unique (show pnum.NextIs x z.toNat (some k) from ⟨by omega, hkl, V.out.symm, NO.out⟩)
          subst e
          exact ⟨rfl, rfl⟩
        | false =>
          go_wp2_with fail
          refine ⟨⟨k + 1, by go_num, by omega, fun m a b => ?_⟩, by simp [intOf]; omega⟩
          by_cases e : m = k
          · subst e; exact V.out.symm
          · exact NO.out m a (by omega)
      · cases v with
        | true =>
          go_wp2_with fail
          refine ⟨⟨k + 1, by go_num, by omega, fun m a b => ?_⟩, by simp [intOf]; omega⟩
          exact NO.out m a (by omega)
        | false =>
          go_wp2_with fail
          refine ⟨⟨k + 1, by go_num, by omega, fun m a b => ?_⟩, by simp [intOf]; omega⟩
          exact NO.out m a (by omega)
    · go_wp2_with fail
      go_ret
      have e := HO.out.unique (show pnum.NextIs x z.toNat none from fun m a => by
        by_cases hm : m < k
        · exact NO.out m a hm
        · simp [List.getD, List.getElem?_eq_none (show x.length ≤ m by omega)])
      subst e
      exact ⟨rfl, rfl⟩
set_option maxHeartbeats 1000000 in
theorem all_make (g : Nat) (w : World) : Calls Tryd.prog 16 #[.pointer (some ⟨g, 0, none⟩)] w fun e w' => e = .returned (.func (.func 31) #[] #[.pointer (some ⟨w.heap.size, 0, none⟩)]) ∧ Blk w' w.heap.size 24 #[.pointer (some ⟨g, 0, none⟩)] ∧ Below w.heap.size w w' := by
  have hm := Lib.hid (made w (.cells #[.pointer (some ⟨g, 0, none⟩)] 24))
  have bx := Lib.hid (Blk.new w 24 #[.pointer (some ⟨g, 0, none⟩)])
  go_enter Tryd.func16, Tryd.ntmps16
  go_wp2_with fail
  go_ret
  exact ⟨rfl, bx.out, hm.out⟩
end Go.Proofs.YteecebklomeklaaDoor.po
