/-
  Contracts of package seal: bytes that are fitted into a size.
-/
import Derived.Test.YtigjfmfhmoabiaaDoorSealH
namespace Go.Proofs.YtigjfmfhmoabiaaDoor.sl
open Go.RowKit
open base (ret_bool ret_int made up Blk Only Nums)
open crc
set_option linter.unusedVariables false

def sizeB (n : Int) : Bool := decide (6 ≤ n ∧ n ≤ 65536)
set_option maxHeartbeats 400000 in
theorem fsize_any (n : Int) (w : World) : Calls Tryd.prog 43 #[.int .i64 n] w fun e w' => e = .returned (.bool (sizeB n)) ∧ w = w' := by
  by_cases h1 : 6 ≤ n
  · by_cases h2 : n ≤ 65536
    · go_enter Tryd.func43, Tryd.ntmps43
      go_wp2
      go_ret
      exact ⟨ret_bool (decide_eq_true ⟨h1, h2⟩).symm, rfl⟩
    · have hd : decide (n ≤ 65536) = false := decide_eq_false h2
      go_enter Tryd.func43, Tryd.ntmps43
      go_wp2
      go_ret
      exact ⟨ret_bool (decide_eq_false (by omega)).symm, rfl⟩
  · go_enter Tryd.func43, Tryd.ntmps43
    go_wp2
    go_ret
    exact ⟨ret_bool (decide_eq_false (by omega)).symm, rfl⟩

set_option maxHeartbeats 400000 in
theorem fit_no (A : Option Addr) (c : Nat) (l : List Nat) (z : Int) (w : World) (hc : l.length ≤ c) (hc2 : c ≤ 9223372036854775807) (h : sizeB z = false ∨ sizeB z = true ∧ z - 6 < l.length) :
    Calls Tryd.prog 20 #[.slice A l.length c, .int .i64 z] w fun e w' => e = .returned (.tuple #[.slice none 0 0, .bool false]) ∧ w = w' := by
  rcases h with h | ⟨h, h1⟩
  · go_enter Tryd.func20, Tryd.ntmps20
    go_wp2_with (go_at_call 43; refine (fsize_any _ _).mono ?_; rintro e w' ⟨rfl, rfl⟩)
    go_ret2
    exact ⟨rfl, rfl⟩
  · have hz : 6 ≤ z ∧ z ≤ 65536 := of_decide_eq_true h
    go_enter Tryd.func20, Tryd.ntmps20
    go_wp2_with (go_at_call 43; refine (fsize_any _ _).mono ?_; rintro e w' ⟨rfl, rfl⟩)
    go_ret2
    exact ⟨rfl, rfl⟩

def head2 (n : Nat) : List Nat := [n % 256, n / 256 % 256]
/-- what is fitted, ahead of its sum -/
def fitHead (l : List Nat) (z : Nat) : List Nat := head2 l.length ++ (l ++ List.replicate (z - 6 - l.length) 0)
def fitAll (l : List Nat) (z : Nat) : List Nat := fitHead l z ++ le4 (sum (fitHead l z))
theorem head_len (l : List Nat) (z : Nat) (h : 6 + l.length ≤ z) : (fitHead l z).length = z - 4 := by simp [fitHead, head2]; omega

def FitPost (l : List Nat) (z : Nat) (w : World) (e : Ending) (w' : World) : Prop :=
  e = .returned (.tuple #[.slice (some ⟨w.heap.size, 0, none⟩) z z, .bool true]) ∧ OnB w' w.heap.size (fitAll l z) ∧ Below w.heap.size w w'

theorem OnB.putI {w : World} {g : Nat} {l : List Nat} (h : OnB w g l) (k : Nat) (v : Int) (c : Nat) (hv : v = (c : Int)) : OnB (w.setCell ⟨g, k, none⟩ (.int .u8 v)) g (l.set k c) := by
  subst hv
  exact h.put k c
theorem made_eq (n : Nat) : madeCells #[Value.int .u8 0] n = (By (List.replicate n 0)).toArray := by
  obtain ⟨c, h1, h2, h3⟩ := World.rowIs_made (default : World) (.int .u8 0) n 0
  have hh := heap_alloc_new (default : World) (.cells (madeCells #[Value.int .u8 0] n) 0)
  rw [hh] at h1
  injection h1 with h1
  injection h1 with h1
  subst h1
  apply Array.ext
  · simp [By, h2]
  · intro i hi _
    have := h3 i (by omega)
    rw [Array.getElem?_eq_getElem hi] at this
    injection this with this
    rw [this]
    simp [By]
theorem made_at (z k : Nat) (h : k < z) : (madeCells #[Value.int .u8 0] z)[k]? = some (.int .u8 0) := by
  rw [made_eq]
  simp [By, h]
theorem by_set (l : List Nat) (k c : Nat) (v : Int) (hv : v = (c : Int)) : (By l).toArray.setIfInBounds k (.int .u8 v) = (By (l.set k c)).toArray := by
  subst hv
  simp [By]
theorem made_set (w : World) (z c0 c1 : Nat) (v0 v1 : Int) (h0 : v0 = (c0 : Int)) (h1 : v1 = (c1 : Int)) :
    (w.alloc (.cells (((madeCells #[Value.int .u8 0] z).setIfInBounds 0 (.int .u8 v0)).setIfInBounds 1 (.int .u8 v1)) 5)).heap[w.heap.size]? =
      some (.cells (By (((List.replicate z 0).set 0 c0).set 1 c1)).toArray 5 (0, 0)) := by
  rw [heap_alloc_new, made_eq, by_set _ _ _ _ h0, by_set _ _ _ _ h1]
theorem splice2 (l : List Nat) (z c1 : Nat) (h : 6 + l.length ≤ z) (hc : c1 = l.length / 256 % 256) : splice (By (((List.replicate z 0).set 0 (l.length % 256)).set 1 c1)) 2 (By l) = By (head2 l.length ++ (l ++ List.replicate (z - 2 - l.length) 0)) := by
  subst hc
  obtain ⟨k, rfl⟩ : ∃ k, z = k + 2 := ⟨z - 2, by omega⟩
  have e : ((List.replicate (k + 2) 0).set 0 (l.length % 256)).set 1 (l.length / 256 % 256) = head2 l.length ++ List.replicate k 0 := rfl
  rw [e]
  unfold splice
  rw [By_append, By_append, By_append, By_len]
  have e1 : (By (head2 l.length)).length = 2 := rfl
  rw [List.take_append_of_le_length (by rw [e1]; exact Nat.le_refl _), List.take_of_length_le (by rw [e1]; exact Nat.le_refl _), List.drop_append, e1, List.drop_eq_nil_of_le (by rw [e1]; omega), List.nil_append]
  congr 2
  simp [By]

set_option maxHeartbeats 2000000 in
theorem fit_yes (A : Option Addr) (c : Nat) (l : List Nat) (z : Nat) (w : World) (hL : Lay w A l) (hs : Small l) (hc : l.length ≤ c) (hc2 : c ≤ 9223372036854775807) (h1 : 6 + l.length ≤ z) (h2 : z ≤ 65536) (hT : Tab w) :
    Calls Tryd.prog 20 #[.slice A l.length c, .int .i64 z] w (FitPost l z w) := by
  have hmk := run_make_row' (P := Tryd.prog) 27 5 (.int .u8 0) 1 Tryd.underlying27 info_u8 rfl .i64 .i64 z (by omega) (by omega)
  have M := Lib.hid (made_on w z)
  have L := Lib.hid hL
  have T := Lib.hid hT
  have h0 := hT.1
  have hz : sizeB (z : Int) = true := decide_eq_true (by omega)
  have m0 := made_at z 0 (by omega)
  have m1 := made_at z 1 (by omega)
  clear hL hT
  go_enter Tryd.func20, Tryd.ntmps20
  have SL := Lib.hid (splice2 l z (l.length / 256) h1 (by omega))
  go_wp2_with (first | (go_at_call 43; refine (fsize_any _ _).mono ?_; rintro e w' ⟨rfl, rfl⟩) | ((with_reducible show wpList _ _ _ (⟨some 34, _, _, _, _, _⟩ :: _) _ _); go_must (refine wpList_copy_splice rfl _ _ 27 27 rfl 5 Tryd.underlying27 size_u8 (some ⟨w.heap.size, 2, none⟩) A (z - 2) (z - 2) l.length c rfl rfl w.heap.size 2 (By (((List.replicate z 0).set 0 (l.length % 256)).set 1 (l.length / 256))) 5 (made_set w z (l.length % 256) (l.length / 256) _ _ (by omega) (by omega)) (By l) (by rw [By_len]; show _ = min _ _; omega) ?c2 (by rw [By_len, By_len]; simp; omega) (by_one l) w.heap.size w (made _ _) (Nat.le_refl _) ?_)))
  case c2 =>
    intro hp
    rw [By_len] at hp
    exact (L.out.alloc _).src hp
  intro w1 HG hb1
  have hon := HG.out
  rw [SL.out] at hon
  have O := Lib.hid (show OnB w1 w.heap.size _ from hon)
  have T1 := Lib.hid (T.out.keep hb1 h0)
  clear HG hon
  have hlen : (head2 l.length ++ (l ++ List.replicate (z - 2 - l.length) 0)).length = z := by simp [head2]; omega
  have hsm : Small (head2 l.length ++ (l ++ List.replicate (z - 2 - l.length) 0)) := by
    refine small_app ?_ (small_app hs ?_)
    · intro q hq; simp [head2] at hq; omega
    · intro q hq; have := List.eq_of_mem_replicate hq; omega
  have hput := put_any w.heap.size z _ w1 O.out hsm (by omega) (by omega) (by omega) T1.out (by omega)
  rw [hlen] at hput
  have htk : (head2 l.length ++ (l ++ List.replicate (z - 2 - l.length) 0)).take (z - 4) = fitHead l z := by
    unfold fitHead
    rw [List.take_append, List.take_append]
    have e1 : (head2 l.length).length = 2 := rfl
    rw [e1, List.take_of_length_le (by rw [e1]; omega), List.take_of_length_le (by omega), List.take_replicate, show min (z - 4 - 2 - l.length) (z - 2 - l.length) = z - 6 - l.length by omega]
  have PP := Lib.hid hput
  clear hput O hsm
  go_wp2_with fail
  refine PP.out.mono ?_
  rintro e w2 ⟨rfl, hon2, ho2⟩
  rw [hlen, htk] at hon2
  have R := Lib.hid (show FitPost l z w (.returned (.tuple #[.slice (some ⟨w.heap.size, 0, none⟩) z z, .bool true])) w2 from ⟨rfl, hon2, hb1.trans (ho2.to_below (fun i hi e => by omega) hb1.size)⟩)
  clear hon2 ho2 htk hlen PP hb1
  go_wp2
  go_ret2
  exact R.out
end Go.Proofs.YtigjfmfhmoabiaaDoor.sl
