/-
  Commands: the model; which fields a kind uses; where a field lies.
-/
import Derived.Test.YtndhammngejdiaaDoorVtC
import Derived.Test.YtndhammngejdiaaDoorNm
import Derived.DeepKeys4

namespace Go.Proofs.YtndhammngejdiaaDoor.od
open Go.RowKit
open base (ret_bool ret_int made up Blk Only Nums)
open bytes (Small small_nil Lay By str)
open vi (bs)
set_option linter.unusedVariables false
set_option linter.unusedSimpArgs false

@[ext] structure Cm where
  s : Int
  w : Int
  k : Int
  a : Int
  b : Int
  c : Int
  d : Int
  t : ByteArray
  l : ByteArray
def zero : Cm := ⟨0, 0, 0, 0, 0, 0, 0, ⟨#[]⟩, ⟨#[]⟩⟩
def fl : List (List Nat) := [[], [84], [65, 66], [65, 66], [65, 66, 67, 68], [65], [65, 66], [65, 66, 67, 68], [84], [65], [65, 66], [65, 66, 67], [65], [65], [65, 66, 67], [65], [65], [65], [65, 66], [65, 66, 67], [65, 66], [65, 66], [65, 66, 67, 68], [65], [], [65], [65, 66], []]
/-- the fields that a kind uses -/
def fs (k : Int) : List Nat := if 1 ≤ k ∧ k ≤ 27 then fl.getD k.toNat [] else []
def fx (n : Nat) (tx : Bool) : List Nat := if tx then [84] else [65, 66, 67, 68].take n
def us (k : Int) : Nat × Bool := if k = 1 ∨ k = 8 then (0, true) else if k = 4 ∨ k = 7 ∨ k = 22 then (4, false) else if k = 11 ∨ k = 14 ∨ k = 19 then (3, false)
  else if k = 2 ∨ k = 3 ∨ k = 6 ∨ k = 10 ∨ k = 18 ∨ k = 20 ∨ k = 21 ∨ k = 26 then (2, false) else if k = 24 ∨ k = 27 ∨ k < 1 ∨ 27 < k then (0, false) else (1, false)
theorem us_le (k : Int) : (us k).1 ≤ 4 ∧ ((us k).2 = true → (us k).1 = 0) := by
  unfold us
  repeat' split
  all_goals simp
theorem fs_us (k : Int) : fs k = fx (us k).1 (us k).2 := by
  by_cases h : 1 ≤ k ∧ k ≤ 27
  · have : ∀ n : Fin 28, 1 ≤ n.1 → fs (n.1 : Int) = fx (us (n.1 : Int)).1 (us (n.1 : Int)).2 := by decide
    have := this ⟨k.toNat, by omega⟩ (by show 1 ≤ k.toNat; omega)
    rwa [show ((k.toNat : Nat) : Int) = k by omega] at this
  · unfold fs us
    rw [if_neg h, if_neg (by omega), if_neg (by omega), if_neg (by omega), if_neg (by omega), if_pos (by omega)]
    rfl
theorem fx_len (n : Nat) (tx : Bool) (hn : n ≤ 4) (ht : tx = true → n = 0) : (fx n tx).length = if tx then 1 else n := by
  unfold fx
  cases tx <;> simp <;> omega
theorem fx_mem {n : Nat} {tx : Bool} {f : Nat} (h : f ∈ fx n tx) : f = 65 ∨ f = 66 ∨ f = 67 ∨ f = 68 ∨ f = 84 := by
  unfold fx at h
  cases tx
  · have := List.mem_of_mem_take h
    simp at this
    omega
  · simp at h
    omega
theorem fs_mem {k : Int} {f : Nat} (h : f ∈ fs k) : f = 65 ∨ f = 66 ∨ f = 67 ∨ f = 68 ∨ f = 84 := by rw [fs_us] at h; exact fx_mem h
theorem fs_small (k : Int) : Small (fs k) := fun c h => by rcases fs_mem h with h | h | h | h | h <;> omega
theorem fs_len (k : Int) : (fs k).length ≤ 4 := by
  rw [fs_us, fx_len _ _ (us_le k).1 (us_le k).2]
  have := us_le k
  split <;> omega
theorem str_size (l : List Nat) : (str l).size = l.length := by
  unfold str
  show (l.map UInt8.ofNat).toArray.size = _
  simp
theorem bs_str {l : List Nat} (h : Small l) : bs (str l) = l := by
  unfold bs str
  simp only [List.map_map]
  conv => rhs; rw [← List.map_id l]
  apply List.map_congr_left
  intro c hc
  have := h c hc
  simp
  omega
theorem toList_empty (s : ByteArray) : s.toList.isEmpty = decide (s.size = 0) := by
  rw [ByteArray.toList_eq]
  cases h : s.data.toList with
  | nil =>
    have : s.size = 0 := by
      have := congrArg List.length h
      simpa using this
    simp [this]
  | cons a b =>
    have : s.size ≠ 0 := by
      have := congrArg List.length h
      simp at this
      omega
    simp [this]
theorem empty_of {s : ByteArray} (h : s.size = 0) : s = ⟨#[]⟩ := by
  obtain ⟨d⟩ := s
  have : d.size = 0 := h
  rw [Array.eq_empty_of_size_eq_zero this]

/-- the table of fields stands -/
def Tab (w : World) : Prop := 0 < w.heap.size ∧ ∀ k, k < 28 → w.cell? ⟨0, k, none⟩ = some (.string (str (fl.getD k [])))
theorem Tab.keep {w w' : World} (h : Tab w) (hb : Below w.heap.size w w') : Tab w' := ⟨Nat.lt_of_lt_of_le h.1 hb.size, fun j hj => (hb.cell h.1).trans (h.2 j hj)⟩
theorem isKind_any (k : Int) (w : World) : Calls Tryd.prog 30 #[.int .i64 k] w fun e w' => e = .returned (.bool (decide (1 ≤ k ∧ k ≤ 27))) ∧ w = w' := by
  by_cases h : 1 ≤ k ∧ k ≤ 27
  · have k1 : decide (k > 0) = true := decide_eq_true (by omega)
    have k2 : decide (k < 28) = true := decide_eq_true (by omega)
    rw [decide_eq_true h]
    clear h
    go_enter Tryd.func30, Tryd.ntmps30
    go_wp2_with fail
    go_ret
    exact ⟨rfl, rfl⟩
  · rw [decide_eq_false h]
    by_cases h1 : 0 < k
    · have k1 : decide (k > 0) = true := decide_eq_true h1
      have k2 : decide (k < 28) = false := decide_eq_false (by omega)
      clear h h1
      go_enter Tryd.func30, Tryd.ntmps30
      go_wp2_with fail
      go_ret
      exact ⟨rfl, rfl⟩
    · have k1 : decide (k > 0) = false := decide_eq_false h1
      clear h h1
      go_enter Tryd.func30, Tryd.ntmps30
      go_wp2_with fail
      go_ret
      exact ⟨rfl, rfl⟩
theorem fields_any (k : Int) (w : World) (hT : Tab w) : Calls Tryd.prog 21 #[.int .i64 k] w fun e w' => e = .returned (.string (str (fs k))) ∧ w = w' := by
  have IK := Lib.hid (isKind_any k w)
  by_cases h : 1 ≤ k ∧ k ≤ 27
  · obtain ⟨n, rfl⟩ : ∃ n : Nat, k = n := ⟨k.toNat, by omega⟩
    have hc := hT.2 n (by omega)
    have hn : n < 28 := by omega
    have e : fs (n : Int) = fl.getD n [] := by unfold fs; rw [if_pos h]; simp
    rw [e]
    rw [decide_eq_true h] at IK
    clear h e
    generalize str (fl.getD n []) = q at *
    go_enter Tryd.func21, Tryd.ntmps21
    go_wp2_with fail
    refine IK.out.mono ?_
    rintro e w1 ⟨rfl, e1⟩
    subst e1
    go_wp2_with fail
    go_ret
    exact ⟨rfl, rfl⟩
  · rw [decide_eq_false h] at IK
    have e : str (fs k) = ⟨#[]⟩ := by unfold fs; rw [if_neg h]; rfl
    rw [e]
    clear e h
    go_enter Tryd.func21, Tryd.ntmps21
    go_wp2_with fail
    refine IK.out.mono ?_
    rintro e w1 ⟨rfl, e1⟩
    subst e1
    go_wp2_with fail
    go_ret
    exact ⟨rfl, rfl⟩
def oi (f : Nat) : Nat := if f = 65 then 3 else if f = 66 then 4 else if f = 67 then 5 else 6
theorem number_any (g : Nat) (f : Nat) (w : World) (hf : f = 65 ∨ f = 66 ∨ f = 67 ∨ f = 68) : Calls Tryd.prog 27 #[.pointer (some ⟨g, 1, none⟩), .int .u8 f] w fun e w' => e = .returned (.pointer (some ⟨g, oi f, none⟩)) ∧ w = w' := by
  rcases hf with rfl | rfl | rfl | rfl
  all_goals
    go_enter Tryd.func27, Tryd.ntmps27
    go_wp2_with fail
    go_ret
    exact ⟨rfl, rfl⟩
end Go.Proofs.YtndhammngejdiaaDoor.od
