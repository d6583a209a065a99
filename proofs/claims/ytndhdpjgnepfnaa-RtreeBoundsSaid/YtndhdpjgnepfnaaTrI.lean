/-
  R-trees: a tree; New, Len, Deep.
-/
import Derived.Test.YtndhdpjgnepfnaaTrH
namespace Go.Proofs.Ytndhdpjgnepfnaa.tr
open Go.RowKit
open base (ret_bool ret_int made up Blk Only)
open rect
set_option linter.unusedVariables false
set_option linter.unusedSimpArgs false
attribute [local go_sem] Oper.semAt_some

/-- a tree at g, of a height; how many things it has is told by n -/
structure TAt (w : World) (g h n root : Nat) (v : Value) (X : List Ex) : Prop where
  blk : Blk w g 64 #[.pointer (some ⟨root, 0, none⟩), .int .i64 h, .int .i64 n]
  nd : NdOf (Ent h) w root v X
  most : X.length ≤ 4
  least : h = 0 ∨ 1 ≤ X.length
  apart : ¬ foot root v X g
theorem TAt.keep {w w' : World} {g h n root : Nat} {v : Value} {X : List Ex} (t : TAt w g h n root v X) (hg : w'.heap[g]? = w.heap[g]?) (hk : ∀ k, foot root v X k → w'.heap[k]? = w.heap[k]?) : TAt w' g h n root v X :=
  ⟨hg.trans t.blk, t.nd.keeps hk, t.most, t.least, t.apart⟩
theorem TAt.below {w w' : World} {g h n root : Nat} {v : Value} {X : List Ex} (t : TAt w g h n root v X) (hb : Below w.heap.size w w') : TAt w' g h n root v X :=
  t.keep (hb.block g t.blk.lt) (fun k hk => hb.block k (t.nd.lt k hk))
set_option maxHeartbeats 1000000 in
theorem new_any (w : World) : Calls Try.prog 8 #[] w fun e w' => (∃ g root, e = .returned (.pointer (some ⟨g, 0, none⟩)) ∧ w.heap.size ≤ g ∧ w.heap.size ≤ root ∧ TAt w' g 0 0 root (.slice none 0 0) []) ∧ Below w.heap.size w w' := by
  obtain ⟨w1, hw1⟩ : ∃ w1, w.alloc (.cells #[.slice none 0 0] 62) = w1 := ⟨_, rfl⟩
  obtain ⟨w2, hw2⟩ : ∃ w2, w1.alloc (.cells #[.pointer (some ⟨w.heap.size, 0, none⟩), .int .i64 0, .int .i64 0] 64) = w2 := ⟨_, rfl⟩
  have M1 : Below w.heap.size w w1 := by rw [← hw1]; exact made w _
  have M2 : Below w1.heap.size w1 w2 := by rw [← hw2]; exact made w1 _
  have z1 : w1.heap.size = w.heap.size + 1 := by rw [← hw1, asz]
  have N1 : Blk w1 w.heap.size 62 #[.slice none 0 0] := by rw [← hw1]; exact Blk.new _ _ _
  have T2 : Blk w2 (w.heap.size + 1) 64 #[.pointer (some ⟨w.heap.size, 0, none⟩), .int .i64 0, .int .i64 0] := by rw [← z1, ← hw2]; exact Blk.new _ _ _
  have F := Lib.hid (show (∃ g root, Ending.returned (.pointer (some ⟨w.heap.size + 1, 0, none⟩)) = .returned (.pointer (some ⟨g, 0, none⟩)) ∧ w.heap.size ≤ g ∧ w.heap.size ≤ root ∧ TAt w2 g 0 0 root (.slice none 0 0) []) from
    ⟨w.heap.size + 1, w.heap.size, rfl, by omega, Nat.le_refl _, ⟨T2, ⟨N1.below M2 N1.lt, rk.Own.nil _ _ _, fun x hx => absurd hx (by simp), (fun e => nomatch e), (fun x hx => absurd hx (by simp)), List.Pairwise.nil⟩, by simp, .inl rfl, by
      rintro (e | e | ⟨x, hx, _⟩)
      · omega
      · cases e
      · simp at hx⟩⟩)
  have B2 := Lib.hid (up M1 M2 M1.size)
  have HW1 := Lib.hid hw1
  have HW2 := Lib.hid hw2
  have Z1 := Lib.hid z1
  clear hw1 hw2 M1 M2 z1 N1 T2
  go_enter Try.func8, Try.ntmps8
  go_wp2_with fail
  have hw1 := HW1.out
  have hw2 := HW2.out
  simp only [hw1, hw2]
  go_ret
  exact ⟨F.out, B2.out⟩
set_option maxHeartbeats 1000000 in
theorem len_any (w : World) (g h n root : Nat) (v : Value) (X : List Ex) (t : TAt w g h n root v X) : Calls Try.prog 12 #[.pointer (some ⟨g, 0, none⟩)] w fun e w' => e = .returned (.int .i64 n) ∧ w' = w := by
  have c2 := t.blk.cell 2
  clear t
  go_enter Try.func12, Try.ntmps12
  go_wp2_with fail
  go_ret
  exact ⟨rfl, rfl⟩
set_option maxHeartbeats 1000000 in
theorem deep_any (w : World) (g h n root : Nat) (v : Value) (X : List Ex) (t : TAt w g h n root v X) (hh : h ≤ 1000) : Calls Try.prog 27 #[.pointer (some ⟨g, 0, none⟩)] w fun e w' => e = .returned (.int .i64 ((h : Int) + 1)) ∧ w' = w := by
  have c1 := t.blk.cell 1
  have wk : IntKind.i64.wrap ((h : Int) + 1) = (h : Int) + 1 := IntWalk.i64_in _ (by omega)
  clear t
  go_enter Try.func27, Try.ntmps27
  go_wp2_with fail
  go_ret
  exact ⟨rfl, rfl⟩
end Go.Proofs.Ytndhdpjgnepfnaa.tr
