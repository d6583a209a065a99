/-
  The law's put: a thing is written; its bytes are told.
-/
import Derived.Test.YtndhammngejdiaaDoorVtB
import Derived.Lib.ConvBytes
namespace Go.Proofs.YtndhammngejdiaaDoor.vi
open Go.RowKit
open base (ret_bool ret_int made up Nums Only Blk)
open bytes vnum
set_option linter.unusedVariables false
set_option linter.unusedSimpArgs false

structure Th where
  k : Int
  n : Int
  s : ByteArray
  f : Bool
  A : Option Addr
  c : Nat
  zs : List Int
/-- a thing's bytes -/
def pe (t : Th) : List Nat := if t.k = 0 then enc t.n else if t.k = 1 then enc (t.s.size : Int) ++ bs t.s else if t.k = 2 then [if t.f then 1 else 0] else if t.k = 3 then encs t.zs else []
/-- a result: new memory, or none -/
structure Res (w w' : World) (g : Nat) (v' r : Value) (l : List Nat) : Prop where
  row : ∃ A c, r = .slice A l.length c ∧ Lay w' A l ∧ ∀ ad, A = some ad → w.heap.size ≤ ad.block ∧ ad.block < w'.heap.size ∧ v'.ownBlock ≠ some ad.block
def PutP (g : Nat) (r0 : Option Nat) (l m : List Nat) (w : World) (e : Ending) (w' : World) : Prop := ∃ v' r, e = .returned r ∧ OutV w g r0 w' (l ++ m) v' ∧ Res w w' g v' r m
theorem Res.of_own {w w1 w' : World} {g b : Nat} {v' r : Value} {l l' : List Nat} (h : Own w' b r l) (hv : Own w1 0 v' l') (h1 : w.heap.size ≤ w1.heap.size) (h2 : w1.heap.size ≤ b) : Res w w' g v' r l := by
  obtain ⟨A, c, e, hl, -, -, hA⟩ := h.lies
  refine ⟨A, c, e, hl, fun ad ha => ?_⟩
  rcases hA with ⟨e2, _⟩ | ⟨ga, e2, hlo, hhi⟩
  · rw [e2] at ha; cases ha
  · rw [e2] at ha
    injection ha with ha
    subst ha
    refine ⟨by show w.heap.size ≤ ga; omega, hhi, fun e3 => ?_⟩
    have := (hv.lt ga e3).2
    omega
variable {w : World}
theorem bytes_of (w : World) (s : ByteArray) (cap : Nat) (fl : Nat × Nat) : Lay (w.drew.alloc (.cells (bytesRow s cap) 5 fl)) (some ⟨w.heap.size, 0, none⟩) (bs s) := fun h0 => by
  refine ⟨w.heap.size, 0, rfl, by simp, fun j hj => ?_⟩
  have hj2 : j < s.data.size := by simpa [ints, bs] using hj
  have hx : (w.drew.alloc (.cells (bytesRow s cap) 5 fl)).heap[w.heap.size]? = some (.cells (bytesRow s cap) 5 fl) := heap_alloc_new w.drew _
  have hc : (w.drew.alloc (.cells (bytesRow s cap) 5 fl)).cell? ⟨w.heap.size, 0 + j, none⟩ = (bytesRow s cap)[j]? := by
    rw [Nat.zero_add]
    unfold World.cell?
    rw [hx]
    rfl
  rw [hc, bytesRow_at s cap j hj2]
  simp [ints, bs]
  rw [Array.getElem?_eq_getElem hj2]
  rfl
theorem Res.lit {w w2 : World} {g : Nat} {v' : Value} {l' : List Nat} (hv : Own w2 0 v' l') (h1 : w.heap.size ≤ w2.heap.size) (c : Nat) : Res w (w2.alloc (.cells #[.int .u8 (c : Int)] 5)) g v' (.slice (some ⟨w2.heap.size, 0, none⟩) 1 1) [c] :=
  ⟨_, _, rfl, bytes_lit w2 c _ rfl, fun ad ha => by
    injection ha with ha
    subst ha
    refine ⟨h1, by simp, fun e3 => ?_⟩
    have := (hv.lt _ e3).2
    exact absurd this (Nat.lt_irrefl _)⟩
end Go.Proofs.YtndhammngejdiaaDoor.vi
