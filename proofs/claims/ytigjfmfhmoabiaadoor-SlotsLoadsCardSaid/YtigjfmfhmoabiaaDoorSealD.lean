/-
  Contracts of package seal: bytes that are sealed, and opened.
-/
import Derived.Test.YtigjfmfhmoabiaaDoorSealC
import Derived.Laws.CopyOwn
namespace Go.Proofs.YtigjfmfhmoabiaaDoor.sl
open Go.RowKit
open base (ret_bool ret_int made up Blk Only Nums)
open crc
set_option linter.unusedVariables false

theorem info_u8 : (Tryd.prog.info? 5).map (fun i => (i.zero, i.size, i.bytes)) = some (some (.int .u8 0), 1, 1) := by kernel_rfl
theorem size_u8 : (Tryd.prog.info? 5).map (·.size) = some 1 := by kernel_rfl
theorem By_append (a b : List Nat) : By (a ++ b) = By a ++ By b := by simp [By]
theorem By_len (a : List Nat) : (By a).length = a.length := by simp [By]
theorem made_on (w : World) (n : Nat) : OnB (w.alloc (.cells (madeCells #[.int .u8 0] n) 5)) w.heap.size (List.replicate n 0) := by
  have h := World.rowIs_made w (.int .u8 0) n 5
  obtain ⟨c, h1, h2, h3⟩ := h
  have : c = (By (List.replicate n 0)).toArray := by
    apply Array.ext
    · simp [By, h2]
    · intro i hi _
      have := h3 i (by omega)
      rw [Array.getElem?_eq_getElem hi] at this
      injection this with this
      rw [this]
      simp [By]
  unfold OnB Blk
  rw [← this]
  exact h1
theorem by_one (l : List Nat) : ∀ v ∈ By l, v.oneCell' = true := by
  intro v hv
  obtain ⟨c, _, rfl⟩ := List.mem_map.1 hv
  rfl
theorem Lay.src {w : World} {A : Option Addr} {l : List Nat} (h : Lay w A l) (h0 : 0 < l.length) : ∃ ad, A = some ad ∧ ∀ j v, (By l)[j]? = some v → w.cell? (ad.add j) = some v := by
  obtain ⟨b, off, rfl, _, _⟩ := h.at_ h0
  refine ⟨_, rfl, fun j v hj => ?_⟩
  have hj2 : j < l.length := by have := (List.getElem?_eq_some_iff.1 hj).1; simpa [By] using this
  obtain ⟨b', off', e, _, hc⟩ := h.at_ hj2
  injection e with e
  injection e with e1 e2
  subst e1 e2
  have hadd : (⟨b, off, none⟩ : Addr).add j = ⟨b, off + j, none⟩ := by unfold Addr.add; split <;> simp_all
  rw [hadd, hc]
  simp [By, List.getElem?_eq_getElem hj2] at hj
  rw [← hj]
  simp [List.getD, List.getElem?_eq_getElem hj2]
theorem Lay.below {w w' : World} {A : Option Addr} {l : List Nat} (h : Lay w A l) (hb : Below w.heap.size w w') : Lay w' A l := base.Nums.keep h hb
theorem Lay.alloc {w : World} {A : Option Addr} {l : List Nat} (h : Lay w A l) (o : Obj) : Lay (w.alloc o) A l := h.below (made w o)

def SealPost (l : List Nat) (w : World) (e : Ending) (w' : World) : Prop :=
  ∃ g n, e = .returned (.slice (some ⟨g, 0, none⟩) n n) ∧ n = l.length + 4 ∧ g = w.heap.size ∧ OnB w' g (l ++ le4 (sum l)) ∧ Below w.heap.size w w'

end Go.Proofs.YtigjfmfhmoabiaaDoor.sl
