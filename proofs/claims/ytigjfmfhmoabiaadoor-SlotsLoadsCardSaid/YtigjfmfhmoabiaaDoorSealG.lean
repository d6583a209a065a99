/-
  Contracts of package seal: what is opened; the fixed answer.
-/
import Derived.Test.YtigjfmfhmoabiaaDoorSealF
import Derived.Laws.IdiomStrings
import Derived.Laws.BytesString
import Derived.Lib.SlBytesConst
namespace Go.Proofs.YtigjfmfhmoabiaaDoor.sl
open Go.RowKit
open base (ret_bool ret_int made up Blk Only Nums)
open crc
set_option linter.unusedVariables false

theorem whole_any (A : Option Addr) (c : Nat) (l : List Nat) (w : World) (hL : Lay w A l) (hs : Small l) (hl2 : l.length ≤ 1000000) (hc : l.length ≤ c) (hc2 : c ≤ 9223372036854775807) (hT : Tab w) :
    Calls Tryd.prog 49 #[.slice A l.length c] w fun e w' => e = .returned (.bool (wholeB l)) ∧ Below w.heap.size w w' := by
  by_cases hl : l.length < 4
  · refine (whole_short A c l w hl).mono fun e w' ⟨he, hw⟩ => ?_
    subst he hw
    exact ⟨ret_bool (by unfold wholeB; simp; omega), Below.refl _ _⟩
  · obtain ⟨b, off, rfl, _, _⟩ := hL.at_ (k := 0) (by omega)
    exact whole_long b off c l w hL hs (by omega) hl2 hc hc2 hT

theorem whole_len {l : List Nat} (h : wholeB l = true) : 4 ≤ l.length := by
  unfold wholeB at h
  simp only [Bool.and_eq_true, decide_eq_true_eq] at h
  exact h.1

def OpenPost (l : List Nat) (w : World) (e : Ending) (w' : World) : Prop :=
  ∃ g, e = .returned (.tuple #[.slice (some ⟨g, 0, none⟩) l.length l.length, .bool true]) ∧ w.heap.size ≤ g ∧ OnB w' g l ∧ Below w.heap.size w w'

theorem lay_lit (w : World) (l : List Nat) (t : TypeId) (fr : Nat × Nat) : Lay (w.alloc (.cells (By l).toArray t fr)) (some ⟨w.heap.size, 0, none⟩) l := by
  intro h0
  refine ⟨w.heap.size, 0, rfl, by simp, fun j hj => ?_⟩
  have hj2 : j < l.length := by simpa [ints] using hj
  have hh : (w.alloc (.cells (By l).toArray t fr)).heap[w.heap.size]? = some (.cells (By l).toArray t fr) := heap_alloc_new w _
  rw [Nat.zero_add, cell_of_row _ w.heap.size j _ t fr hh]
  simp [By, ints, List.getD, List.getElem?_eq_getElem hj2]

theorem acc_app (l r : List Nat) (k : Nat) : acc (l ++ r) l.length k = acc r 0 k := by
  induction k with
  | zero => rfl
  | succ k ih =>
    simp only [acc]
    rw [ih, Nat.zero_add]
    congr 2
    simp [List.getD, List.getElem?_append_right]
theorem le4_back (s : Nat) (h : s < 4294967296) : acc (le4 s) 0 4 = s := by
  simp [acc, le4, List.getD]
  omega
theorem sum_lt (l : List Nat) : sum l < 4294967296 := by unfold sum; omega
theorem whole_sealed (l : List Nat) : wholeB (l ++ le4 (sum l)) = true := by
  have h1 : (l ++ le4 (sum l)).length = l.length + 4 := by simp [le4]
  have h2 : (l ++ le4 (sum l)).length - 4 = l.length := by omega
  unfold wholeB tail4
  rw [h2, acc_app, le4_back _ (sum_lt l), List.take_left]
  simp [le4]
theorem le4_small (s : Nat) : Small (le4 s) := by
  intro c hc
  simp [le4] at hc
  omega
theorem small_app {a b : List Nat} (ha : Small a) (hb : Small b) : Small (a ++ b) := fun c hc => by
  rcases List.mem_append.1 hc with h | h
  · exact ha c h
  · exact hb c h
theorem tab_mono {w w' : World} (h : Tab w) (hb : Below w.heap.size w w') : Tab w' := h.keep hb h.1

theorem small97 : Small [97] := by intro c hc; simp at hc; omega
theorem sum19 : sum [49, 50, 51, 52, 53, 54, 55, 56, 57] = 3421780262 := by decide +kernel
theorem small19 : Small [49, 50, 51, 52, 53, 54, 55, 56, 57] := by intro c hc; simp at hc; omega

theorem made2 (w : World) (a b : Obj) : Below w.heap.size w ((w.alloc a).alloc b) := ((Below.refl _ _).alloc (Nat.le_refl _) _).alloc (by simp) _
theorem sum19_calls (w : World) (hT : Tab w) :
    Calls Tryd.prog 56 #[.slice (some ⟨w.heap.size + 1, 0, none⟩) 1 1] ((w.alloc (.cells #[.int .u8 49, .int .u8 50, .int .u8 51, .int .u8 52, .int .u8 53, .int .u8 54, .int .u8 55, .int .u8 56, .int .u8 57] 5 (9, 10))).alloc (.cells #[.slice (some ⟨w.heap.size, 0, none⟩) 9 9] 27))
      fun e w' => e = .returned (.int .u32 3421780262) ∧ ((w.alloc (.cells #[.int .u8 49, .int .u8 50, .int .u8 51, .int .u8 52, .int .u8 53, .int .u8 54, .int .u8 55, .int .u8 56, .int .u8 57] 5 (9, 10))).alloc (.cells #[.slice (some ⟨w.heap.size, 0, none⟩) 9 9] 27)) = w' := by
  have hL : Lay (w.alloc (Obj.cells #[.int .u8 49, .int .u8 50, .int .u8 51, .int .u8 52, .int .u8 53, .int .u8 54, .int .u8 55, .int .u8 56, .int .u8 57] 5 (9, 10))) (some ⟨w.heap.size, 0, none⟩) [49, 50, 51, 52, 53, 54, 55, 56, 57] := lay_lit w [49, 50, 51, 52, 53, 54, 55, 56, 57] _ _
  have e9 : ([49, 50, 51, 52, 53, 54, 55, 56, 57] : List Nat).length = 9 := rfl
  have hs := sum19
  have hsm := small19
  generalize ([49, 50, 51, 52, 53, 54, 55, 56, 57] : List Nat) = l at *
  have hP := one_part (c := 9) hL hsm (by omega)
  rw [e9] at hP
  have hT1 := ((hT.alloc (Obj.cells #[.int .u8 49, .int .u8 50, .int .u8 51, .int .u8 52, .int .u8 53, .int .u8 54, .int .u8 55, .int .u8 56, .int .u8 57] 5 (9, 10))).alloc (.cells #[.slice (some ⟨w.heap.size, 0, none⟩) 9 9] 27))
  generalize hW : w.alloc (Obj.cells #[.int .u8 49, .int .u8 50, .int .u8 51, .int .u8 52, .int .u8 53, .int .u8 54, .int .u8 55, .int .u8 56, .int .u8 57] 5 (9, 10)) = W at *
  have hz : W.heap.size = w.heap.size + 1 := by rw [← hW]; simp
  have h := sum_any _ 1 [l] _ (by simp) hP hT1
  rw [hz] at h
  simp only [List.flatten_cons, List.flatten_nil, List.append_nil, hs] at h
  exact h
theorem conv97 (w : World) (g : Nat) (h : w.cell? ⟨g, 0, none⟩ = some (.int .u8 (97 : Nat))) : (convert 27 9 (.slice (some ⟨g, 0, none⟩) 1 1)).run Tryd.prog w = .ok (.string ⟨#[97]⟩) w := by
  have := run_convert_bytes_back (P := Tryd.prog) w 27 9 5 ⟨g, 0, none⟩ 1 [97] Tryd.underlying27 Tryd.underlying5 Tryd.underlying9 (by
    intro j hj
    obtain rfl : j = 0 := by simpa using hj
    simpa [Addr.add] using h)
  exact this

end Go.Proofs.YtigjfmfhmoabiaaDoor.sl
