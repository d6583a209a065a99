/-
  Contracts of package seal: what is opened; the fixed answer.
-/
import Derived.Test.YtnmoipkodpaihaaDoorSealF
import Derived.Laws.IdiomStrings
import Derived.Laws.BytesString
import Derived.Lib.SlBytesConst
namespace Go.Proofs.YtnmoipkodpaihaaDoor.sl
open Go.RowKit
open base (ret_bool ret_int made up Blk Only Nums)
open crc
set_option linter.unusedVariables false

theorem whole_any (A : Option Addr) (c : Nat) (l : List Nat) (w : World) (hL : Lay w A l) (hs : Small l) (hl2 : l.length ≤ 1000000) (hc : l.length ≤ c) (hc2 : c ≤ 9223372036854775807) (hT : Tab w) :
    Calls Tryd.prog 18 #[.slice A l.length c] w fun e w' => e = .returned (.bool (wholeB l)) ∧ Below w.heap.size w w' := by
  by_cases hl : l.length < 4
  · refine (whole_short A c l w hl).mono fun e w' ⟨he, hw⟩ => ?_
    subst he hw
    exact ⟨ret_bool (by unfold wholeB; simp; omega), Below.refl _ _⟩
  · obtain ⟨b, off, rfl, _, _⟩ := hL.at_ (k := 0) (by omega)
    exact whole_long b off c l w hL hs (by omega) hl2 hc hc2 hT

theorem whole_len {l : List Nat} (h : wholeB l = true) : 4 ≤ l.length := by
  unfold wholeB at h
  simp only [Bool.and_eq_true, decide_eq_true_eq] at h
  exact h.1

set_option maxHeartbeats 1000000 in
theorem open_no (A : Option Addr) (c : Nat) (l : List Nat) (w : World) (hL : Lay w A l) (hs : Small l) (hl2 : l.length ≤ 1000000) (hc : l.length ≤ c) (hc2 : c ≤ 9223372036854775807) (hT : Tab w) (hw : wholeB l = false) :
    Calls Tryd.prog 12 #[.slice A l.length c] w fun e w' => e = .returned (.tuple #[.slice none 0 0, .bool false]) ∧ Below w.heap.size w w' := by
  have W := Lib.hid (whole_any A c l w hL hs hl2 hc hc2 hT)
  clear hL hT
  go_enter Tryd.func12, Tryd.ntmps12
  go_wp2_with fail
  refine W.out.mono ?_
  rintro e w1 ⟨rfl, hb1⟩
  go_wp2
  go_ret2
  exact ⟨rfl, hb1⟩

def OpenPost (l : List Nat) (w : World) (e : Ending) (w' : World) : Prop :=
  ∃ g, e = .returned (.tuple #[.slice (some ⟨g, 0, none⟩) l.length l.length, .bool true]) ∧ w.heap.size ≤ g ∧ OnB w' g l ∧ Below w.heap.size w w'

set_option maxHeartbeats 1000000 in
theorem open_yes (A : Option Addr) (c : Nat) (l : List Nat) (w : World) (hL : Lay w A l) (hs : Small l) (hl2 : l.length ≤ 1000000) (hc : l.length ≤ c) (hc2 : c ≤ 9223372036854775807) (hT : Tab w) (hw : wholeB l = true) :
    Calls Tryd.prog 12 #[.slice A l.length c] w (OpenPost (l.take (l.length - 4)) w) := by
  have h4 := whole_len hw
  have W := Lib.hid (whole_any A c l w hL hs hl2 hc hc2 hT)
  have L := Lib.hid hL
  clear hL hT
  go_enter Tryd.func12, Tryd.ntmps12
  go_wp2_with fail
  refine W.out.mono ?_
  rintro e w1 ⟨rfl, hb1⟩
  have hp := piece_any A c 0 (l.length - 4) l w1 (L.out.below hb1) (by omega) hc hc2 hl2
  rw [List.drop_zero, show ((0 : Nat) : Int) = 0 from rfl, show ((l.length - 4 : Nat) : Int) = (l.length : Int) - 4 from by omega] at hp
  have HP := Lib.hid hp
  have hz := hb1.size
  clear hp
  go_wp2_with fail
  refine HP.out.mono ?_
  rintro e w2 ⟨g, rfl, hg, hon, hb2⟩
  have R := Lib.hid (show OpenPost (l.take (l.length - 4)) w (.returned (.tuple #[.slice (some ⟨g, 0, none⟩) (l.take (l.length - 4)).length (l.take (l.length - 4)).length, .bool true])) w2 from ⟨g, rfl, Nat.le_trans hz hg, hon, hb1.trans (hb2.mono hz)⟩)
  clear hon hb2 hg
  generalize l.take (l.length - 4) = p at *
  go_wp2
  go_ret2
  exact R.out

theorem lay_lit (w : World) (l : List Nat) (t : TypeId) (fr : Nat × Nat) : Lay (w.alloc (.cells (By l).toArray t fr)) (some ⟨w.heap.size, 0, none⟩) l := by
  intro h0
  refine ⟨w.heap.size, 0, rfl, by simp, fun j hj => ?_⟩
  have hj2 : j < l.length := by simpa [ints] using hj
  have hh : (w.alloc (.cells (By l).toArray t fr)).heap[w.heap.size]? = some (.cells (By l).toArray t fr) := heap_alloc_new w _
  rw [Nat.zero_add, cell_of_row _ w.heap.size j _ t fr hh]
  simp [By, ints, List.getD, List.getElem?_eq_getElem hj2]

theorem acc_app (l r : List Nat) (k : Nat) : acc (l ++ r) l.length k = acc r 0 k := by
  induction k with
  | zero => rfl
  | succ k ih =>
    simp only [acc]
    rw [ih, Nat.zero_add]
    congr 2
    simp [List.getD, List.getElem?_append_right]
theorem le4_back (s : Nat) (h : s < 4294967296) : acc (le4 s) 0 4 = s := by
  simp [acc, le4, List.getD]
  omega
theorem sum_lt (l : List Nat) : sum l < 4294967296 := by unfold sum; omega
theorem whole_sealed (l : List Nat) : wholeB (l ++ le4 (sum l)) = true := by
  have h1 : (l ++ le4 (sum l)).length = l.length + 4 := by simp [le4]
  have h2 : (l ++ le4 (sum l)).length - 4 = l.length := by omega
  unfold wholeB tail4
  rw [h2, acc_app, le4_back _ (sum_lt l), List.take_left]
  simp [le4]
theorem le4_small (s : Nat) : Small (le4 s) := by
  intro c hc
  simp [le4] at hc
  omega
theorem small_app {a b : List Nat} (ha : Small a) (hb : Small b) : Small (a ++ b) := fun c hc => by
  rcases List.mem_append.1 hc with h | h
  · exact ha c h
  · exact hb c h
theorem tab_mono {w w' : World} (h : Tab w) (hb : Below w.heap.size w w') : Tab w' := h.keep hb h.1

theorem open_sealed (g n : Nat) (l : List Nat) (w : World) (hon : OnB w g (l ++ le4 (sum l))) (hs : Small l) (hl : l.length ≤ 100000) (hn : n = l.length + 4) (hT : Tab w) :
    Calls Tryd.prog 12 #[.slice (some ⟨g, 0, none⟩) n n] w (OpenPost l w) := by
  have e0 : (l ++ le4 (sum l)).length = n := by rw [hn]; simp [le4]
  have hlay := hon.lay 0 (l ++ le4 (sum l)).length
  rw [List.drop_zero, List.take_length] at hlay
  have hop := open_yes _ n _ w hlay (small_app hs (le4_small _)) (by omega) (by omega) (by omega) hT (whole_sealed l)
  rw [e0] at hop
  have e2 : (l ++ le4 (sum l)).take (n - 4) = l := by rw [show n - 4 = l.length by omega, List.take_left]
  rwa [e2] at hop
theorem small97 : Small [97] := by intro c hc; simp at hc; omega
theorem sum19 : sum [49, 50, 51, 52, 53, 54, 55, 56, 57] = 3421780262 := by decide +kernel
theorem small19 : Small [49, 50, 51, 52, 53, 54, 55, 56, 57] := by intro c hc; simp at hc; omega

theorem made2 (w : World) (a b : Obj) : Below w.heap.size w ((w.alloc a).alloc b) := ((Below.refl _ _).alloc (Nat.le_refl _) _).alloc (by simp) _
theorem sum19_calls (w : World) (hT : Tab w) :
    Calls Tryd.prog 9 #[.slice (some ⟨w.heap.size + 1, 0, none⟩) 1 1] ((w.alloc (.cells #[.int .u8 49, .int .u8 50, .int .u8 51, .int .u8 52, .int .u8 53, .int .u8 54, .int .u8 55, .int .u8 56, .int .u8 57] 5 (9, 10))).alloc (.cells #[.slice (some ⟨w.heap.size, 0, none⟩) 9 9] 22))
      fun e w' => e = .returned (.int .u32 3421780262) ∧ ((w.alloc (.cells #[.int .u8 49, .int .u8 50, .int .u8 51, .int .u8 52, .int .u8 53, .int .u8 54, .int .u8 55, .int .u8 56, .int .u8 57] 5 (9, 10))).alloc (.cells #[.slice (some ⟨w.heap.size, 0, none⟩) 9 9] 22)) = w' := by
  have hL : Lay (w.alloc (Obj.cells #[.int .u8 49, .int .u8 50, .int .u8 51, .int .u8 52, .int .u8 53, .int .u8 54, .int .u8 55, .int .u8 56, .int .u8 57] 5 (9, 10))) (some ⟨w.heap.size, 0, none⟩) [49, 50, 51, 52, 53, 54, 55, 56, 57] := lay_lit w [49, 50, 51, 52, 53, 54, 55, 56, 57] _ _
  have e9 : ([49, 50, 51, 52, 53, 54, 55, 56, 57] : List Nat).length = 9 := rfl
  have hs := sum19
  have hsm := small19
  generalize ([49, 50, 51, 52, 53, 54, 55, 56, 57] : List Nat) = l at *
  have hP := one_part (c := 9) hL hsm (by omega)
  rw [e9] at hP
  have hT1 := ((hT.alloc (Obj.cells #[.int .u8 49, .int .u8 50, .int .u8 51, .int .u8 52, .int .u8 53, .int .u8 54, .int .u8 55, .int .u8 56, .int .u8 57] 5 (9, 10))).alloc (.cells #[.slice (some ⟨w.heap.size, 0, none⟩) 9 9] 22))
  generalize hW : w.alloc (Obj.cells #[.int .u8 49, .int .u8 50, .int .u8 51, .int .u8 52, .int .u8 53, .int .u8 54, .int .u8 55, .int .u8 56, .int .u8 57] 5 (9, 10)) = W at *
  have hz : W.heap.size = w.heap.size + 1 := by rw [← hW]; simp
  have h := sum_any _ 1 [l] _ (by simp) hP hT1
  rw [hz] at h
  simp only [List.flatten_cons, List.flatten_nil, List.append_nil, hs] at h
  exact h
theorem conv97 (w : World) (g : Nat) (h : w.cell? ⟨g, 0, none⟩ = some (.int .u8 (97 : Nat))) : (convert 22 9 (.slice (some ⟨g, 0, none⟩) 1 1)).run Tryd.prog w = .ok (.string ⟨#[97]⟩) w := by
  have := run_convert_bytes_back (P := Tryd.prog) w 22 9 5 ⟨g, 0, none⟩ 1 [97] Tryd.underlying22 Tryd.underlying5 Tryd.underlying9 (by
    intro j hj
    obtain rfl : j = 0 := by simpa using hj
    simpa [Addr.add] using h)
  exact this

set_option maxHeartbeats 400000 in
theorem awake_any (w : World) (hT : Tab w) : Calls Tryd.prog 8 #[] w fun e w' => e = .returned (.bool true) ∧ Below w.heap.size w w' := by
  have T := Lib.hid hT
  have h0 := hT.1
  clear hT
  have kc := fun (w : World) (C : Array Value) (n c : Nat) => Lib.run_convert_bytes_const (P := Tryd.prog) w 22 5 C n c Tryd.underlying22 Tryd.underlying5
  go_enter Tryd.func8, Tryd.ntmps8
  go_wp2_with fail
  have hlay : Lay (w.alloc (Obj.cells #[Value.int IntKind.u8 97] 5 (1, 2))) (some ⟨w.heap.size, 0, none⟩) [97] := lay_lit w [97] _ _
  have hcl := close_any _ 1 [97] _ hlay small97 (by simp) (tab_mono T.out (made _ _))
  have e97 : ([97] : List Nat).length = 1 := rfl
  have g97 : ([97] : List Nat).getD 0 0 = 97 := rfl
  have s97 := small97
  rw [e97] at hcl
  refine hcl.mono ?_
  clear hcl hlay
  generalize [97] = l at *
  have S97 := Lib.hid s97
  have E97 := Lib.hid e97
  have G97 := Lib.hid g97
  clear s97 e97 g97
  rintro e w1 ⟨g, n, rfl, hn, -, hon, hb1⟩
  have K1 := Lib.hid (up (made _ _) hb1 (by simp))
  have OP := Lib.hid (open_sealed g n l w1 hon S97.out (by rw [E97.out]; omega) hn (tab_mono T.out K1.out))
  clear hon hb1 hn
  go_wp2_with fail
  refine OP.out.mono ?_
  rintro e w2 ⟨g2, rfl, -, hon2, hb2⟩
  rw [E97.out]
  have K2 := Lib.hid (K1.out.trans (hb2.mono K1.out.size))
  have hcell := hon2.cell (k := 0) (by rw [E97.out]; omega)
  rw [G97.out] at hcell
  have T2 := Lib.hid (tab_mono T.out K2.out)
  have C2 := Lib.hid hcell
  clear hb2 OP K1 hon2 hcell
  have hsum := sum19_calls w2 T2.out
  have SUM := Lib.hid hsum
  clear hsum
  go_wp2_with fail
  refine SUM.out.mono ?_
  rintro e w3 ⟨rfl, rfl⟩
  have hcv := conv97 ((w2.alloc (.cells #[.int .u8 49, .int .u8 50, .int .u8 51, .int .u8 52, .int .u8 53, .int .u8 54, .int .u8 55, .int .u8 56, .int .u8 57] 5 (9, 10))).alloc (.cells #[.slice (some ⟨w2.heap.size, 0, none⟩) 9 9] 22)) g2 (by
    have hb := made2 w2 (.cells #[.int .u8 49, .int .u8 50, .int .u8 51, .int .u8 52, .int .u8 53, .int .u8 54, .int .u8 55, .int .u8 56, .int .u8 57] 5 (9, 10)) (.cells #[.slice (some ⟨w2.heap.size, 0, none⟩) 9 9] 22)
    exact (hb.cell (p := ⟨g2, 0, none⟩) (World.block_lt_of_cell? w2 _ C2.out)).trans C2.out)
  have K3 := Lib.hid (K2.out.trans ((made2 w2 (.cells #[.int .u8 49, .int .u8 50, .int .u8 51, .int .u8 52, .int .u8 53, .int .u8 54, .int .u8 55, .int .u8 56, .int .u8 57] 5 (9, 10)) (.cells #[.slice (some ⟨w2.heap.size, 0, none⟩) 9 9] 22)).mono K2.out.size))
  go_wp2
  go_ret
  exact ⟨rfl, K3.out⟩
end Go.Proofs.YtnmoipkodpaihaaDoor.sl
