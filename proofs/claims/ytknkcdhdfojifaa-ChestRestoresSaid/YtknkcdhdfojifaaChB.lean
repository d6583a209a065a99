/-
  Chests: contracts of what only reads.
-/
import Derived.Test.YtknkcdhdfojifaaChA
import Derived.Deep.RegionHeld
namespace Go.Proofs.Ytknkcdhdfojifaa.ch
open Go.RowKit
open base (ret_bool ret_int made up Blk Only)
open rk mk
set_option linter.unusedVariables false
set_option linter.unusedSimpArgs false

theorem CAt.look {w : World} {B g b c : Nat} {L : List C2} {n : Int} (h : CAt w B g b L c) (hw : (Lit.int .i64 n).wf = true) : ∃ A cc, (Instr.lookup 52 (.map (some b)) (.int .i64 n) false).run Try.prog w = .ok (.slice A (nd L n).length cc) w ∧ Own E1 w B 3 (.slice A (nd L n).length cc) (nd L n) := by
  obtain ⟨F, hm, h2, h3, h4⟩ := h.ex
  have lk := IMap.look (t := 52) hm Try.underlying3 Try.underlying52 (znil w) hw
  cases q : F n with
  | none =>
    rw [q] at lk
    rw [h3 n q]
    exact ⟨none, 0, lk, Own.nil _ _ _⟩
  | some v =>
    rw [q] at lk
    have ho := (h2 n v q).2
    obtain ⟨A, cc, rfl, _⟩ := ho.open_
    exact ⟨A, cc, lk, ho⟩
set_option maxHeartbeats 400000 in
theorem new_any (B : Nat) (w : World) (hB : B ≤ w.heap.size) : Calls Try.prog 7 #[] w fun e w' => e = .returned (.pointer (some ⟨w.heap.size + 1, 0, none⟩)) ∧ CAt w' B (w.heap.size + 1) w.heap.size [] 0 ∧ Below w.heap.size w w' := by
  have hmm := @run_makeMap Try.prog
  have h1 := made w (.map #[] 0)
  have h2 := Lib.hid (h1.alloc (o := .cells #[.map (some w.heap.size)] 54) (by rw [asz]; omega))
  have bx := Blk.new (w.alloc (.map #[] 0)) 54 #[.map (some w.heap.size)]
  rw [asz] at bx
  have mm := (IMap.made (P := Try.prog) (k := 3) w).alloc (.cells #[.map (some w.heap.size)] 54)
  have RA := Lib.hid (show CAt ((w.alloc (.map #[] 0)).alloc (.cells #[.map (some w.heap.size)] 54)) B (w.heap.size + 1) w.heap.size [] 0 from ⟨bx, ⟨fun _ => none, mm, fun n v h => (by cases h), fun n _ => rfl, fun n k v u _ h => (by cases h)⟩, by omega, hB⟩)
  clear h1 bx mm
  go_enter Try.func7, Try.ntmps7
  go_wp2_with fail
  go_ret
  exact ⟨rfl, RA.out, h2.out⟩
set_option maxHeartbeats 400000 in
theorem right_any (n : Int) (w : World) : Calls Try.prog 29 #[.int .i64 n] w fun e w' => e = .returned (.bool (oki n)) ∧ w = w' := by
  go_enter Try.func29, Try.ntmps29
  go_wp2
  all_goals (go_ret; exact ⟨ret_bool (by simp [oki]; omega), rfl⟩)
set_option maxHeartbeats 400000 in
theorem rneed_any (n : Int) (w : World) : Calls Try.prog 15 #[.int .i64 n] w fun e w' => e = .returned (.bool (oki n)) ∧ w = w' := by
  go_enter Try.func15, Try.ntmps15
  go_wp2
  all_goals (go_ret; exact ⟨ret_bool (by simp [oki]; omega), rfl⟩)
def roomErr (n : Int) : Int := if n < 0 ∨ 16 ≤ n then 12 else 0
set_option maxHeartbeats 400000 in
theorem room_any (n : Int) (w : World) : Calls Try.prog 14 #[.int .i64 n] w fun e w' => e = .returned (.int .i64 (roomErr n)) ∧ w = w' := by
  have R : ∀ v : Int, v = roomErr n → v = if n < 0 ∨ 16 ≤ n then 12 else 0 := fun v h => h
  generalize roomErr n = z at *
  have R2 := Lib.hid (R z rfl)
  clear R
  go_enter Try.func14, Try.ntmps14
  go_wp2
  all_goals (go_ret; exact ⟨ret_int (by rw [R2.out]; first | rw [if_pos (by omega)] | rw [if_neg (by omega)]), rfl⟩)
set_option maxRecDepth 100000 in
set_option maxHeartbeats 400000 in
theorem len_any {B g b c : Nat} {L : List C2} {n : Int} {w : World} (h : CAt w B g b L c) (hw : (Lit.int .i64 n).wf = true) :
    Calls Try.prog 20 #[.pointer (some ⟨g, 0, none⟩), .int .i64 n] w fun e w' => e = .returned (.int .i64 ((nd L n).length : Nat)) ∧ w = w' := by
  obtain ⟨A, cc, lk, ho⟩ := h.look hw
  have c0 := h.blk.cell 0
  clear ho
  generalize (nd L n).length = z at *
  clear h hw
  go_enter Try.func20, Try.ntmps20
  go_wp2_with fail
  go_ret
  exact ⟨rfl, rfl⟩
theorem plc_ge {L : List C2} {n i : Int} {p : Nat} (h : plc L n i = some p) : 1 ≤ i := by
  rcases Int.lt_or_le i 1 with q | q
  · rw [plc_low L n i q] at h
    cases h
  · exact q
set_option maxRecDepth 100000 in
set_option maxHeartbeats 2000000 in
theorem need_no {B g b c : Nat} {L : List C2} {n i : Int} {w : World} (h : CAt w B g b L c) (hw : (Lit.int .i64 n).wf = true) (hp : plc L n i = none) :
    Calls Try.prog 13 #[.pointer (some ⟨g, 0, none⟩), .int .i64 n, .int .i64 i] w fun e w' => e = .returned (.tuple #[.int .i64 0, .int .i64 14]) ∧ w = w' := by
  have LE := Lib.hid (len_any h hw)
  by_cases q : i < 1
  · clear h hw hp LE
    go_enter Try.func13, Try.ntmps13
    go_wp2_with fail
    go_ret2
    exact ⟨rfl, rfl⟩
  · have hl := plc_none L n i hp (by omega)
    generalize (nd L n).length = z at *
    clear h hw hp
    go_enter Try.func13, Try.ntmps13
    go_wp2_with fail
    refine LE.out.mono ?_
    rintro e w1 ⟨rfl, rfl⟩
    go_wp2_with fail
    go_ret2
    exact ⟨rfl, rfl⟩
set_option maxRecDepth 100000 in
set_option maxHeartbeats 2000000 in
theorem need_yes {B g b c : Nat} {L : List C2} {n i : Int} {p : Nat} {w : World} (h : CAt w B g b L c) (hw : (Lit.int .i64 n).wf = true) (hwi : (Lit.int .i64 i).wf = true) (hp : plc L n i = some p) (hlt : p < L.length) (hl0 : L.length ≤ 100000) :
    Calls Try.prog 13 #[.pointer (some ⟨g, 0, none⟩), .int .i64 n, .int .i64 i] w fun e w' => e = .returned (.tuple #[.int .i64 L[p].2, .int .i64 0]) ∧ w = w' := by
  have LE := Lib.hid (len_any h hw)
  have h1 := plc_ge hp
  obtain ⟨_, e1, _, h2, h3, _⟩ := plc_some L n i p hp h1
  obtain ⟨A, cc, lk, ho⟩ := h.look hw
  have hlen := nd_len L n
  generalize L[p].2 = r at *
  obtain ⟨A', c', eA, hlay, hc1, hc2⟩ := ho.open_
  injection eA with eA eB eC
  subst eA eC
  have hi : (i - 1).toNat < (nd L n).length := by omega
  obtain ⟨bb, off, rfl, _, hcell⟩ := hlay (by omega)
  have hcc : w.cell? ⟨bb, off + (i - 1).toNat, none⟩ = some (.int .i64 r) := by
    have := hcell _ hi 0 (by decide)
    rw [List.getElem?_eq_getElem hi] at h3
    injection h3 with h3
    rw [h3] at this
    simpa [E1] using this
  have c0 := h.blk.cell 0
  obtain ⟨j, rfl⟩ : ∃ j : Nat, i = (j : Int) + 1 := ⟨(i - 1).toNat, by omega⟩
  rw [show ((j : Int) + 1 - 1).toNat = j by omega] at hcc
  clear hlay hcell h3 e1 ho hp
  generalize (nd L n).length = z at *
  have hj : j < z := by omega
  have hz : z ≤ 100000 := by omega
  have hwr : IntKind.i64.wrap ((j : Int) + 1 - 1) = j := by rw [show (j : Int) + 1 - 1 = j by omega]; exact IntWalk.i64_in _ (by omega)
  clear h hw hi h2 h1 hlen hl0 hwi hlt hc2 hc1
  go_enter Try.func13, Try.ntmps13
  go_wp2_with fail
  refine LE.out.mono ?_
  rintro e w1 ⟨rfl, rfl⟩
  go_wp2_with fail
  go_ret2
  exact ⟨rfl, rfl⟩
def mayErr (L : List C2) (n i lv : Int) : Int := match plc L n i with | none => 14 | some p => if lv < (L.getD p (0, 0)).2 then 31 else 0
set_option maxRecDepth 100000 in
set_option maxHeartbeats 2000000 in
theorem may_any {B g b c : Nat} {L : List C2} {n i lv : Int} {w : World} (h : CAt w B g b L c) (hw : (Lit.int .i64 n).wf = true) (hwi : (Lit.int .i64 i).wf = true) (hl0 : L.length ≤ 100000) :
    Calls Try.prog 11 #[.pointer (some ⟨g, 0, none⟩), .int .i64 n, .int .i64 i, .int .i64 lv] w fun e w' => e = .returned (.int .i64 (mayErr L n i lv)) ∧ w = w' := by
  unfold mayErr
  cases hp : plc L n i with
  | none =>
    have NE := Lib.hid (need_no h hw hp)
    clear h hw hwi hp
    go_enter Try.func11, Try.ntmps11
    go_wp2_with fail
    refine NE.out.mono ?_
    rintro e w1 ⟨rfl, rfl⟩
    go_wp2_with fail
    go_ret
    exact ⟨rfl, rfl⟩
  | some p =>
    obtain ⟨hlt, _⟩ := plc_some L n i p hp (plc_ge hp)
    have NE := Lib.hid (need_yes h hw hwi hp hlt hl0)
    dsimp only
    rw [show L.getD p (0, 0) = L[p] by simp [List.getD, hlt]]
    generalize L[p].2 = r at *
    clear h hw hwi hp
    by_cases q : lv < r
    · rw [if_pos q]
      go_enter Try.func11, Try.ntmps11
      go_wp2_with fail
      refine NE.out.mono ?_
      rintro e w1 ⟨rfl, rfl⟩
      go_wp2_with fail
      go_ret
      exact ⟨rfl, rfl⟩
    · rw [if_neg q]
      go_enter Try.func11, Try.ntmps11
      go_wp2_with fail
      refine NE.out.mono ?_
      rintro e w1 ⟨rfl, rfl⟩
      go_wp2_with fail
      go_ret
      exact ⟨rfl, rfl⟩
end Go.Proofs.Ytknkcdhdfojifaa.ch
