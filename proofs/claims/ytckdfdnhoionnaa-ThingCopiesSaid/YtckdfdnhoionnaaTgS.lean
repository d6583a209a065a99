/-
  Small ones; each number once at its place.
-/
import Derived.Test.YtckdfdnhoionnaaTgR
namespace Go.Proofs.Ytckdfdnhoionnaa.tg
open Go.RowKit
open base (ret_bool ret_int made up Blk Only)
open rk mk il nm
set_option linter.unusedVariables false
set_option linter.unusedSimpArgs false
variable {B g m K : Nat} {w w1 w2 w5 w' : World} {L : List Th} {nx : Int}

def smallB (D : List OpR) (n : Nat) : Bool := D.all (fun o => decide (o.nm.size ≤ 60)) && decide (D.length ≤ n)
theorem small_len {D : List OpR} {n : Nat} (h : smallB D n = true) : D.length ≤ n := by
  unfold smallB at h
  simp at h
  exact h.2
theorem lay7 {A : Option Addr} {D : List OpR} (h : Lay EO w A D) {k : Nat} (hk : k < D.length) : ∃ b off, A = some ⟨b, off, none⟩ ∧ w.cell? ⟨b, off + k * 7, none⟩ = some (.int .i64 D[k].k) ∧ w.cell? ⟨b, off + k * 7 + 1, none⟩ = some (.int .i64 D[k].id) ∧ w.cell? ⟨b, off + k * 7 + 2, none⟩ = some (.int .i64 D[k].ow) ∧ w.cell? ⟨b, off + k * 7 + 3, none⟩ = some (.string D[k].nm)
    ∧ w.cell? ⟨b, off + k * 7 + 4, none⟩ = some (.int .i64 D[k].kd) ∧ w.cell? ⟨b, off + k * 7 + 5, none⟩ = some (.int .i64 D[k].hs) ∧ w.cell? ⟨b, off + k * 7 + 6, none⟩ = some (.int .i64 D[k].sl) := by
  obtain ⟨b, off, e, _, hc⟩ := h (by omega)
  exact ⟨b, off, e, hc k hk 0 (by decide), hc k hk 1 (by decide), hc k hk 2 (by decide), hc k hk 3 (by decide), hc k hk 4 (by decide), hc k hk 5 (by decide), hc k hk 6 (by decide)⟩
theorem small_no {D : List OpR} {n k : Nat} (hk : k < D.length) (h : 60 < D[k].nm.size) : smallB D n = false := by
  unfold smallB
  have : D.all (fun o => decide (o.nm.size ≤ 60)) = false := by
    rw [List.all_eq_false]
    exact ⟨D[k], List.getElem_mem hk, by simp; omega⟩
  rw [this]
  rfl
theorem small_end {D : List OpR} {n : Nat} (h : ∀ j (hj : j < D.length), D[j].nm.size ≤ 60) : smallB D n = decide (D.length ≤ n) := by
  unfold smallB
  have : D.all (fun o => decide (o.nm.size ≤ 60)) = true := by
    rw [List.all_eq_true]
    intro o ho
    obtain ⟨j, hj, rfl⟩ := List.getElem_of_mem ho
    simpa using h j hj
  rw [this]
  rfl
set_option maxRecDepth 100000 in
set_option maxHeartbeats 2000000 in
theorem small_any (A : Option Addr) (c : Nat) (D : List OpR) (n : Nat) (w : World) (hA : Lay EO w A D) (hD : ∀ o ∈ D, o.Ok) (hl : D.length ≤ 9223372036854775807) :
    Calls Try.prog 9 #[.slice A D.length c, .int .i64 n] w (ClP (smallB D n) w) := by
  have HA := Lib.hid hA
  have HD := Lib.hid hD
  have SN := Lib.hid (fun k (hk : k < D.length) => small_no (n := n) hk)
  have SE := Lib.hid (small_end (D := D) (n := n))
  generalize smallB D n = z at *
  clear hA hD
  go_enter Try.func9, Try.ntmps9
  go_wp2_with fail
  go_loopw [9] (fun i wr => ∃ (k : Nat) (W : World), W = wr ∧ k ≤ D.length ∧ i = .int .i64 k ∧ (∀ j (hj : j < D.length), j < k → D[j].nm.size ≤ 60) ∧ Below w.heap.size w wr) (fun i _ => D.length - (intOf i).toNat)
  case atStart => exact ⟨0, _, rfl, by omega, rfl, fun j _ h => by omega, Below.refl _ _⟩
  case round =>
    obtain ⟨k, w2, rfl, hk, rfl, hno, hb⟩ := hrel
    have B2 := Lib.hid hb
    have NO := Lib.hid hno
    clear hno
    by_cases hkl : k < D.length
    · obtain ⟨b, off, rfl, e0, e1, e2, e3, e4, e5, e6⟩ := lay7 (HA.out.below hb) hkl
      have S1 := Lib.hid (SN.out k hkl)
      have WN := (HD.out _ (List.getElem_mem hkl)).wn
      have EQ := Lib.hid (show D[k].nm.size = D[k].nm.size from rfl)
      obtain ⟨d, hd⟩ : ∃ d, d = D[k] := ⟨_, rfl⟩
      rw [← hd] at e0 e1 e2 e3 e4 e5 e6 S1 WN
      have DD := Lib.hid hd
      clear hd hb EQ
      unfold maxLen at WN
      obtain ⟨d0, d1, d2, d3, d4, d5, d6⟩ := d
      dsimp only at e0 e1 e2 e3 e4 e5 e6 S1 WN
      have B3 := Lib.hid (up B2.out (made w2 (.cells #[.int .i64 d0, .int .i64 d1, .int .i64 d2, .string d3, .int .i64 d4, .int .i64 d5, .int .i64 d6] 33)) B2.out.size)
      by_cases hz : 60 < d3.size
      · have q := S1.out hz
        subst q
        clear S1
        go_wp2_with fail
        go_ret
        exact ⟨rfl, B3.out⟩
      · clear S1
        have HZ := Lib.hid hz
        go_wp2_with fail
        refine ⟨⟨k + 1, _, rfl, by omega, by go_num, fun j hj h => ?_, B3.out⟩, by simp [intOf]; omega⟩
        by_cases e : j = k
        · subst e
          rw [← DD.out]
          show d3.size ≤ 60
          have := HZ.out
          omega
        · exact NO.out j hj (by omega)
    · have q := SE.out (fun j hj => NO.out j hj (by omega))
      have Q := Lib.hid q
      clear hb q
      by_cases hn : D.length ≤ n
      · rw [decide_eq_true hn] at Q
        obtain rfl := Q.out
        go_wp2_with fail
        go_ret
        exact ⟨by simp [hn], B2.out⟩
      · rw [decide_eq_false hn] at Q
        obtain rfl := Q.out
        go_wp2_with fail
        go_ret
        exact ⟨by simp [hn], B2.out⟩
/-- each number stands once at its place -/
theorem once {l : List Int} (h : l.Pairwise (· < ·)) {z : Int} (hz : z ∈ l) : l.countP (fun x => x == z) = 1 := by
  induction l with
  | nil => cases hz
  | cons x l ih =>
    obtain ⟨h1, h2⟩ := List.pairwise_cons.1 h
    rw [List.countP_cons]
    rcases List.mem_cons.1 hz with e | e
    · subst e
      have : l.countP (fun x => x == z) = 0 := List.countP_eq_zero.2 (fun b hb => by have := h1 b hb; simp; omega)
      rw [this]
      simp
    · have := h1 z e
      rw [ih h2 e, if_neg (by simp; omega)]
theorem ids_has {L : List Th} {k : Nat} (hk : k < L.length) : L[k].id ∈ ids L (pc L[k]) := by
  unfold ids
  exact List.mem_map.2 ⟨L[k], List.mem_filter.2 ⟨List.getElem_mem hk, by simp⟩, rfl⟩
theorem count_snoc (l : List Int) (z : Int) {k : Nat} (hk : k < l.length) : (l.take (k + 1)).countP (fun x => x == z) = (l.take k).countP (fun x => x == z) + (if l[k] = z then 1 else 0) := by
  rw [List.take_succ_eq_append_getElem hk, List.countP_append]
  congr 1
  by_cases e : l[k] = z <;> simp [e]
end Go.Proofs.Ytckdfdnhoionnaa.tg
