/-
  Contracts of package bid: Bid, whole; Close, by case.
-/
import Derived.Test.YtlklfolpcebahaaAucS
import Derived.Test.YtlklfolpcebahaaAucR
namespace Go.Proofs.Ytlklfolpcebahaa.bb
open Go.RowKit
open base (ret_bool ret_int made up Blk Only Nums)
open rk
set_option linter.unusedVariables false
set_option linter.unusedSimpArgs false

theorem close_none (B g : Nat) (L : List D) (nx n : Int) (w : World) (hd : DAt w B g L nx) (hl : L.length ≤ 100000) (hB : B ≤ w.heap.size) (ho : fi (isId n) L = none) :
    Calls Try.prog 25 #[.pointer (some ⟨g, 0, none⟩), .int .i64 n] w (CloseP B g (L, nx) (0, 0, 0, 0, 0, 0, 0) 14 w) := by
  have h := close_any B g L nx n w hd hl hB
  unfold cls at h
  dsimp only at h
  rw [ho] at h
  exact h
theorem close_some (B g i : Nat) (L : List D) (nx n : Int) (w : World) (hd : DAt w B g L nx) (hl : L.length ≤ 100000) (hB : B ≤ w.heap.size) (ho : fi (isId n) L = some i) :
    Calls Try.prog 25 #[.pointer (some ⟨g, 0, none⟩), .int .i64 n] w (CloseP B g (L.eraseIdx i, nx) (L.getD i (0, 0, 0, 0, 0, 0, 0)) 0 w) := by
  have h := close_any B g L nx n w hd hl hB
  unfold cls at h
  dsimp only at h
  rw [ho] at h
  exact h
theorem bid_is (L : List D) (nx id who n : Int) : bid (L, nx) id who n = match fi (isId id) L with | none => ((L, nx), 14) | some i => if bidErr (L.getD i (0, 0, 0, 0, 0, 0, 0)) who n ≠ 0 then ((L, nx), bidErr (L.getD i (0, 0, 0, 0, 0, 0, 0)) who n) else ((L.set i ((L.getD i (0, 0, 0, 0, 0, 0, 0)).1, (L.getD i (0, 0, 0, 0, 0, 0, 0)).2.1, (L.getD i (0, 0, 0, 0, 0, 0, 0)).2.2.1, (L.getD i (0, 0, 0, 0, 0, 0, 0)).2.2.2.1, n, who, (L.getD i (0, 0, 0, 0, 0, 0, 0)).2.2.2.2.2.2), nx), 0) := rfl
def oldIf (r : Int) (d : D) : D := if r = 0 then d else (0, 0, 0, 0, 0, 0, 0)
def bidOld (L : List D) (nx id who n : Int) : D := oldIf (bid (L, nx) id who n).2 (dAt L (fi (isId id) L))
theorem bid_no {L : List D} {nx id who n : Int} (h : fi (isId id) L = none) : bid (L, nx) id who n = ((L, nx), 14) := by rw [bid_is, h]
theorem bid_err {L : List D} {nx id who n k : Int} {i : Nat} (h : fi (isId id) L = some i) (hk : bidErr (L.getD i (0, 0, 0, 0, 0, 0, 0)) who n = k) (h0 : k ≠ 0) : bid (L, nx) id who n = ((L, nx), k) := by
  rw [bid_is, h]
  dsimp only
  rw [if_pos (by rw [hk]; exact h0), hk]
theorem bid_ok {L : List D} {nx id who n : Int} {i : Nat} (h : fi (isId id) L = some i) (hk : bidErr (L.getD i (0, 0, 0, 0, 0, 0, 0)) who n = 0) : bid (L, nx) id who n = ((L.set i ((L.getD i (0, 0, 0, 0, 0, 0, 0)).1, (L.getD i (0, 0, 0, 0, 0, 0, 0)).2.1, (L.getD i (0, 0, 0, 0, 0, 0, 0)).2.2.1, (L.getD i (0, 0, 0, 0, 0, 0, 0)).2.2.2.1, n, who, (L.getD i (0, 0, 0, 0, 0, 0, 0)).2.2.2.2.2.2), nx), 0) := by
  rw [bid_is, h]
  dsimp only
  rw [if_neg (fun q => q hk)]
theorem bid_two (L : List D) (nx id who n : Int) : ((bid (L, nx) id who n).2 ≠ 0 ∧ (bid (L, nx) id who n).1 = (L, nx) ∧ bidOld L nx id who n = (0, 0, 0, 0, 0, 0, 0)) ∨ ∃ i, fi (isId id) L = some i ∧ (bid (L, nx) id who n).2 = 0 ∧ bidOld L nx id who n = L.getD i (0, 0, 0, 0, 0, 0, 0) := by
  unfold bidOld
  cases h : fi (isId id) L with
  | none =>
    rw [bid_no h]
    exact .inl ⟨by show (14 : Int) ≠ 0; decide, rfl, if_neg (by show ¬ (14 : Int) = 0; decide)⟩
  | some i =>
    by_cases q : bidErr (L.getD i (0, 0, 0, 0, 0, 0, 0)) who n = 0
    · rw [bid_ok h q]
      exact .inr ⟨i, rfl, rfl, if_pos rfl⟩
    · rw [bid_err h rfl q]
      exact .inl ⟨q, rfl, if_neg q⟩
theorem bid_any (B g : Nat) (L : List D) (nx n who z : Int) (w : World) (hd : DAt w B g L nx) (hl : L.length ≤ 100000) (hB : B ≤ w.heap.size) (hok : ∀ d, d ∈ L → Ok nx d) :
    Calls Try.prog 17 #[.pointer (some ⟨g, 0, none⟩), .int .i64 n, .int .i64 who, .int .i64 z] w (CloseP B g (bid (L, nx) n who z).1 (bidOld L nx n who z) (bid (L, nx) n who z).2 w) := by
  unfold bidOld
  have o0 : ∀ d, oldIf 0 d = d := fun d => if_pos rfl
  have o1 : ∀ k d, k ≠ 0 → oldIf k d = (0, 0, 0, 0, 0, 0, 0) := fun k d h => if_neg h
  cases h : fi (isId n) L with
  | none =>
    rw [bid_no h, o1 _ _ (by show (14 : Int) ≠ 0; decide)]
    exact bid_none B g L nx n who z w hd hl hB h
  | some i =>
    have hil := fi_lt h
    have gd : L.getD i (0, 0, 0, 0, 0, 0, 0) = L[i] := by simp [List.getD, hil]
    have ok := hok _ (List.getElem_mem hil)
    rw [← gd] at ok
    have hb := ok.best
    have ai := asks_is hb.1
    by_cases q1 : who < 1
    · rw [bid_err h (k := 10) (by unfold bidErr; rw [if_pos q1]) (by decide), o1 _ _ (by show (10 : Int) ≠ 0; decide)]
      exact bid_form B g i L nx n who z w hd hl hB h _ rfl q1
    · by_cases q2 : who = (L.getD i (0, 0, 0, 0, 0, 0, 0)).2.2.1
      · rw [bid_err h (k := 38) (by unfold bidErr; rw [if_neg q1, if_pos q2]) (by decide), o1 _ _ (by show (38 : Int) ≠ 0; decide)]
        exact bid_own B g i L nx n who z w hd hl hB h _ rfl (by omega) q2
      · by_cases q3 : amt z
        · by_cases q4 : z < asks (L.getD i (0, 0, 0, 0, 0, 0, 0))
          · rw [bid_err h (k := 36) (by unfold bidErr; rw [if_neg q1, if_neg q2, if_neg (fun h => h q3), if_pos q4]) (by decide), o1 _ _ (by show (36 : Int) ≠ 0; decide)]
            exact bid_low B g i L nx n who z w hd hl hB h _ rfl (by omega) q2 q3 hb (by rw [← ai]; exact q4)
          · rw [bid_ok h (by unfold bidErr; rw [if_neg q1, if_neg q2, if_neg (fun h => h q3), if_neg q4]), o0]
            exact bid_yes B g i L nx n who z w hd hl hB h _ rfl (by omega) q2 q3 hb (by rw [← ai]; omega)
        · rw [bid_err h (k := 11) (by unfold bidErr; rw [if_neg q1, if_neg q2, if_pos q3]) (by decide), o1 _ _ (by show (11 : Int) ≠ 0; decide)]
          exact bid_range B g i L nx n who z w hd hl hB h _ rfl (by omega) q2 q3
end Go.Proofs.Ytlklfolpcebahaa.bb
