/-
  One call of both: the chests and the list.
-/
import Derived.Test.YtknkcdhdfojifaaChH
import Derived.Test.YtknkcdhdfojifaaChI
import Derived.Test.YtknkcdhdfojifaaChJ
import Derived.Test.YtknkcdhdfojifaaChK
namespace Go.Proofs.Ytknkcdhdfojifaa.ch
open Go.RowKit
open base (ret_bool ret_int made up Blk Only)
open rk mk
set_option linter.unusedVariables false
set_option linter.unusedSimpArgs false

theorem step_any (k : Int) (A : Option Addr) (c : Nat) (L : List C2) (n i r : Int) (Bx B g b cn : Nat) (w : World) (hd : CAt w B g b L cn) (ho : Own E2 w Bx 37 (.slice A L.length c) L) (hl : L.length ≤ 1000) (hcn : cn ≤ 1000) (hB : B ≤ w.heap.size) (hX : Bx ≤ w.heap.size) (hwn : (Lit.int .i64 n).wf = true) (hwi : (Lit.int .i64 i).wf = true) :
    Calls Try.prog 9 #[.pointer (some ⟨g, 0, none⟩), .slice A L.length c, .agg #[.int .i64 k, .int .i64 n, .int .i64 i, .int .i64 r]] w (StepP Bx B g b cn (stepS L k n i r) w) := by
  unfold stepS
  by_cases h1 : k = 1
  · rw [if_pos h1, h1]
    by_cases he : buildErr L n r = 0
    · rw [if_pos he]
      exact step1_yes A c L n i r Bx B g b cn w hd ho hl hcn hB hX hwn he
    · rw [if_neg he]
      exact step1_no A c L n i r Bx B g b cn w hd ho hl hcn hB hX hwn he
  rw [if_neg h1]
  by_cases h2 : k = 2
  · rw [if_pos h2, h2]
    cases hp : plc L n i with
    | none => exact step2_none A c L n i r Bx B g b cn w hd ho hl hcn hB hX hwn hwi hp
    | some p =>
      obtain ⟨hlt, _⟩ := plc_some L n i p hp (plc_ge hp)
      dsimp only
      cases hr : oki r with
      | false =>
        rw [if_neg (by decide)]
        exact step2_range A c L n i r Bx B g b cn w hd ho hl hcn hB hX hwn hwi hp hlt hr
      | true =>
        rw [if_pos rfl]
        exact step2_yes A c L n i r Bx B g b cn w hd ho hl hcn hB hX hwn hwi hp hlt hr
  rw [if_neg h2]
  by_cases h3 : k = 3
  · rw [if_pos h3, h3]
    exact step3_any A c L n i r Bx B g b cn w hd ho hl hcn hB hX hwn
  rw [if_neg h3]
  exact step0_any k A c L n i r Bx B g b cn w hd ho hl hcn hB hX hwn h1 h2 h3
end Go.Proofs.Ytknkcdhdfojifaa.ch
