/-
  VarintBounds, its words: what a walk carries. Conditions: as the theorems say.
-/
import Derived.Test.YtjbbphdjemdinaaVoutC
import Derived.Test.YtjbbphdjemdinaaVarintReads
import Derived.Deep.RegionHeld
namespace Go.Proofs.Ytjbbphdjemdinaa.varintBounds
open Go.ChangeShapes Go.WideShapes Go.ChangeAt Go.RowKit
open base (ret_bool ret_int made up Blk Only Nums)
open bytes vnum vi
set_option linter.unusedVariables false
set_option linter.unusedSimpArgs false

def Good (w : World) (e : Ending) (w' : World) : Prop := e = .returned (.bool true) ∧ Below w.heap.size w w'
theorem only_below {w wr w' : World} {g : Nat} (h : Below w.heap.size w wr) (hg : w.heap.size ≤ g) (ho : Only (fun k => k = g) wr w') : Below w.heap.size w w' :=
  h.trans (ho.to_below (fun i hi e => by omega) h.size)

set_option maxHeartbeats 1000000 in
theorem walk_long (w : World) (A : Option Addr) (c : Nat) (l : List Nat) (least most : Int) (hc : l.length ≤ c) (hm : c ≤ 9223372036854775807) (q : 300 < l.length) :
    Calls Try.prog 6 #[.slice A l.length c, .int .i64 least, .int .i64 most] w (Good w) := by
  go_enter Try.func6, Try.ntmps6
  go_wp2_with (go_at_call 15; refine (awake_any _).mono ?_; rintro e w1 ⟨rfl, hb⟩)
  go_ret
  exact ⟨rfl, hb⟩

/-- what some bytes' list is: its bytes lie at their front -/
theorem ints_front {l : List Nat} {most : Int} {m : Nat} {r r2 : List Nat} {zs : List Int} (hs : Small l) (h : cnt most l = some (m, r)) (hz : rdN m r = some (zs, r2)) :
    zs.length = m ∧ (encs zs).length ≤ l.length ∧ l.take (encs zs).length = encs zs ∧ ∀ z ∈ zs, I64 z := by
  obtain ⟨k, hk, rfl, hm, hn⟩ := cnt_some h
  have hlen := rdN_len hz
  obtain ⟨e, hr⟩ := rdN_flat (fun c hc => hs c (List.mem_of_mem_drop hc)) hz
  obtain ⟨h1, h2, h3, h4, -⟩ := dec_some hs hk
  have hl : l = encs zs ++ r2 := by
    unfold encs
    rw [hlen, ← h4, List.append_assoc, ← e, List.take_append_drop]
  refine ⟨hlen, ?_, ?_, hr⟩
  · conv => rhs; rw [hl]
    simp
  · conv => lhs; rw [hl]
    simp
end Go.Proofs.Ytjbbphdjemdinaa.varintBounds
