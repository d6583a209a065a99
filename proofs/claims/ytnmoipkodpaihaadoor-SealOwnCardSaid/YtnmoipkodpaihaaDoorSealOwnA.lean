/-
  SealOwn, first part: what lies out of its bounds; how bytes are turned in place. Conditions: as the theorems say.
-/
import Derived.Test.YtnmoipkodpaihaaDoorSealM
import Derived.Deep.RegionHeld
import Derived.Laws.BitsAllLaws
namespace Go.Proofs.YtnmoipkodpaihaaDoor.sealOwn
open Go.ChangeShapes Go.WideShapes Go.ChangeAt Go.RowKit
open sl
open base (ret_bool ret_int made up Blk Only Nums)
open crc
set_option linter.unusedVariables false

def Good (w : World) (e : Ending) (w' : World) : Prop := e = .returned (.bool true) ∧ Below w.heap.size w w'

set_option maxHeartbeats 1000000 in
theorem walk_out (w : World) (hT : Tab w) (A : Option Addr) (c : Nat) (l : List Nat) (z : Int) (hc : l.length ≤ c) (hc2 : c ≤ 9223372036854775807) (h : 200 < l.length ∨ l.length ≤ 200 ∧ z < 6 ∨ l.length ≤ 200 ∧ 6 ≤ z ∧ 600 < z) :
    Calls Tryd.prog 7 #[.slice A l.length c, .int .i64 z] w (Good w) := by
  have T := Lib.hid hT
  clear hT
  rcases h with h | ⟨h1, h2⟩ | ⟨h1, h2, h3⟩
  all_goals
    go_enter Tryd.func7, Tryd.ntmps7
    go_wp2_with (go_at_call 8; refine (awake_any _ T.out).mono ?_; rintro e w1 ⟨rfl, hb1⟩)
    go_ret
    exact ⟨rfl, hb1⟩

/-- The bytes of a block, some of them turned. -/
def TurnAt (g : Nat) (l : List Nat) (w wr : World) : Prop := ∃ m : List Nat, m.length = l.length ∧ Small m ∧ OnB wr g m ∧ Only (fun k => k = g) w wr
theorem TurnAt.start {g : Nat} {l : List Nat} {w : World} (h : OnB w g l) (hs : Small l) : TurnAt g l w w := ⟨l, rfl, hs, h, Only.refl _ _⟩
theorem small_set {l : List Nat} (h : Small l) (k c : Nat) (hc : c < 256) : Small (l.set k c) := by
  intro q hq
  rcases List.mem_or_eq_of_mem_set hq with h1 | rfl
  · exact h q h1
  · exact hc
theorem turn_one {g k : Nat} {l m : List Nat} {w wr : World} (hm : m.length = l.length) (hs : Small m) (hon : OnB wr g m) (hol : Only (fun k => k = g) w wr) (v : Int) (hv : v = ((m.getD k 0 ^^^ 1 : Nat) : Int)) (hk : k < l.length) : TurnAt g l w (wr.setCell ⟨g, k, none⟩ (.int .u8 v)) := by
  subst hv
  have h256 : m.getD k 0 < 256 := small_at hs (by omega)
  refine ⟨m.set k (m.getD k 0 ^^^ 1), by simp [hm], small_set hs _ _ ?_, hon.put _ _, hol.setCell (.inl rfl) _⟩
  exact Nat.xor_lt_two_pow (n := 8) h256 (by omega)

/-- What was there stands, and new blocks hold these bytes. -/
def Many (w : World) (bs : List (Nat × List Nat)) (ws : World) : Prop := Below w.heap.size w ws ∧ ∀ p ∈ bs, w.heap.size ≤ p.1 ∧ OnB ws p.1 p.2
theorem Many.start (w : World) : Many w [] w := ⟨Below.refl _ _, fun _ h => by cases h⟩
theorem Many.next {w ws ws' : World} {bs : List (Nat × List Nat)} (h : Many w bs ws) (hb : Below ws.heap.size ws ws') : Many w bs ws' :=
  ⟨h.1.trans (hb.mono h.1.size), fun p hp => ⟨(h.2 p hp).1, Blk.below (h.2 p hp).2 hb (Blk.lt (h.2 p hp).2)⟩⟩
theorem Many.drew {w ws : World} {bs : List (Nat × List Nat)} (h : Many w bs ws) : Many w bs ws.drew := h.next (Below.refl _ _).drew
theorem Many.only {w ws ws' : World} {bs : List (Nat × List Nat)} {g : Nat} (h : Many w bs ws) (ho : Only (fun k => k = g) ws ws') (hg : w.heap.size ≤ g) (hn : ∀ p ∈ bs, p.1 ≠ g) : Many w bs ws' :=
  ⟨h.1.trans (ho.to_below (fun i hi => by omega) h.1.size), fun p hp => ⟨(h.2 p hp).1, Blk.only (h.2 p hp).2 ho (hn p hp)⟩⟩
theorem Many.add {w ws : World} {bs : List (Nat × List Nat)} (h : Many w bs ws) {g : Nat} {m : List Nat} (hg : w.heap.size ≤ g) (ho : OnB ws g m) : Many w ((g, m) :: bs) ws :=
  ⟨h.1, fun p hp => by
    rcases List.mem_cons.1 hp with rfl | hp
    · exact ⟨hg, ho⟩
    · exact h.2 p hp⟩
theorem Many.on {w ws : World} {bs : List (Nat × List Nat)} (h : Many w bs ws) {g : Nat} {m : List Nat} (hp : (g, m) ∈ bs) : OnB ws g m := (h.2 _ hp).2
theorem Many.conv {w ws : World} {bs : List (Nat × List Nat)} (h : Many w bs ws) {g : Nat} {m : List Nat} (hp : (g, m) ∈ bs) (hs : Small m) : (convert 22 9 (.slice (some ⟨g, 0, none⟩) m.length m.length)).run Tryd.prog ws = .ok (.string (str m)) ws := by
  have hl := (h.on hp).lay 0 m.length
  rw [List.drop_zero, List.take_length] at hl
  exact conv_any _ _ _ _ hl hs
theorem Many.lay {w ws : World} {bs : List (Nat × List Nat)} (h : Many w bs ws) {g : Nat} {m : List Nat} (hp : (g, m) ∈ bs) : Lay ws (some ⟨g, 0, none⟩) m := by
  have hl := (h.on hp).lay 0 m.length
  rwa [List.drop_zero, List.take_length] at hl
theorem Many.arg {w ws : World} {bs : List (Nat × List Nat)} (h : Many w bs ws) {A : Option Addr} {l : List Nat} (hL : Lay w A l) : Lay ws A l := hL.below h.1
end Go.Proofs.YtnmoipkodpaihaaDoor.sealOwn
