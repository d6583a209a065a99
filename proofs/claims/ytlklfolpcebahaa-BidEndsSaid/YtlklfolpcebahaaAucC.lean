/-
  Contracts of package bid: New.
-/
import Derived.Test.YtlklfolpcebahaaAucB
namespace Go.Proofs.Ytlklfolpcebahaa.bb
open Go.RowKit
open base (ret_bool ret_int made up Blk Only Nums)
open rk
set_option linter.unusedVariables false
set_option linter.unusedSimpArgs false

/-- Of what there was only the deeds' own blocks may have turned. -/
def Tch (g : Nat) (w w' : World) : Prop := Only (fun k => k = g ∨ ∃ cs, Blk w k 35 cs) w w'
theorem Tch.of_below {g : Nat} {w w' : World} (h : Below w.heap.size w w') : Tch g w w' := (Only.refl _ w).below h (fun i h1 h2 => by omega)
theorem Tch.blk {g k : Nat} {w w' : World} {t : TypeId} {cs : Array Value} (h : Tch g w w') (hb : Blk w k t cs) (hk : k ≠ g) (ht : t ≠ 35) : Blk w' k t cs := hb.only h (by
  rintro (q | ⟨cs', q⟩)
  · exact hk q
  · unfold Blk at hb q
    rw [hb] at q
    injection q with q
    injection q with _ q
    exact ht q)
theorem ty_ne {w : World} {k g : Nat} {t t' : TypeId} {cs cs' : Array Value} (h : Blk w k t cs) (h' : Blk w g t' cs') (ht : t ≠ t') : k ≠ g := by
  rintro rfl
  unfold Blk at h h'
  rw [h] at h'
  injection h' with h'
  injection h' with _ h'
  exact ht h'
set_option maxHeartbeats 400000 in
theorem new_any (w : World) : Calls Try.prog 7 #[] w fun e w' => e = .returned (.pointer (some ⟨w.heap.size, 0, none⟩)) ∧ DAt w' w.heap.size w.heap.size [] 1 ∧ Below w.heap.size w w' := by
  have hm := Lib.hid (made w (.cells #[.slice none 0 0, .int .i64 1] 58))
  have bx := Lib.hid (Blk.new w 58 #[.slice none 0 0, .int .i64 1])
  go_enter Try.func7, Try.ntmps7
  go_wp2_with fail
  go_ret
  exact ⟨rfl, ⟨⟨_, bx.out, Own.nil _ _ _⟩, Nat.le_refl _⟩, hm.out⟩
end Go.Proofs.Ytlklfolpcebahaa.bb
