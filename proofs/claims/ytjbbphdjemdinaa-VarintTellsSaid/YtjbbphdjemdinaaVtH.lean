/-
  The law's told, of any thing, where all is well.
-/
import Derived.Test.YtjbbphdjemdinaaVtG
namespace Go.Proofs.Ytjbbphdjemdinaa.vi
open Go.RowKit
open base (ret_bool ret_int made up Nums Only Blk)
open bytes vnum
set_option linter.unusedVariables false
set_option linter.unusedSimpArgs false
variable {w : World}
set_option maxHeartbeats 400000 in
theorem told_oth (g : Nat) (A : Option Addr) (c : Nat) (r : List Nat) (t : Th) (h : InAt w g A r c false) (kk : Int) (k0 : kk ≠ 0) (k1 : kk ≠ 1) (k2 : kk ≠ 2) (k3 : kk ≠ 3) :
    Calls Try.prog 24 #[.pointer (some ⟨g, 0, none⟩), .agg #[.int .i64 kk, .int .i64 t.n, .string t.s, .bool t.f, .slice t.A t.zs.length t.c]] w (ToldP g r w) := by
  have t0 : decide (kk = 0) = false := decide_eq_false k0
  have t1 : decide (kk = 1) = false := decide_eq_false k1
  have t2 : decide (kk = 2) = false := decide_eq_false k2
  have t3 : decide (kk = 3) = false := decide_eq_false k3
  have H1 := Lib.hid (h.below (made w (.cells #[.int .i64 kk, .int .i64 t.n, .string t.s, .bool t.f, .slice t.A t.zs.length t.c] 44)))
  have O1 := Lib.hid (only_made g w (.cells #[.int .i64 kk, .int .i64 t.n, .string t.s, .bool t.f, .slice t.A t.zs.length t.c] 44))
  clear h
  go_enter Try.func24, Try.ntmps24
  go_wp2_with fail
  go_ret
  exact ⟨rfl, O1.out, _, _, H1.out⟩
theorem told_any (g : Nat) (A : Option Addr) (c : Nat) (r : List Nat) (t : Th) (h : InAt w g A (pe t ++ r) c false) (hl : (pe t ++ r).length ≤ 1000000) (ok : t.Ok w) (hs : t.s.size ≤ 300) (hm : t.zs.length ≤ 40) (ha : 0 < t.zs.length → Apart w g none t.A) :
    Calls Try.prog 24 #[.pointer (some ⟨g, 0, none⟩), .agg #[.int .i64 t.k, .int .i64 t.n, .string t.s, .bool t.f, .slice t.A t.zs.length t.c]] w (ToldP g r w) := by
  obtain ⟨k, n, s, f, At, ct, zs⟩ := t
  dsimp only at ok hs hm ha ⊢
  unfold pe at h hl
  dsimp only at h hl
  by_cases k0 : k = 0
  · subst k0
    rw [if_pos rfl] at h hl
    exact told_0 g A c r ⟨0, n, s, f, At, ct, zs⟩ h hl ok.n
  rw [if_neg k0] at h hl
  by_cases k1 : k = 1
  · subst k1
    rw [if_pos rfl, List.append_assoc] at h hl
    exact told_1 g A c r ⟨1, n, s, f, At, ct, zs⟩ h hl hs
  rw [if_neg k1] at h hl
  by_cases k2 : k = 2
  · subst k2
    rw [if_pos rfl] at h hl
    cases f with
    | true => exact told_2t g A c r ⟨2, n, s, true, At, ct, zs⟩ h hl
    | false => exact told_2f g A c r ⟨2, n, s, false, At, ct, zs⟩ h hl
  rw [if_neg k2] at h hl
  by_cases k3 : k = 3
  · subst k3
    rw [if_pos rfl] at h hl
    exact told_3 g A c r ⟨3, n, s, f, At, ct, zs⟩ h hl ok.z ok.nums ha hm
  rw [if_neg k3, List.nil_append] at h hl
  exact told_oth g A c r ⟨k, n, s, f, At, ct, zs⟩ h k k0 k1 k2 k3
end Go.Proofs.Ytjbbphdjemdinaa.vi
