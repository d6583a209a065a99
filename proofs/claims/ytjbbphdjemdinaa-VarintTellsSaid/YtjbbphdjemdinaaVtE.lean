/-
  The law's put, of any thing.
-/
import Derived.Test.YtjbbphdjemdinaaVtD
namespace Go.Proofs.Ytjbbphdjemdinaa.vi
open Go.RowKit
open base (ret_bool ret_int made up Nums Only Blk)
open bytes vnum
set_option linter.unusedVariables false
set_option linter.unusedSimpArgs false
variable {w : World}
structure Th.Ok (w : World) (t : Th) : Prop where
  n : -9223372036854775808 ≤ t.n ∧ t.n ≤ 9223372036854775807
  z : ∀ z ∈ t.zs, I64 z
  nums : Nums .i64 w t.A t.zs
theorem put_any (g : Nat) (v : Value) (l : List Nat) (t : Th) (h : OutAt w g v l) (hl : l.length ≤ 1000000) (ok : t.Ok w) (hs : t.s.size ≤ 300) (hm : t.zs.length ≤ 40) (ha : 0 < t.zs.length → Apart w g v.ownBlock t.A) :
    Calls Try.prog 22 #[.pointer (some ⟨g, 0, none⟩), .agg #[.int .i64 t.k, .int .i64 t.n, .string t.s, .bool t.f, .slice t.A t.zs.length t.c]] w (PutP g v.ownBlock l (pe t) w) := by
  obtain ⟨k, n, s, f, A, c, zs⟩ := t
  dsimp only at ok hs hm ha ⊢
  unfold pe
  dsimp only
  by_cases k0 : k = 0
  · subst k0
    rw [if_pos rfl]
    exact put_0 g v l ⟨0, n, s, f, A, c, zs⟩ h hl ok.n
  rw [if_neg k0]
  by_cases k1 : k = 1
  · subst k1
    rw [if_pos rfl]
    exact put_1 g v l ⟨1, n, s, f, A, c, zs⟩ h hl hs
  rw [if_neg k1]
  by_cases k2 : k = 2
  · subst k2
    rw [if_pos rfl]
    cases f with
    | true => exact put_2t g v l ⟨2, n, s, true, A, c, zs⟩ h hl
    | false => exact put_2f g v l ⟨2, n, s, false, A, c, zs⟩ h hl
  rw [if_neg k2]
  by_cases k3 : k = 3
  · subst k3
    rw [if_pos rfl]
    exact put_3 g v l ⟨3, n, s, f, A, c, zs⟩ h hl ok.z ok.nums ha hm
  rw [if_neg k3]
  exact put_oth g v l ⟨k, n, s, f, A, c, zs⟩ h hl k k0 k1 k2 k3
end Go.Proofs.Ytjbbphdjemdinaa.vi
