/-
  Roots: what is handed in, opened; the table of the sum as the program lays it.
-/
import Derived.Test.YtigjfmfhmoabiaaDoorSoF
import Derived.Test.YtigjfmfhmoabiaaDoorStructs
import Derived.Test.YtigjfmfhmoabiaaDoorCards
import Derived.Test.YtigjfmfhmoabiaaDoorTie
import Derived.Deep.DeepHandedRow
import Derived.Lib.LaidTab
import Derived.Lib.SmallJoins
namespace Go.Proofs.YtigjfmfhmoabiaaDoor.so
open Go.ChangeShapes Go.WideShapes Go.ChangeAt Go.RowKit Go.Deep Go.Lib
open base (ret_bool ret_int made up Blk Only Nums)
open bytes (Small small_nil Lay By str)
open sl (Tab)
open crc (tab)
set_option linter.unusedVariables false
set_option linter.unusedSimpArgs false
theorem c_int : Tryd.prog.cellsOf 3 = 1 := by kernel_rfl
theorem c_bool : Tryd.prog.cellsOf 4 = 1 := by kernel_rfl
section
variable {H : Type} {en : TypeId × Value → H}
theorem one_int {t : TypeId} (ht : Tryd.prog.underlying t = some (.int .i64)) {sp : Nat → Bool} {held : Bool} {bs n0 : Nat} {W : World} {v : Value} {yy : DataW H × List MemPlace}
    (hf : DataW.trod en Tryd.prog W bs sp held n0 t [v] = some yy) : ∃ a, v = .int .i64 a ∧ (Lit.int .i64 a).wf = true := by
  obtain ⟨a, h1, _, h2⟩ := DataW.trod_int ht hf
  simp at h1
  exact ⟨a, h1, h2⟩
theorem nums_trod {sp : Nat → Bool} {held : Bool} {bs n0 : Nat} {W : World} {t e : TypeId} {k : IntKind} {v : Value} {yy : DataW H × List MemPlace} {P : Program}
    (ht : P.underlying t = some (.slice e)) (he : P.underlying e = some (.int k)) (hc : P.cellsOf e = 1) (hf : DataW.trod en P W bs sp held n0 t [v] = some yy) :
    ∃ (A : Option Addr) (cap : Nat) (zs : List Int), v = .slice A zs.length cap ∧ zs.length ≤ cap ∧ cap ≤ maxLen ∧ Nums k W A zs ∧ ∀ n ∈ zs, (Lit.int k n).wf = true := by
  rcases open_ints ht he hc hf with ⟨hcs, hx⟩ | ⟨a, len', cap', zs, hcs, _, hl, hm, hz, hx, hcell, hwz⟩
  · simp at hcs
    subst hcs
    exact ⟨none, 0, [], rfl, Nat.le_refl _, by unfold maxLen; omega, fun h => absurd h (by simp), by simp⟩
  · simp at hcs
    subst hcs
    have hle : len' ≤ zs.length := by rw [hz]; split <;> omega
    have hlen : (zs.take len').length = len' := by rw [List.length_take]; omega
    refine ⟨some a, cap', zs.take len', by rw [hlen], by omega, hm, ?_, fun n hn => hwz n (List.mem_of_mem_take hn)⟩
    intro h0
    obtain ⟨b, off, spot⟩ := a
    have g0 := hcell 0 (by omega)
    have hspot : spot = none := by simpa [Addr.add] using World.cell?_spot g0
    subst hspot
    refine ⟨b, off, rfl, by have := World.block_lt_of_cell? W _ g0; simpa [Addr.add] using this, fun j hj => ?_⟩
    have := hcell j (by omega)
    rw [base.addr_add] at this
    rw [this]
    have hj' : j < len' := by omega
    simp [List.getD, hj']
theorem one_bool {sp : Nat → Bool} {held : Bool} {bs n0 : Nat} {W : World} {v : Value} {yy : DataW H × List MemPlace}
    (hf : DataW.trod en Tryd.prog W bs sp held n0 4 [v] = some yy) : ∃ b, v = .bool b := by
  obtain ⟨b, h1, _⟩ := DataW.trod_bool Tryd.underlying4 hf
  simp at h1
  exact ⟨b, h1⟩
theorem open_root {sp : Nat → Bool} {held : Bool} {bs b0 : Nat} {r : Reach} {W : World} {v : Value} {d : DataW H} {ps : List MemPlace}
    (hval : Value.okWide Tryd.prog W r b0 24 v) (h : DataW.Trod en Tryd.prog W bs sp held 24 v d ps) :
    ∃ (E : Int) (A : Option Addr) (c : Nat) (zs : List Int), v = .agg #[.int .i64 E, .slice A zs.length c] ∧ (Lit.int .i64 E).wf = true ∧ Nums .i64 W A zs ∧ (∀ z ∈ zs, (Lit.int .i64 z).wf = true) ∧ zs.length ≤ c ∧ c ≤ maxLen := by
  obtain ⟨v0, v1, y0, y1, n, rfl, _, _, g0, g1⟩ := Joins.open_agg2 Tryd.underlying24 (by kernel_rfl) (by kernel_rfl) hval h
  obtain ⟨x, rfl, h5⟩ := one_int Tryd.underlying3 g0
  obtain ⟨A, c, zs, rfl, d1, d2, d3, d4⟩ := nums_trod Tryd.underlying22 Tryd.underlying3 c_int g1
  exact ⟨x, A, c, zs, rfl, h5, d3, d4, d1, d2⟩
end
theorem gTab : Tryd.prog.globalNamed "deedhold/seal.half" = some 0 := by kernel_rfl
theorem gTabType : (Tryd.prog.globals[0]?).map (·.type) = some 96 := by kernel_rfl
theorem cells16 : Tryd.prog.cellsOf 96 = 16 := by kernel_rfl
theorem cells1 : Tryd.prog.cellsOf 67 = 1 := by kernel_rfl
theorem table {W : World} (h : laidMetH Tryd.prog [("deedhold/seal.half", Rows.laid_deedhold_seal_half)] W) : Lib.TabIs Tryd.prog W "deedhold/seal.half" .u32 [0, 498536548, 997073096, 651767980, 1994146192, 1802195444, 1303535960, 1342533948, 3988292384, 4027552580, 3604390888, 3412177804, 2607071920, 2262029012, 2685067896, 3183342108] :=
  Lib.tabIs_of_head (rest := []) gTab gTabType Tryd.underlying96 Tryd.underlying67 cells1 cells16 h
theorem tableOf {W : World} (h : laidMetH Tryd.prog [("deedhold/seal.half", Rows.laid_deedhold_seal_half)] W) : Tab W := by
  have c : ∀ k, k < 16 → W.cell? ⟨0, k, none⟩ = some (.int .u32 (tab k : Nat)) := by
    intro k hk
    have := (table h).cell gTab k (by simpa using hk)
    rw [this]
    have h2 : ∀ k : Fin 16, ([0, 498536548, 997073096, 651767980, 1994146192, 1802195444, 1303535960, 1342533948, 3988292384, 4027552580, 3604390888, 3412177804, 2607071920, 2262029012, 2685067896, 3183342108] : List Int).getD k.1 0 = (tab k.1 : Nat) := by decide
    have h3 := h2 ⟨k, hk⟩
    rw [← h3]
  exact ⟨World.block_lt_of_cell? W _ (c 0 (by omega)), c⟩

theorem nats {w : World} {A : Option Addr} {zs : List Int} (h : Nums .u8 w A zs) (hw : ∀ n ∈ zs, (Lit.int .u8 n).wf = true) : ∃ l : List Nat, zs.length = l.length ∧ Lay w A l ∧ Small l := by
  have hz : ∀ n ∈ zs, 0 ≤ n ∧ n ≤ 255 := fun n hn => by simpa [Lit.wf, IntKind.min, IntKind.max, IntKind.signed, IntKind.bits] using hw n hn
  refine ⟨zs.map Int.toNat, by simp, ?_, ?_⟩
  · have e : bytes.ints (zs.map Int.toNat) = zs := by
      unfold bytes.ints
      rw [List.map_map]
      conv => rhs; rw [← List.map_id zs]
      apply List.map_congr_left
      intro n hn
      have := hz n hn
      show ((n.toNat : Nat) : Int) = n
      omega
    unfold Lay
    rw [e]
    exact h
  · intro c hc
    obtain ⟨n, hn, rfl⟩ := List.mem_map.1 hc
    have := hz n hn
    omega

def Good0 (w : World) (e : Ending) (w' : World) : Prop := e = .returned (.bool true) ∧ Below w.heap.size w w'

end Go.Proofs.YtigjfmfhmoabiaaDoor.so
