/-
  The queue: lists of calls as arguments; the first pair.
-/
import Derived.Test.YtmfhellpdpfoaaaQuU
import Derived.Test.YtmfhellpdpfoaaaEnc
namespace Go.Proofs.Ytmfhellpdpfoaaa.qu
open Go.ChangeShapes Go.WideShapes Go.ChangeAt Go.RowKit
open base (ret_bool ret_int made up Blk Only)
open rk mk
set_option linter.unusedVariables false
set_option linter.unusedSimpArgs false
variable {w w' : World} {q sb B : Nat} {vl : Value} {L M : List It} {ad : Int} {F : Nat → Prop}

abbrev OpR := Int × Int × Int × ByteArray
def EO : Enc OpR := ⟨fun d => [.int .i64 d.1, .int .i64 d.2.1, .int .i64 d.2.2.1, .string d.2.2.2], 4, by decide, fun _ => rfl, by
  intro x v hv
  simp at hv
  rcases hv with rfl | rfl | rfl | rfl <;> rfl⟩
def okO (x : OpR) : Prop := (Lit.int .i64 x.1).wf = true ∧ (Lit.int .i64 x.2.1).wf = true ∧ (Lit.int .i64 x.2.2.1).wf = true ∧ x.2.2.2.size ≤ maxLen
set_option maxRecDepth 20000 in
theorem open_ops {H : Type} {en : TypeId × Value → H} {sp : Nat → Bool} {held : Bool} {bs b0 : Nat} {r : Reach} {W : World} {v : Value} {d : DataW H} {ps : List MemPlace}
    (hval : Value.okWide Try.prog W r b0 22 v) (h : DataW.Trod en Try.prog W bs sp held 22 v d ps) :
    ∃ (A : Option Addr) (cap : Nat) (D : List OpR), v = .slice A D.length cap ∧ D.length ≤ cap ∧ cap ≤ maxLen ∧ Lay EO W A D ∧ ∀ x, x ∈ D → okO x :=
  enc.open_enc (E := EO) (ok := okO) (0, 0, 0, ByteArray.empty) Try.underlying22 Try.underlying31 (by kernel_rfl) (by kernel_rfl) rfl
    (fun V hV => by
      obtain ⟨f0, y0, g0⟩ := hV 0 _ rfl
      obtain ⟨f1, y1, g1⟩ := hV 1 _ rfl
      obtain ⟨f2, y2, g2⟩ := hV 2 _ rfl
      obtain ⟨f3, y3, g3⟩ := hV 3 _ rfl
      obtain ⟨z0, a0, _, b0⟩ := DataW.trod_int Try.underlying3 g0
      obtain ⟨z1, a1, _, b1⟩ := DataW.trod_int Try.underlying3 g1
      obtain ⟨z2, a2, _, b2⟩ := DataW.trod_int Try.underlying3 g2
      obtain ⟨z3, a3, _, b3⟩ := DataW.trod_string Try.underlying9 g3
      simp at a0 a1 a2 a3
      refine ⟨(z0, z1, z2, z3), ⟨b0, b1, b2, b3⟩, fun j hj => ?_⟩
      have hj : j < 4 := hj
      rcases j with _ | _ | _ | _ | j
      · exact congrArg some a0.symm
      · exact congrArg some a1.symm
      · exact congrArg some a2.symm
      · exact congrArg some a3.symm
      · exact absurd hj (Nat.not_lt.2 (Nat.le_add_left 4 j))) hval h
theorem layOp {A : Option Addr} {D : List OpR} (h : Lay EO w A D) {k : Nat} (hk : k < D.length) : ∃ b off, A = some ⟨b, off, none⟩ ∧ w.cell? ⟨b, off + k * 4, none⟩ = some (.int .i64 D[k].1) ∧ w.cell? ⟨b, off + k * 4 + 1, none⟩ = some (.int .i64 D[k].2.1) ∧ w.cell? ⟨b, off + k * 4 + 2, none⟩ = some (.int .i64 D[k].2.2.1) ∧ w.cell? ⟨b, off + k * 4 + 3, none⟩ = some (.string D[k].2.2.2) := by
  obtain ⟨b, off, e, _, hc⟩ := h (by omega)
  exact ⟨b, off, e, hc k hk 0 (by decide), hc k hk 1 (by decide), hc k hk 2 (by decide), hc k hk 3 (by decide)⟩
/-- both are new -/
theorem Pair.new {B : Nat} (hq : QS F w q [] 0) (hlo : ∀ k, F k → B ≤ k) (hB : B ≤ w.heap.size) : Pair F (w.alloc (.cells #[.slice none 0 0, .int .i64 0] 29)) q w.heap.size (.slice none 0 0) [] 0 B :=
  ⟨hq.below (made w _), ⟨Blk.new w _ _, Own.nil _ _ _, hB⟩, hlo, by simp⟩
end Go.Proofs.Ytmfhellpdpfoaaa.qu
