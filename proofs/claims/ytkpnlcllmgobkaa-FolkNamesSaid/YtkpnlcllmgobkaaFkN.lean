/-
  Accounts: lists of names as arguments; what a step keeps.
-/
import Derived.Test.YtkpnlcllmgobkaaFkL
import Derived.Test.YtkpnlcllmgobkaaEnc
namespace Go.Proofs.Ytkpnlcllmgobkaa.fk
open Go.ChangeShapes Go.WideShapes Go.ChangeAt Go.RowKit
open base (ret_bool ret_int made up Blk Only)
open rk mk
set_option linter.unusedVariables false
set_option linter.unusedSimpArgs false

theorem open_names {H : Type} {en : TypeId × Value → H} {sp : Nat → Bool} {held : Bool} {bs b0 : Nat} {r : Reach} {W : World} {v : Value} {d : DataW H} {ps : List MemPlace}
    (hval : Value.okWide Try.prog W r b0 22 v) (h : DataW.Trod en Try.prog W bs sp held 22 v d ps) :
    ∃ (A : Option Addr) (cap : Nat) (D : List ByteArray), v = .slice A D.length cap ∧ D.length ≤ cap ∧ cap ≤ maxLen ∧ Lay ES W A D ∧ ∀ x, x ∈ D → x.size ≤ maxLen :=
  enc.open_ones (E := ES) (ok := fun x => x.size ≤ maxLen) ByteArray.empty Try.underlying22 (by kernel_rfl) rfl
    (fun V fuel y hy => by
      obtain ⟨z, e1, _, e2⟩ := DataW.trod_string Try.underlying9 hy
      simp at e1
      exact ⟨z, e2, by rw [e1]; rfl⟩) hval h
abbrev OpR := Int × Int × Int × Int × ByteArray
def EO : Enc OpR := ⟨fun d => [.int .i64 d.1, .int .i64 d.2.1, .int .i64 d.2.2.1, .int .i64 d.2.2.2.1, .string d.2.2.2.2], 5, by decide, fun _ => rfl, by
  intro x v hv
  simp at hv
  rcases hv with rfl | rfl | rfl | rfl | rfl <;> rfl⟩
def okO (x : OpR) : Prop := (Lit.int .i64 x.1).wf = true ∧ (Lit.int .i64 x.2.1).wf = true ∧ (Lit.int .i64 x.2.2.1).wf = true ∧ (Lit.int .i64 x.2.2.2.1).wf = true ∧ x.2.2.2.2.size ≤ maxLen
theorem open_ops {H : Type} {en : TypeId × Value → H} {sp : Nat → Bool} {held : Bool} {bs b0 : Nat} {r : Reach} {W : World} {v : Value} {d : DataW H} {ps : List MemPlace}
    (hval : Value.okWide Try.prog W r b0 44 v) (h : DataW.Trod en Try.prog W bs sp held 44 v d ps) :
    ∃ (A : Option Addr) (cap : Nat) (D : List OpR), v = .slice A D.length cap ∧ D.length ≤ cap ∧ cap ≤ maxLen ∧ Lay EO W A D ∧ ∀ x, x ∈ D → okO x :=
  enc.open_enc (E := EO) (ok := okO) (0, 0, 0, 0, ByteArray.empty) Try.underlying44 Try.underlying32 (by kernel_rfl) (by kernel_rfl) rfl
    (fun V hV => by
      obtain ⟨f0, y0, g0⟩ := hV 0 _ rfl
      obtain ⟨f1, y1, g1⟩ := hV 1 _ rfl
      obtain ⟨f2, y2, g2⟩ := hV 2 _ rfl
      obtain ⟨f3, y3, g3⟩ := hV 3 _ rfl
      obtain ⟨f4, y4, g4⟩ := hV 4 _ rfl
      obtain ⟨z0, a0, _, b0⟩ := DataW.trod_int Try.underlying3 g0
      obtain ⟨z1, a1, _, b1⟩ := DataW.trod_int Try.underlying3 g1
      obtain ⟨z2, a2, _, b2⟩ := DataW.trod_int Try.underlying3 g2
      obtain ⟨z3, a3, _, b3⟩ := DataW.trod_int Try.underlying3 g3
      obtain ⟨z4, a4, _, b4⟩ := DataW.trod_string Try.underlying9 g4
      simp at a0 a1 a2 a3 a4
      refine ⟨(z0, z1, z2, z3, z4), ⟨b0, b1, b2, b3, b4⟩, fun j hj => ?_⟩
      have hj : j < 5 := hj
      rcases j with _ | _ | _ | _ | _ | j
      · exact congrArg some a0.symm
      · exact congrArg some a1.symm
      · exact congrArg some a2.symm
      · exact congrArg some a3.symm
      · exact congrArg some a4.symm
      · omega) hval h
theorem open_frows {H : Type} {en : TypeId × Value → H} {sp : Nat → Bool} {held : Bool} {bs b0 : Nat} {r : Reach} {W : World} {v : Value} {d : DataW H} {ps : List MemPlace}
    (hval : Value.okWide Try.prog W r b0 45 v) (h : DataW.Trod en Try.prog W bs sp held 45 v d ps) :
    ∃ (A : Option Addr) (cap : Nat) (D : List FR), v = .slice A D.length cap ∧ D.length ≤ cap ∧ cap ≤ maxLen ∧ Lay EF W A D ∧ ∀ x, x ∈ D → x.1.size ≤ maxLen ∧ (Lit.int .i64 x.2).wf = true :=
  enc.open_enc (E := EF) (ok := fun x => x.1.size ≤ maxLen ∧ (Lit.int .i64 x.2).wf = true) (ByteArray.empty, 0) Try.underlying45 Try.underlying52 (by kernel_rfl) (by kernel_rfl) rfl
    (fun V hV => by
      obtain ⟨f0, y0, g0⟩ := hV 0 _ rfl
      obtain ⟨f1, y1, g1⟩ := hV 1 _ rfl
      obtain ⟨z0, a0, _, b0⟩ := DataW.trod_string Try.underlying9 g0
      obtain ⟨z1, a1, _, b1⟩ := DataW.trod_int Try.underlying3 g1
      simp at a0 a1
      refine ⟨(z0, z1), ⟨b0, b1⟩, fun j hj => ?_⟩
      have hj : j < 2 := hj
      rcases j with _ | _ | j
      · exact congrArg some a0.symm
      · exact congrArg some a1.symm
      · omega) hval h

theorem Gd.step {s : St} (g : Gd s) (k a d n : Int) (nm : ByteArray) : Gd (stepS s k a d n nm) := by
  unfold stepS
  split
  · exact g.add nm
  split
  · exact g.mint a n
  split
  · exact g.less a n
  split
  · exact g.move a d n
  split
  · exact g.hold a n
  split
  · exact g.give a n
  · exact g
end Go.Proofs.Ytkpnlcllmgobkaa.fk
