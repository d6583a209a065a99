/-
  VarintTells: what is written, what is wanted and where each thing ends, side by side.
-/
import Derived.Test.YtjbbphdjemdinaaVtJ
namespace Go.Proofs.Ytjbbphdjemdinaa.vi
open Go.RowKit
open base (ret_bool ret_int made up Nums Only Blk)
open bytes vnum
open rk (Enc)
set_option linter.unusedVariables false
set_option linter.unusedSimpArgs false
def EI : Enc Int := ⟨fun z => [.int .i64 z], 1, by decide, fun _ => rfl, by
  intro x v hv
  simp at hv
  rw [hv]
  rfl⟩
theorem TI : rk.Ty EI Try.prog 38 3 (.int .i64 0) 8 := ⟨Try.underlying38, by kernel_rfl, rfl, by decide⟩
/-- the bytes of some things -/
def BB (L : List Th) : List Nat := L.flatMap pe
theorem BB_nil : BB [] = [] := rfl
theorem BB_cons (t : Th) (L : List Th) : BB (t :: L) = pe t ++ BB L := by simp [BB]
theorem BB_app (L M : List Th) : BB (L ++ M) = BB L ++ BB M := by simp [BB]
theorem BB_next {L : List Th} {k : Nat} (h : k < L.length) : BB (L.take (k + 1)) = BB (L.take k) ++ pe L[k] := by
  rw [List.take_succ_eq_append_getElem h, BB_app, BB_cons, BB_nil, List.append_nil]
theorem BB_drop {L : List Th} {k : Nat} (h : k < L.length) : BB (L.drop k) = pe L[k] ++ BB (L.drop (k + 1)) := by
  rw [List.drop_eq_getElem_cons h, BB_cons]
theorem BB_cut (L : List Th) (k : Nat) : BB L = BB (L.take k) ++ BB (L.drop k) := by rw [← BB_app, List.take_append_drop]
structure Good (w : World) (o : Th) : Prop where
  ok : o.Ok w
  fit : Fits o
theorem pe_small {o : Th} : Small (pe o) := by
  unfold pe
  split
  · exact enc_small _
  split
  · exact small_app (enc_small _) (bs_small _)
  split
  · intro c hc
    simp at hc
    subst hc
    split <;> omega
  split
  · exact encs_small _
  · exact small_nil
theorem pe_len {w : World} {o : Th} (h : Good w o) : (pe o).length ≤ 420 := by
  obtain ⟨ok, f1, f2⟩ := h
  unfold pe
  split
  · have := enc_len ok.n.1 ok.n.2; omega
  split
  · have := enc_len (n := (o.s.size : Int)) (by omega) (by omega); rw [List.length_append, bs_len]; omega
  split
  · simp
  split
  · unfold encs
    have := enc_len (n := (o.zs.length : Int)) (by omega) (by omega)
    have := flat_len o.zs ok.z
    rw [List.length_append]
    omega
  · simp
theorem BB_small (L : List Th) : Small (BB L) := by
  induction L with
  | nil => exact small_nil
  | cons t L ih => rw [BB_cons]; exact small_app pe_small ih
theorem BB_len {w : World} : ∀ {L : List Th}, (∀ o ∈ L, Good w o) → (BB L).length ≤ 420 * L.length
  | [], _ => by simp [BB]
  | t :: L, h => by
    rw [BB_cons, List.length_append, List.length_cons]
    have := pe_len (h t (by simp))
    have := BB_len (L := L) (fun o ho => h o (by simp [ho]))
    omega
/-- where each of the first k things ends -/
def Zs (L : List Th) (k : Nat) : List Int := (List.range k).map fun j => ((BB (L.take (j + 1))).length : Int)
theorem Zs_len (L : List Th) (k : Nat) : (Zs L k).length = k := by simp [Zs]
theorem Zs_next (L : List Th) (k : Nat) : Zs L (k + 1) = Zs L k ++ [((BB (L.take (k + 1))).length : Int)] := by unfold Zs; rw [List.range_succ, List.map_append]; rfl
theorem Zs_get {L : List Th} {k j : Nat} (h : j < (Zs L k).length) : (Zs L k)[j] = ((BB (L.take (j + 1))).length : Int) := by simp [Zs]
theorem Th.Ok.below {w w' : World} {t : Th} (h : t.Ok w) (hb : Below w.heap.size w w') : t.Ok w' := ⟨h.n, h.z, base.Nums.keep h.nums hb⟩
theorem Th.Ok.apart {w w' : World} {t : Th} (h : t.Ok w) (hs : w.heap.size ≤ w'.heap.size) {g : Nat} {r : Option Nat} (hg : w.heap.size ≤ g) (hr : ∀ j, r = some j → w.heap.size ≤ j) : 0 < t.zs.length → Apart w' g r t.A := fun h0 ad e => by
  obtain ⟨b, off, e2, hlt, _⟩ := h.nums h0
  rw [e2] at e
  injection e with e
  subst e
  refine ⟨by show b < _; omega, by show b ≠ g; omega, fun e3 => ?_⟩
  have := hr b e3.symm
  omega
structure Md (w0 w : World) (g : Nat) (Bo Bw : List Nat) (Z : List Int) (vo vw ve : Value) : Prop where
  o : OutAt w g vo Bo
  og : ∀ j, vo.ownBlock = some j → w0.heap.size ≤ j
  want : Own w w0.heap.size vw Bw
  ends : rk.Own EI w w0.heap.size 3 ve Z
  ap : ∀ j, vw.ownBlock = some j → vo.ownBlock ≠ some j
  below : Below w0.heap.size w0 w
  gl : w0.heap.size ≤ g
variable {w0 w w' : World} {g : Nat} {Bo Bw : List Nat} {Z : List Int} {vo vw ve : Value}
theorem Md.step (h : Md w0 w g Bo Bw Z vo vw ve) (hb : Below w.heap.size w w') : Md w0 w' g Bo Bw Z vo vw ve :=
  ⟨h.o.below hb, h.og, h.want.below hb, h.ends.below hb, h.ap, h.below.trans (hb.mono h.below.size), h.gl⟩
theorem Md.ends_ne (h : Md w0 w g Bo Bw Z vo vw ve) {j : Nat} (hj : ve.ownBlock = some j) : j ≠ g ∧ vo.ownBlock ≠ some j ∧ vw.ownBlock ≠ some j := by
  obtain ⟨_, _, cs, hc⟩ := h.ends.lt' j hj
  refine ⟨fun e => ?_, own_ne h.o.2 hc (by decide), own_ne h.want hc (by decide)⟩
  subst e
  have h1 := h.o.1
  unfold Blk at hc h1
  rw [hc] at h1
  injection h1 with h1
  injection h1 with _ h2
  exact absurd h2 (by decide)
theorem Md.put (h : Md w0 w g Bo Bw Z vo vw ve) {Bo' : List Nat} {vo' : Value} (k : OutV w g vo.ownBlock w' Bo' vo') : Md w0 w' g Bo' Bw Z vo' vw ve := by
  have hwl := h.want.lt
  have hs := h.below.size
  refine ⟨k.at_, fun j hj => ?_, h.want.keep fun j hj => k.only.block j (hwl j hj).2 ?_, h.ends.keep fun j hj => k.only.block j (h.ends.lt' j hj).2.1 ?_, fun j hj => ?_, ?_, h.gl⟩
  · rcases k.row with e | ⟨i, e, hi⟩
    · exact h.og j (by rw [← e]; exact hj)
    · rw [e] at hj
      injection hj with hj
      subst hj
      omega
  · rintro (e | e)
    · exact own_ne h.want h.o.1 (by decide) (by rw [hj, e])
    · exact h.ap j hj e.symm
  · rintro (e | e)
    · exact (h.ends_ne hj).1 e
    · exact (h.ends_ne hj).2.1 e.symm
  · rcases k.row with e | ⟨i, e, hi⟩
    · rw [e]; exact h.ap j hj
    · rw [e]
      have := (hwl j hj).2
      intro e2
      injection e2 with e2
      omega
  · refine h.below.trans ((k.only.to_below (fun i hi => ?_) hs))
    rintro (e | e)
    · have := h.gl; omega
    · have := h.og i e.symm; omega
theorem Md.app (h : Md w0 w g Bo Bw Z vo vw ve) {Bw' : List Nat} {vw' : Value} (k : Own w' w0.heap.size vw' Bw') (hg : Grew w w' vw vw') : Md w0 w' g Bo Bw' Z vo vw' ve := by
  have hol := h.o.2.lt
  refine ⟨⟨Blk.grown h.o.1 hg.grown (fun e => own_ne h.want h.o.1 (by decide) e.symm), h.o.2.keep fun j hj => hg.grown.block j (hol j hj).2 (fun e => h.ap j e.symm hj)⟩, h.og, k, h.ends.keep fun j hj => hg.grown.block j (h.ends.lt' j hj).2.1 (fun e => (h.ends_ne hj).2.2 e.symm), fun j hj => ?_, h.below.trans (hg.below h.want h.below.size), h.gl⟩
  rcases hg.at_ with e | e
  · rw [e] at hj; exact h.ap j hj
  · rw [e] at hj
    injection hj with hj
    subst hj
    intro e2
    have := (hol _ e2).2
    omega
theorem Md.end_ (h : Md w0 w g Bo Bw Z vo vw ve) {Z' : List Int} {ve' : Value} (k : rk.Own EI w' w0.heap.size 3 ve' Z') (hg : rk.Grew w w' ve ve') : Md w0 w' g Bo Bw Z' vo vw ve' := by
  have hol := h.o.2.lt
  have hwl := h.want.lt
  refine ⟨⟨Blk.grown h.o.1 hg.grown (fun e => (h.ends_ne e.symm).1 rfl), h.o.2.keep fun j hj => hg.grown.block j (hol j hj).2 (fun e => (h.ends_ne e.symm).2.1 hj)⟩, h.og, h.want.keep fun j hj => hg.grown.block j (hwl j hj).2 (fun e => (h.ends_ne e.symm).2.2 hj), k, h.ap, h.below.trans (hg.below h.ends h.below.size), h.gl⟩
end Go.Proofs.Ytjbbphdjemdinaa.vi
