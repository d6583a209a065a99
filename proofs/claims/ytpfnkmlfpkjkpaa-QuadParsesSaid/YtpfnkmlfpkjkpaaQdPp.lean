/-
  Quads: what is parsed is laid out as a grid again: lemmas.
-/
import Derived.Test.YtpfnkmlfpkjkpaaQdRb
import Derived.Test.YtpfnkmlfpkjkpaaQdLc
import Derived.Test.YtpfnkmlfpkjkpaaQdO2
import Derived.Test.YtpfnkmlfpkjkpaaQdAl
import Derived.Test.YtpfnkmlfpkjkpaaHeldIn
namespace Go.Proofs.Ytpfnkmlfpkjkpaa.qd
open Go.RowKit Go.Shelf
open base (ret_bool ret_int made up Blk Only Nums)
set_option linter.unusedVariables false
set_option linter.unusedSimpArgs false
attribute [local go_sem] Oper.semAt_some

theorem nats {w : World} {A : Option Addr} {zs : List Int} (h : Nums .u8 w A zs) (hw : ∀ n ∈ zs, (Lit.int .u8 n).wf = true) : ∃ l : List Nat, zs.length = l.length ∧ bytes.Lay w A l ∧ bytes.Small l := by
  have hz : ∀ n ∈ zs, 0 ≤ n ∧ n ≤ 255 := fun n hn => by simpa [Lit.wf, IntKind.min, IntKind.max, IntKind.signed, IntKind.bits] using hw n hn
  refine ⟨zs.map Int.toNat, by simp, ?_, ?_⟩
  · have e : bytes.ints (zs.map Int.toNat) = zs := by
      unfold bytes.ints
      rw [List.map_map]
      conv => rhs; rw [← List.map_id zs]
      apply List.map_congr_left
      intro n hn
      have := hz n hn
      show ((n.toNat : Nat) : Int) = n
      omega
    unfold bytes.Lay
    rw [e]
    exact h
  · intro c hc
    obtain ⟨n, hn, rfl⟩ := List.mem_map.1 hc
    have := hz n hn
    omega
set_option maxHeartbeats 1000000 in
theorem qparse_three (A : Option Addr) (n c : Nat) (w : World) : Calls Try.prog 22 #[.slice A n c, .int .i64 3] w fun e w' => e = .returned (.tuple #[.pointer none, .bool false]) ∧ w' = w := by
  have NW := Lib.hid (new_no 3 w (by omega) (by omega) (fun k hk e => by
    rcases (show k = 0 ∨ k = 1 ∨ k = 2 ∨ k = 3 ∨ k = 4 ∨ k = 5 ∨ k = 6 ∨ k = 7 ∨ k = 8 by omega) with rfl | rfl | rfl | rfl | rfl | rfl | rfl | rfl | rfl <;> revert e <;> decide))
  go_enter Try.func22, Try.ntmps22
  go_wp2_with fail
  refine NW.out.mono ?_
  rintro e w1 ⟨rfl, rfl⟩
  go_wp2_with fail
  exact bodyPost_ret (v := .tuple #[.pointer none, .bool false]) (by simp [results, Try.results22, go_sem]) rfl ⟨rfl, rfl⟩
/-- the law's grid behind m leaves; D: where the loop's own blocks begin -/
structure PJ (w : World) (GB D : Nat) (q : Q) (k : Nat) (L : List Nat) (Ag : Option Addr) (cg m : Nat) (W : World) : Prop where
  gb : Blk W GB 28 #[.int .i64 ((2 ^ k : Nat) : Int), .slice Ag L.length cg]
  lay : rk.Lay E1 W Ag L
  gr : GR q k L m
  own : ∀ b off, Ag = some ⟨b, off, none⟩ → b ≠ GB ∧ b ≠ D + 1
  below : Below w.heap.size w W
  lo : w.heap.size ≤ GB ∧ GB < D
section
variable {w W W' : World} {GB D k m cg : Nat} {q : Q} {L : List Nat} {Ag : Option Addr}
theorem PJ.keep (h : PJ w GB D q k L Ag cg m W) (hb : Below W.heap.size W W') : PJ w GB D q k L Ag cg m W' :=
  ⟨h.gb.below hb h.gb.lt, h.lay.below hb, h.gr, h.own, up h.below hb h.below.size, h.lo⟩
theorem PJ.loop (h : PJ w GB D q k L Ag cg m W) (ho : Only (fun j => j = D + 1) W W') : PJ w GB D q k L Ag cg m W' := by
  have hlo := h.lo
  refine ⟨h.gb.only ho (by omega), h.lay.keep (fun b hlt hb => ?_), h.gr, h.own, h.below.trans (Only.to_below ho (fun i hi e => by omega) h.below.size), hlo⟩
  obtain ⟨off, e⟩ := hb
  exact ho.block b hlt (h.own b off e).2
/-- the grid that Set told is stored -/
theorem PJ.put {A' : Option Addr} {c' d4 : Nat} {d1 d2 d3 : Int} (h : PJ w GB D q k L Ag cg m W) (hf : q.fits k) (hm : m < (lw q k).length) (hd : (lw q k).getD m dfl = (d1, d2, d3, d4)) (hD : D + 1 < W.heap.size)
    (hl : rk.Lay E1 W' A' (gset (2 ^ k) d1 d2 d3 d3 d4 L)) (ha : ∀ b off, A' = some ⟨b, off, none⟩ → W.heap.size ≤ b) (hb : Below W.heap.size W W') :
    PJ w GB D q k (gset (2 ^ k) d1 d2 d3 d3 d4 L) A' c' (m + 1) ((W'.setCell ⟨GB, 0, none⟩ (.int .i64 ((2 ^ k : Nat) : Int))).setCell ⟨GB, 1, none⟩ (.slice A' L.length c')) ∧
    Only (fun j => j = GB) W ((W'.setCell ⟨GB, 0, none⟩ (.int .i64 ((2 ^ k : Nat) : Int))).setCell ⟨GB, 1, none⟩ (.slice A' L.length c')) := by
  have hlo := h.lo
  have hg := h.gb.lt
  have ho2 : Only (fun j => j = GB) W' ((W'.setCell ⟨GB, 0, none⟩ (.int .i64 ((2 ^ k : Nat) : Int))).setCell ⟨GB, 1, none⟩ (.slice A' L.length c')) := ((Only.refl (fun j => j = GB) W').setCell (p := ⟨GB, 0, none⟩) (.inl rfl) _).setCell (p := ⟨GB, 1, none⟩) (.inl rfl) _
  have ho1 : Only (fun j => j = GB) W W' := (Only.refl (fun j => j = GB) W).below hb (fun i hi e => by omega)
  have gn := GR.next hf h.gr hm
  rw [hd] at gn
  refine ⟨⟨?_, hl.keep (fun b hlt hbb => ?_), gn, fun b off e => ?_, ?_, hlo⟩, ho1.trans ho2 (fun _ _ e => e)⟩
  · have := ((h.gb.below hb hg).put 0 (.int .i64 ((2 ^ k : Nat) : Int))).put 1 (.slice A' L.length c')
    rw [gset_length]
    exact this
  · obtain ⟨off, e⟩ := hbb
    have := ha b off e
    exact ho2.block b hlt (by omega)
  · have := ha b off e
    exact ⟨by omega, by omega⟩
  · exact (up h.below hb h.below.size).trans (Only.to_below (B := w.heap.size) ho2 (fun i hi e => by omega) (Nat.le_trans h.below.size hb.size))
end
end Go.Proofs.Ytpfnkmlfpkjkpaa.qd
