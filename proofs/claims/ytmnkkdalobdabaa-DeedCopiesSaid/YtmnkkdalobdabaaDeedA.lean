/-
  Contracts of package deed: where one is found.
-/
import Derived.Test.YtmnkkdalobdabaaDspec
import Derived.StillTailTactics
import Derived.Deep.RegionHeld
namespace Go.Proofs.Ytmnkkdalobdabaa.dd
open Go.RowKit
open base (ret_bool ret_int made up Blk Only Nums)
open rk
set_option linter.unusedVariables false
set_option linter.unusedSimpArgs false

theorem asz (w : World) (o : Obj) : (w.alloc o).heap.size = w.heap.size + 1 := by first | exact Array.size_push _ | simp
theorem TD : Ty E3 Try.prog 49 40 (.agg #[.int .i64 0, .int .i64 0, .int .i64 0]) 24 := ⟨Try.underlying49, by kernel_rfl, rfl, by decide⟩
theorem TR : Ty E3 Try.prog 26 45 (.agg #[.int .i64 0, .int .i64 0, .int .i64 0]) 24 := ⟨Try.underlying26, by kernel_rfl, rfl, by decide⟩
theorem TI : Ty E1 Try.prog 46 3 (.int .i64 0) 8 := ⟨Try.underlying46, by kernel_rfl, rfl, by decide⟩
theorem lay3 {w : World} {A : Option Addr} {L : List D} (h : Lay E3 w A L) {k : Nat} (hk : k < L.length) : ∃ b off, A = some ⟨b, off, none⟩ ∧ w.cell? ⟨b, off + k * 3, none⟩ = some (.int .i64 L[k].1) ∧ w.cell? ⟨b, off + k * 3 + 1, none⟩ = some (.int .i64 L[k].2.1) ∧ w.cell? ⟨b, off + k * 3 + 2, none⟩ = some (.int .i64 L[k].2.2) := by
  obtain ⟨b, off, e, _, hc⟩ := h (by omega)
  exact ⟨b, off, e, hc k hk 0 (by decide), hc k hk 1 (by decide), hc k hk 2 (by decide)⟩
def Upto (p : D → Bool) (L : List D) (k : Nat) : Prop := ∀ j (h : j < L.length), j < k → p L[j] = false
theorem Upto.zero (p : D → Bool) (L : List D) : Upto p L 0 := fun j _ h => by omega
theorem Upto.succ {p : D → Bool} {L : List D} {k : Nat} (h : Upto p L k) (hk : k < L.length) (hp : p L[k] = false) : Upto p L (k + 1) := fun j hj h2 => by
  by_cases e : j = k
  · subst e; exact hp
  · exact h j hj (by omega)
theorem Upto.found {p : D → Bool} {L : List D} {k : Nat} (h : Upto p L k) (hk : k < L.length) (hp : p L[k] = true) : fi p L = some k := fi_eq ⟨hk, hp, fun j hj => h j (by omega) hj⟩
theorem Upto.none {p : D → Bool} {L : List D} {k : Nat} (h : Upto p L k) (hk : L.length ≤ k) : fi p L = none := fi_eq (fun j hj => h j hj (by omega))
theorem fi_lt {p : D → Bool} {L : List D} {i : Nat} (h : fi p L = some i) : i < L.length := by
  have := fi_is p L
  rw [h] at this
  exact this.1

/-- deeds stand at g -/
structure DAt (w : World) (B g : Nat) (L : List D) (nx : Int) : Prop where
  ex : ∃ v, Blk w g 58 #[v, .int .i64 nx] ∧ Own E3 w B 40 v L
  ge : B ≤ g
theorem DAt.lt {w : World} {B g : Nat} {L : List D} {nx : Int} (h : DAt w B g L nx) : g < w.heap.size := by
  obtain ⟨v, hb, _⟩ := h.ex
  exact hb.lt
theorem DAt.below {w w' : World} {B g : Nat} {L : List D} {nx : Int} (h : DAt w B g L nx) (hb : Below w.heap.size w w') : DAt w' B g L nx := by
  obtain ⟨v, h1, h2⟩ := h.ex
  exact ⟨⟨v, h1.below hb h1.lt, h2.below hb⟩, h.ge⟩
theorem DAt.open_ {w : World} {B g : Nat} {L : List D} {nx : Int} (h : DAt w B g L nx) : ∃ A c, Blk w g 58 #[.slice A L.length c, .int .i64 nx] ∧ Own E3 w B 40 (.slice A L.length c) L ∧ Lay E3 w A L ∧ L.length ≤ c ∧ c ≤ 9223372036854775807 := by
  obtain ⟨v, h1, h2⟩ := h.ex
  obtain ⟨A, c, rfl, h3, h4⟩ := h2.open_
  exact ⟨A, c, h1, h2, h3, h4⟩
theorem own_ne {w : World} {B g : Nat} {v : Value} {L : List D} {cs : Array Value} (ho : Own E3 w B 40 v L) (hb : Blk w g 58 cs) : ∀ k, v.ownBlock = some k → k ≠ g := by
  rintro k hk rfl
  obtain ⟨_, _, cs', h1⟩ := ho.lt' k hk
  unfold Blk at h1 hb
  rw [h1] at hb
  injection hb with hb
  injection hb with _ ht
  exact absurd ht (by decide)

set_option maxHeartbeats 1000000 in
theorem is_id (d0 d1 d2 n : Int) (bx : Nat) (w : World) (hb : Blk w bx 3 #[.int .i64 n]) :
    Calls Try.prog 38 #[(.agg #[.int .i64 d0, .int .i64 d1, .int .i64 d2]), .pointer (some ⟨bx, 0, none⟩)] w fun e w' => e = .returned (.bool (isId n (d0, d1, d2))) ∧ Below w.heap.size w w' := by
  have hm := Lib.hid (made w (.cells #[.int .i64 d0, .int .i64 d1, .int .i64 d2] 40))
  have c0 := (hb.alloc (.cells #[.int .i64 d0, .int .i64 d1, .int .i64 d2] 40)).cell 0
  clear hb
  go_enter Try.func38, Try.ntmps38
  go_wp2_with fail
  go_ret
  exact ⟨rfl, hm.out⟩
set_option maxRecDepth 100000 in
set_option maxHeartbeats 2000000 in
theorem index_id (A : Option Addr) (c : Nat) (L : List D) (n : Int) (bx : Nat) (w : World) (hA : Lay E3 w A L) (hb : Blk w bx 3 #[.int .i64 n]) (hl : L.length ≤ 100000) :
    Calls Try.prog 39 #[.slice A L.length c, .func (.func 38) #[] #[.pointer (some ⟨bx, 0, none⟩)]] w fun e w' => e = .returned (.int .i64 (ix (fi (isId n) L))) ∧ Below w.heap.size w w' := by
  have HA := Lib.hid hA
  have HB := Lib.hid hb
  clear hA hb
  go_enter Try.func39, Try.ntmps39
  go_wp2_with fail
  go_loopw [8] (fun i wr => ∃ (k : Nat) (W : World), W = wr ∧ k ≤ L.length ∧ i = .int .i64 k ∧ Upto (isId n) L k ∧ Below w.heap.size w wr) (fun i _ => L.length - (intOf i).toNat)
  case atStart => exact ⟨0, _, rfl, by omega, rfl, Upto.zero _ _, Below.refl _ _⟩
  case round =>
    obtain ⟨k, w2, rfl, hk, rfl, hno, hb2⟩ := hrel
    have B2 := Lib.hid hb2
    have NO := Lib.hid hno
    by_cases hkl : k < L.length
    · obtain ⟨b, off, rfl, e0, e1, e2⟩ := lay3 (HA.out.below hb2) hkl
      obtain ⟨d, hd⟩ : ∃ d, d = L[k] := ⟨_, rfl⟩
      rw [← hd] at e0 e1 e2
      have DD := Lib.hid hd
      clear hd hb2 hno
      obtain ⟨d0, d1, d2⟩ := d
      dsimp only at e0 e1 e2
      have IS := Lib.hid (is_id d0 d1 d2 n bx w2 (HB.out.below B2.out HB.out.lt))
      obtain ⟨q, hq⟩ : ∃ q, q = isId n (d0, d1, d2) := ⟨_, rfl⟩
      rw [← hq] at IS
      rw [DD.out] at hq
      have Q := Lib.hid hq
      clear hq
      cases q with
      | true =>
        go_wp2_with fail
        refine IS.out.mono ?_
        rintro e w3 ⟨rfl, hb3⟩
        have B3 := Lib.hid (up B2.out hb3 B2.out.size)
        clear hb3 IS e0 e1 e2
        go_wp2_with fail
        go_ret
        exact ⟨by rw [NO.out.found hkl Q.out.symm]; rfl, B3.out⟩
      | false =>
        go_wp2_with fail
        refine IS.out.mono ?_
        rintro e w3 ⟨rfl, hb3⟩
        have B3 := Lib.hid (up B2.out hb3 B2.out.size)
        clear hb3 IS e0 e1 e2
        go_wp2_with fail
        refine ⟨⟨k + 1, _, rfl, by omega, by go_num, NO.out.succ hkl Q.out.symm, B3.out⟩, by simp [intOf]; omega⟩
    · clear hb2 hno
      go_wp2_with fail
      go_ret
      exact ⟨by rw [NO.out.none (by omega)]; rfl, B2.out⟩
theorem ix_ge (o : Option Nat) : decide (0 ≤ ix o) = o.isSome := by cases o <;> simp [ix]
set_option maxHeartbeats 1000000 in
theorem find_id (B g : Nat) (L : List D) (nx n : Int) (bx : Nat) (w : World) (h : DAt w B g L nx) (hb : Blk w bx 3 #[.int .i64 n]) (hl : L.length ≤ 100000) :
    Calls Try.prog 33 #[.pointer (some ⟨g, 0, none⟩), .func (.func 38) #[] #[.pointer (some ⟨bx, 0, none⟩)]] w fun e w' => e = .returned (.tuple #[.int .i64 (ix (fi (isId n) L)), .bool (fi (isId n) L).isSome]) ∧ Below w.heap.size w w' := by
  obtain ⟨A, c, h1, _, h2, _⟩ := h.open_
  have IX := Lib.hid (index_id A c L n bx w h2 hb hl)
  have c0 := h1.cell 0
  clear h hb h1 h2
  have GE := Lib.hid (ix_ge (fi (isId n) L))
  generalize fi (isId n) L = o at *
  go_enter Try.func33, Try.ntmps33
  go_wp2_with fail
  refine IX.out.mono ?_
  rintro e w' ⟨rfl, hb⟩
  have B := Lib.hid hb
  clear hb c0 IX
  go_wp2_with fail
  go_ret2
  exact ⟨congrArg (fun b => Ending.returned (.tuple #[.int .i64 (ix o), .bool b])) GE.out, B.out⟩

set_option maxHeartbeats 1000000 in
theorem is_plot (d0 d1 d2 n : Int) (bx : Nat) (w : World) (hb : Blk w bx 3 #[.int .i64 n]) :
    Calls Try.prog 34 #[(.agg #[.int .i64 d0, .int .i64 d1, .int .i64 d2]), .pointer (some ⟨bx, 0, none⟩)] w fun e w' => e = .returned (.bool (isPlot n (d0, d1, d2))) ∧ Below w.heap.size w w' := by
  have hm := Lib.hid (made w (.cells #[.int .i64 d0, .int .i64 d1, .int .i64 d2] 40))
  have c0 := (hb.alloc (.cells #[.int .i64 d0, .int .i64 d1, .int .i64 d2] 40)).cell 0
  clear hb
  go_enter Try.func34, Try.ntmps34
  go_wp2_with fail
  go_ret
  exact ⟨rfl, hm.out⟩
set_option maxRecDepth 100000 in
set_option maxHeartbeats 2000000 in
theorem index_plot (A : Option Addr) (c : Nat) (L : List D) (n : Int) (bx : Nat) (w : World) (hA : Lay E3 w A L) (hb : Blk w bx 3 #[.int .i64 n]) (hl : L.length ≤ 100000) :
    Calls Try.prog 39 #[.slice A L.length c, .func (.func 34) #[] #[.pointer (some ⟨bx, 0, none⟩)]] w fun e w' => e = .returned (.int .i64 (ix (fi (isPlot n) L))) ∧ Below w.heap.size w w' := by
  have HA := Lib.hid hA
  have HB := Lib.hid hb
  clear hA hb
  go_enter Try.func39, Try.ntmps39
  go_wp2_with fail
  go_loopw [8] (fun i wr => ∃ (k : Nat) (W : World), W = wr ∧ k ≤ L.length ∧ i = .int .i64 k ∧ Upto (isPlot n) L k ∧ Below w.heap.size w wr) (fun i _ => L.length - (intOf i).toNat)
  case atStart => exact ⟨0, _, rfl, by omega, rfl, Upto.zero _ _, Below.refl _ _⟩
  case round =>
    obtain ⟨k, w2, rfl, hk, rfl, hno, hb2⟩ := hrel
    have B2 := Lib.hid hb2
    have NO := Lib.hid hno
    by_cases hkl : k < L.length
    · obtain ⟨b, off, rfl, e0, e1, e2⟩ := lay3 (HA.out.below hb2) hkl
      obtain ⟨d, hd⟩ : ∃ d, d = L[k] := ⟨_, rfl⟩
      rw [← hd] at e0 e1 e2
      have DD := Lib.hid hd
      clear hd hb2 hno
      obtain ⟨d0, d1, d2⟩ := d
      dsimp only at e0 e1 e2
      have IS := Lib.hid (is_plot d0 d1 d2 n bx w2 (HB.out.below B2.out HB.out.lt))
      obtain ⟨q, hq⟩ : ∃ q, q = isPlot n (d0, d1, d2) := ⟨_, rfl⟩
      rw [← hq] at IS
      rw [DD.out] at hq
      have Q := Lib.hid hq
      clear hq
      cases q with
      | true =>
        go_wp2_with fail
        refine IS.out.mono ?_
        rintro e w3 ⟨rfl, hb3⟩
        have B3 := Lib.hid (up B2.out hb3 B2.out.size)
        clear hb3 IS e0 e1 e2
        go_wp2_with fail
        go_ret
        exact ⟨by rw [NO.out.found hkl Q.out.symm]; rfl, B3.out⟩
      | false =>
        go_wp2_with fail
        refine IS.out.mono ?_
        rintro e w3 ⟨rfl, hb3⟩
        have B3 := Lib.hid (up B2.out hb3 B2.out.size)
        clear hb3 IS e0 e1 e2
        go_wp2_with fail
        refine ⟨⟨k + 1, _, rfl, by omega, by go_num, NO.out.succ hkl Q.out.symm, B3.out⟩, by simp [intOf]; omega⟩
    · clear hb2 hno
      go_wp2_with fail
      go_ret
      exact ⟨by rw [NO.out.none (by omega)]; rfl, B2.out⟩
set_option maxHeartbeats 1000000 in
theorem find_plot (B g : Nat) (L : List D) (nx n : Int) (bx : Nat) (w : World) (h : DAt w B g L nx) (hb : Blk w bx 3 #[.int .i64 n]) (hl : L.length ≤ 100000) :
    Calls Try.prog 33 #[.pointer (some ⟨g, 0, none⟩), .func (.func 34) #[] #[.pointer (some ⟨bx, 0, none⟩)]] w fun e w' => e = .returned (.tuple #[.int .i64 (ix (fi (isPlot n) L)), .bool (fi (isPlot n) L).isSome]) ∧ Below w.heap.size w w' := by
  obtain ⟨A, c, h1, _, h2, _⟩ := h.open_
  have IX := Lib.hid (index_plot A c L n bx w h2 hb hl)
  have c0 := h1.cell 0
  clear h hb h1 h2
  have GE := Lib.hid (ix_ge (fi (isPlot n) L))
  generalize fi (isPlot n) L = o at *
  go_enter Try.func33, Try.ntmps33
  go_wp2_with fail
  refine IX.out.mono ?_
  rintro e w' ⟨rfl, hb⟩
  have B := Lib.hid hb
  clear hb c0 IX
  go_wp2_with fail
  go_ret2
  exact ⟨congrArg (fun b => Ending.returned (.tuple #[.int .i64 (ix o), .bool b])) GE.out, B.out⟩
end Go.Proofs.Ytmnkkdalobdabaa.dd
