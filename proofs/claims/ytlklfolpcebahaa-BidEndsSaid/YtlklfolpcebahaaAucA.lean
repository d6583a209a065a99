/-
  Contracts of package bid: where one is found.
-/
import Derived.Test.YtlklfolpcebahaaAucspec
import Derived.StillTailTactics
import Derived.Deep.RegionHeld
namespace Go.Proofs.Ytlklfolpcebahaa.bb
open Go.RowKit
open base (ret_bool ret_int made up Blk Only Nums)
open rk
set_option linter.unusedVariables false
set_option linter.unusedSimpArgs false

theorem asz (w : World) (o : Obj) : (w.alloc o).heap.size = w.heap.size + 1 := by first | exact Array.size_push _ | simp
theorem TD : Ty E7 Try.prog 56 35 (.agg #[.int .i64 0, .int .i64 0, .int .i64 0, .int .i64 0, .int .i64 0, .int .i64 0, .int .i64 0]) 56 := ⟨Try.underlying56, by kernel_rfl, rfl, by decide⟩
theorem TR : Ty E7 Try.prog 26 52 (.agg #[.int .i64 0, .int .i64 0, .int .i64 0, .int .i64 0, .int .i64 0, .int .i64 0, .int .i64 0]) 56 := ⟨Try.underlying26, by kernel_rfl, rfl, by decide⟩
theorem lay7 {w : World} {A : Option Addr} {L : List D} (h : Lay E7 w A L) {k : Nat} (hk : k < L.length) : ∃ b off, A = some ⟨b, off, none⟩ ∧ w.cell? ⟨b, off + k * 7, none⟩ = some (.int .i64 L[k].1) ∧ w.cell? ⟨b, off + k * 7 + 1, none⟩ = some (.int .i64 L[k].2.1) ∧ w.cell? ⟨b, off + k * 7 + 2, none⟩ = some (.int .i64 L[k].2.2.1) ∧ w.cell? ⟨b, off + k * 7 + 3, none⟩ = some (.int .i64 L[k].2.2.2.1) ∧ w.cell? ⟨b, off + k * 7 + 4, none⟩ = some (.int .i64 L[k].2.2.2.2.1) ∧ w.cell? ⟨b, off + k * 7 + 5, none⟩ = some (.int .i64 L[k].2.2.2.2.2.1) ∧ w.cell? ⟨b, off + k * 7 + 6, none⟩ = some (.int .i64 L[k].2.2.2.2.2.2) := by
  obtain ⟨b, off, e, _, hc⟩ := h (by omega)
  exact ⟨b, off, e, hc k hk 0 (by decide), hc k hk 1 (by decide), hc k hk 2 (by decide), hc k hk 3 (by decide), hc k hk 4 (by decide), hc k hk 5 (by decide), hc k hk 6 (by decide)⟩
def Upto (p : D → Bool) (L : List D) (k : Nat) : Prop := ∀ j (h : j < L.length), j < k → p L[j] = false
theorem Upto.zero (p : D → Bool) (L : List D) : Upto p L 0 := fun j _ h => by omega
theorem Upto.succ {p : D → Bool} {L : List D} {k : Nat} (h : Upto p L k) (hk : k < L.length) (hp : p L[k] = false) : Upto p L (k + 1) := fun j hj h2 => by
  by_cases e : j = k
  · subst e; exact hp
  · exact h j hj (by omega)
theorem Upto.found {p : D → Bool} {L : List D} {k : Nat} (h : Upto p L k) (hk : k < L.length) (hp : p L[k] = true) : fi p L = some k := fi_eq ⟨hk, hp, fun j hj => h j (by omega) hj⟩
theorem Upto.none {p : D → Bool} {L : List D} {k : Nat} (h : Upto p L k) (hk : L.length ≤ k) : fi p L = none := fi_eq (fun j hj => h j hj (by omega))
theorem fi_lt {p : D → Bool} {L : List D} {i : Nat} (h : fi p L = some i) : i < L.length := by
  have := fi_is p L
  rw [h] at this
  exact this.1

/-- deeds stand at g -/
structure DAt (w : World) (B g : Nat) (L : List D) (nx : Int) : Prop where
  ex : ∃ v, Blk w g 58 #[v, .int .i64 nx] ∧ Own E7 w B 35 v L
  ge : B ≤ g
theorem DAt.lt {w : World} {B g : Nat} {L : List D} {nx : Int} (h : DAt w B g L nx) : g < w.heap.size := by
  obtain ⟨v, hb, _⟩ := h.ex
  exact hb.lt
theorem DAt.below {w w' : World} {B g : Nat} {L : List D} {nx : Int} (h : DAt w B g L nx) (hb : Below w.heap.size w w') : DAt w' B g L nx := by
  obtain ⟨v, h1, h2⟩ := h.ex
  exact ⟨⟨v, h1.below hb h1.lt, h2.below hb⟩, h.ge⟩
theorem DAt.open_ {w : World} {B g : Nat} {L : List D} {nx : Int} (h : DAt w B g L nx) : ∃ A c, Blk w g 58 #[.slice A L.length c, .int .i64 nx] ∧ Own E7 w B 35 (.slice A L.length c) L ∧ Lay E7 w A L ∧ L.length ≤ c ∧ c ≤ 9223372036854775807 := by
  obtain ⟨v, h1, h2⟩ := h.ex
  obtain ⟨A, c, rfl, h3, h4⟩ := h2.open_
  exact ⟨A, c, h1, h2, h3, h4⟩
theorem own_ne {w : World} {B g : Nat} {v : Value} {L : List D} {cs : Array Value} (ho : Own E7 w B 35 v L) (hb : Blk w g 58 cs) : ∀ k, v.ownBlock = some k → k ≠ g := by
  rintro k hk rfl
  obtain ⟨_, _, cs', h1⟩ := ho.lt' k hk
  unfold Blk at h1 hb
  rw [h1] at hb
  injection hb with hb
  injection hb with _ ht
  exact absurd ht (by decide)

set_option maxHeartbeats 1000000 in
theorem is_id (d0 d1 d2 d3 d4 d5 d6 n : Int) (bx : Nat) (w : World) (hb : Blk w bx 3 #[.int .i64 n]) :
    Calls Try.prog 40 #[(.agg #[.int .i64 d0, .int .i64 d1, .int .i64 d2, .int .i64 d3, .int .i64 d4, .int .i64 d5, .int .i64 d6]), .pointer (some ⟨bx, 0, none⟩)] w fun e w' => e = .returned (.bool (isId n (d0, d1, d2, d3, d4, d5, d6))) ∧ Below w.heap.size w w' := by
  have hm := Lib.hid (made w (.cells #[.int .i64 d0, .int .i64 d1, .int .i64 d2, .int .i64 d3, .int .i64 d4, .int .i64 d5, .int .i64 d6] 35))
  have c0 := (hb.alloc (.cells #[.int .i64 d0, .int .i64 d1, .int .i64 d2, .int .i64 d3, .int .i64 d4, .int .i64 d5, .int .i64 d6] 35)).cell 0
  clear hb
  go_enter Try.func40, Try.ntmps40
  go_wp2_with fail
  go_ret
  exact ⟨rfl, hm.out⟩
set_option maxRecDepth 100000 in
set_option maxHeartbeats 2000000 in
theorem index_id (A : Option Addr) (c : Nat) (L : List D) (n : Int) (bx : Nat) (w : World) (hA : Lay E7 w A L) (hb : Blk w bx 3 #[.int .i64 n]) (hl : L.length ≤ 100000) :
    Calls Try.prog 41 #[.slice A L.length c, .func (.func 40) #[] #[.pointer (some ⟨bx, 0, none⟩)]] w fun e w' => e = .returned (.int .i64 (ix (fi (isId n) L))) ∧ Below w.heap.size w w' := by
  have HA := Lib.hid hA
  have HB := Lib.hid hb
  clear hA hb
  go_enter Try.func41, Try.ntmps41
  go_wp2_with fail
  go_loopw [8] (fun i wr => ∃ (k : Nat) (W : World), W = wr ∧ k ≤ L.length ∧ i = .int .i64 k ∧ Upto (isId n) L k ∧ Below w.heap.size w wr) (fun i _ => L.length - (intOf i).toNat)
  case atStart => exact ⟨0, _, rfl, by omega, rfl, Upto.zero _ _, Below.refl _ _⟩
  case round =>
    obtain ⟨k, w2, rfl, hk, rfl, hno, hb2⟩ := hrel
    have B2 := Lib.hid hb2
    have NO := Lib.hid hno
    by_cases hkl : k < L.length
    · obtain ⟨b, off, rfl, e0, e1, e2, e3, e4, e5, e6⟩ := lay7 (HA.out.below hb2) hkl
      obtain ⟨d, hd⟩ : ∃ d, d = L[k] := ⟨_, rfl⟩
      rw [← hd] at e0 e1 e2 e3 e4 e5 e6
      have DD := Lib.hid hd
      clear hd hb2 hno
      obtain ⟨d0, d1, d2, d3, d4, d5, d6⟩ := d
      dsimp only at e0 e1 e2 e3 e4 e5 e6
      have IS := Lib.hid (is_id d0 d1 d2 d3 d4 d5 d6 n bx w2 (HB.out.below B2.out HB.out.lt))
      obtain ⟨q, hq⟩ : ∃ q, q = isId n (d0, d1, d2, d3, d4, d5, d6) := ⟨_, rfl⟩
      rw [← hq] at IS
      rw [DD.out] at hq
      have Q := Lib.hid hq
      clear hq
      cases q with
      | true =>
        go_wp2_with fail
        refine IS.out.mono ?_
        rintro e w3 ⟨rfl, hb3⟩
        have B3 := Lib.hid (up B2.out hb3 B2.out.size)
        clear hb3 IS e0 e1 e2 e3 e4 e5 e6
        go_wp2_with fail
        go_ret
        exact ⟨by rw [NO.out.found hkl Q.out.symm]; rfl, B3.out⟩
      | false =>
        go_wp2_with fail
        refine IS.out.mono ?_
        rintro e w3 ⟨rfl, hb3⟩
        have B3 := Lib.hid (up B2.out hb3 B2.out.size)
        clear hb3 IS e0 e1 e2 e3 e4 e5 e6
        go_wp2_with fail
        refine ⟨⟨k + 1, _, rfl, by omega, by go_num, NO.out.succ hkl Q.out.symm, B3.out⟩, by simp [intOf]; omega⟩
    · clear hb2 hno
      go_wp2_with fail
      go_ret
      exact ⟨by rw [NO.out.none (by omega)]; rfl, B2.out⟩
theorem ix_ge (o : Option Nat) : decide (0 ≤ ix o) = o.isSome := by cases o <;> simp [ix]
set_option maxHeartbeats 1000000 in
theorem find_id (B g : Nat) (L : List D) (nx n : Int) (bx : Nat) (w : World) (h : DAt w B g L nx) (hb : Blk w bx 3 #[.int .i64 n]) (hl : L.length ≤ 100000) :
    Calls Try.prog 30 #[.pointer (some ⟨g, 0, none⟩), .func (.func 40) #[] #[.pointer (some ⟨bx, 0, none⟩)]] w fun e w' => e = .returned (.tuple #[.int .i64 (ix (fi (isId n) L)), .bool (fi (isId n) L).isSome]) ∧ Below w.heap.size w w' := by
  obtain ⟨A, c, h1, _, h2, _⟩ := h.open_
  have IX := Lib.hid (index_id A c L n bx w h2 hb hl)
  have c0 := h1.cell 0
  clear h hb h1 h2
  have GE := Lib.hid (ix_ge (fi (isId n) L))
  generalize fi (isId n) L = o at *
  go_enter Try.func30, Try.ntmps30
  go_wp2_with fail
  refine IX.out.mono ?_
  rintro e w' ⟨rfl, hb⟩
  have B := Lib.hid hb
  clear hb c0 IX
  go_wp2_with fail
  go_ret2
  exact ⟨congrArg (fun b => Ending.returned (.tuple #[.int .i64 (ix o), .bool b])) GE.out, B.out⟩

set_option maxHeartbeats 1000000 in
theorem is_deed (d0 d1 d2 d3 d4 d5 d6 n : Int) (bx : Nat) (w : World) (hb : Blk w bx 3 #[.int .i64 n]) :
    Calls Try.prog 31 #[(.agg #[.int .i64 d0, .int .i64 d1, .int .i64 d2, .int .i64 d3, .int .i64 d4, .int .i64 d5, .int .i64 d6]), .pointer (some ⟨bx, 0, none⟩)] w fun e w' => e = .returned (.bool (isDeed n (d0, d1, d2, d3, d4, d5, d6))) ∧ Below w.heap.size w w' := by
  have hm := Lib.hid (made w (.cells #[.int .i64 d0, .int .i64 d1, .int .i64 d2, .int .i64 d3, .int .i64 d4, .int .i64 d5, .int .i64 d6] 35))
  have c0 := (hb.alloc (.cells #[.int .i64 d0, .int .i64 d1, .int .i64 d2, .int .i64 d3, .int .i64 d4, .int .i64 d5, .int .i64 d6] 35)).cell 0
  clear hb
  go_enter Try.func31, Try.ntmps31
  go_wp2_with fail
  go_ret
  exact ⟨rfl, hm.out⟩
set_option maxRecDepth 100000 in
set_option maxHeartbeats 2000000 in
theorem index_deed (A : Option Addr) (c : Nat) (L : List D) (n : Int) (bx : Nat) (w : World) (hA : Lay E7 w A L) (hb : Blk w bx 3 #[.int .i64 n]) (hl : L.length ≤ 100000) :
    Calls Try.prog 41 #[.slice A L.length c, .func (.func 31) #[] #[.pointer (some ⟨bx, 0, none⟩)]] w fun e w' => e = .returned (.int .i64 (ix (fi (isDeed n) L))) ∧ Below w.heap.size w w' := by
  have HA := Lib.hid hA
  have HB := Lib.hid hb
  clear hA hb
  go_enter Try.func41, Try.ntmps41
  go_wp2_with fail
  go_loopw [8] (fun i wr => ∃ (k : Nat) (W : World), W = wr ∧ k ≤ L.length ∧ i = .int .i64 k ∧ Upto (isDeed n) L k ∧ Below w.heap.size w wr) (fun i _ => L.length - (intOf i).toNat)
  case atStart => exact ⟨0, _, rfl, by omega, rfl, Upto.zero _ _, Below.refl _ _⟩
  case round =>
    obtain ⟨k, w2, rfl, hk, rfl, hno, hb2⟩ := hrel
    have B2 := Lib.hid hb2
    have NO := Lib.hid hno
    by_cases hkl : k < L.length
    · obtain ⟨b, off, rfl, e0, e1, e2, e3, e4, e5, e6⟩ := lay7 (HA.out.below hb2) hkl
      obtain ⟨d, hd⟩ : ∃ d, d = L[k] := ⟨_, rfl⟩
      rw [← hd] at e0 e1 e2 e3 e4 e5 e6
      have DD := Lib.hid hd
      clear hd hb2 hno
      obtain ⟨d0, d1, d2, d3, d4, d5, d6⟩ := d
      dsimp only at e0 e1 e2 e3 e4 e5 e6
      have IS := Lib.hid (is_deed d0 d1 d2 d3 d4 d5 d6 n bx w2 (HB.out.below B2.out HB.out.lt))
      obtain ⟨q, hq⟩ : ∃ q, q = isDeed n (d0, d1, d2, d3, d4, d5, d6) := ⟨_, rfl⟩
      rw [← hq] at IS
      rw [DD.out] at hq
      have Q := Lib.hid hq
      clear hq
      cases q with
      | true =>
        go_wp2_with fail
        refine IS.out.mono ?_
        rintro e w3 ⟨rfl, hb3⟩
        have B3 := Lib.hid (up B2.out hb3 B2.out.size)
        clear hb3 IS e0 e1 e2 e3 e4 e5 e6
        go_wp2_with fail
        go_ret
        exact ⟨by rw [NO.out.found hkl Q.out.symm]; rfl, B3.out⟩
      | false =>
        go_wp2_with fail
        refine IS.out.mono ?_
        rintro e w3 ⟨rfl, hb3⟩
        have B3 := Lib.hid (up B2.out hb3 B2.out.size)
        clear hb3 IS e0 e1 e2 e3 e4 e5 e6
        go_wp2_with fail
        refine ⟨⟨k + 1, _, rfl, by omega, by go_num, NO.out.succ hkl Q.out.symm, B3.out⟩, by simp [intOf]; omega⟩
    · clear hb2 hno
      go_wp2_with fail
      go_ret
      exact ⟨by rw [NO.out.none (by omega)]; rfl, B2.out⟩
set_option maxHeartbeats 1000000 in
theorem find_deed (B g : Nat) (L : List D) (nx n : Int) (bx : Nat) (w : World) (h : DAt w B g L nx) (hb : Blk w bx 3 #[.int .i64 n]) (hl : L.length ≤ 100000) :
    Calls Try.prog 30 #[.pointer (some ⟨g, 0, none⟩), .func (.func 31) #[] #[.pointer (some ⟨bx, 0, none⟩)]] w fun e w' => e = .returned (.tuple #[.int .i64 (ix (fi (isDeed n) L)), .bool (fi (isDeed n) L).isSome]) ∧ Below w.heap.size w w' := by
  obtain ⟨A, c, h1, _, h2, _⟩ := h.open_
  have IX := Lib.hid (index_deed A c L n bx w h2 hb hl)
  have c0 := h1.cell 0
  clear h hb h1 h2
  have GE := Lib.hid (ix_ge (fi (isDeed n) L))
  generalize fi (isDeed n) L = o at *
  go_enter Try.func30, Try.ntmps30
  go_wp2_with fail
  refine IX.out.mono ?_
  rintro e w' ⟨rfl, hb⟩
  have B := Lib.hid hb
  clear hb c0 IX
  go_wp2_with fail
  go_ret2
  exact ⟨congrArg (fun b => Ending.returned (.tuple #[.int .i64 (ix o), .bool b])) GE.out, B.out⟩
end Go.Proofs.Ytlklfolpcebahaa.bb
