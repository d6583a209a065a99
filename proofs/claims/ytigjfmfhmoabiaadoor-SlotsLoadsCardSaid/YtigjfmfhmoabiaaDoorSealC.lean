/-
  Contracts of package seal: the sum is written, and held against the bytes.
-/
import Derived.Test.YtigjfmfhmoabiaaDoorSealB
namespace Go.Proofs.YtigjfmfhmoabiaaDoor.sl
open Go.RowKit
open base (ret_bool ret_int made up Blk Only Nums)
open crc
set_option linter.unusedVariables false

def By (l : List Nat) : List Value := l.map fun c => Value.int .u8 (Int.ofNat c)
def OnB (w : World) (g : Nat) (l : List Nat) : Prop := Blk w g 5 (By l).toArray
theorem OnB.cell {w : World} {g : Nat} {l : List Nat} (h : OnB w g l) {k : Nat} (hk : k < l.length) : w.cell? ⟨g, k, none⟩ = some (.int .u8 (l.getD k 0 : Nat)) := by
  rw [Blk.cell h k]
  simp [By, List.getD, List.getElem?_eq_getElem hk]
theorem OnB.lay {w : World} {g : Nat} {l : List Nat} (h : OnB w g l) (off n : Nat) : Lay w (some ⟨g, off, none⟩) ((l.drop off).take n) := by
  intro h0
  refine ⟨g, off, rfl, Blk.lt h, fun j hj => ?_⟩
  have hj2 : off + j < l.length := by simp [ints] at hj; omega
  have hjn : j < n := by simp [ints] at hj; omega
  rw [h.cell hj2]
  simp [ints, List.getD, hjn, List.getElem?_drop, List.getElem?_eq_getElem hj2]
theorem OnB.put {w : World} {g : Nat} {l : List Nat} (h : OnB w g l) (k c : Nat) : OnB (w.setCell ⟨g, k, none⟩ (.int .u8 (c : Nat))) g (l.set k c) := by
  have := Blk.put h k (.int .u8 (Int.ofNat c))
  unfold OnB By at *
  simpa using this

def le4 (s : Nat) : List Nat := [s % 256, s / 256 % 256, s / 65536 % 256, s / 16777216 % 256]
def leAt (s k : Nat) : Nat := (le4 s).getD k 0
def st (l : List Nat) (e s : Nat) : Nat → List Nat
  | 0 => l
  | k + 1 => (st l e s k).set (e + k) (leAt s k)
theorem st_len (l : List Nat) (e s k : Nat) : (st l e s k).length = l.length := by
  induction k with
  | zero => rfl
  | succ k ih => simp [st, ih]
theorem set_app (a b : List Nat) (i c : Nat) : (a ++ b).set (a.length + i) c = a ++ b.set i c := by
  rw [List.set_append_right _ _ (by omega)]
  simp
theorem st_end (l : List Nat) (s : Nat) (h : 4 ≤ l.length) : st l (l.length - 4) s 4 = l.take (l.length - 4) ++ le4 s := by
  obtain ⟨x0, x1, x2, x3, hd⟩ : ∃ x0 x1 x2 x3, l.drop (l.length - 4) = [x0, x1, x2, x3] := by
    have hl : (l.drop (l.length - 4)).length = 4 := by simp; omega
    match hq : l.drop (l.length - 4), hl with
    | [a, b, c, d], _ => exact ⟨a, b, c, d, rfl⟩
  have hl := List.take_append_drop (l.length - 4) l
  rw [hd] at hl
  have ht : (l.take (l.length - 4)).length = l.length - 4 := by simp
  generalize l.take (l.length - 4) = a at *
  generalize l.length - 4 = e at *
  subst ht
  subst hl
  simp only [st]
  have z : a.length + 0 = a.length := rfl
  rw [set_app, set_app, set_app, set_app]
  rfl

theorem one_part {w : World} {A : Option Addr} {l : List Nat} {c : Nat} (h : Lay w A l) (hs : Small l) (hl : l.length ≤ 9223372036854775807) :
    Parts (w.alloc (.cells #[.slice A l.length c] 27)) (some ⟨w.heap.size, 0, none⟩) [l] := by
  intro i hi
  obtain rfl : i = 0 := by simp at hi; exact hi
  exact ⟨w.heap.size, 0, A, c, rfl, by simp, by simp, hl, base.Nums.keep h (made _ _), hs⟩
theorem Tab.alloc {w : World} (h : Tab w) (o : Obj) : Tab (w.alloc o) := h.keep (made w o) h.1

def PutPost (g : Nat) (l : List Nat) (w : World) (e : Ending) (w' : World) : Prop := e = .returned (.tuple #[]) ∧ OnB w' g (l.take (l.length - 4) ++ le4 (sum (l.take (l.length - 4)))) ∧ Only (fun k => k = g) w w'

def PutAt (g : Nat) (l : List Nat) (e s : Nat) (w : World) (k : Nat) (wr : World) : Prop := OnB wr g (st l e s k) ∧ Only (fun k => k = g) w wr

theorem PutAt.next {g e s k : Nat} {l : List Nat} {w wr : World} (h : PutAt g l e s w k wr) (o : Nat) (v : Int) (ho : o = e + k) (hv : v = ((leAt s k : Nat) : Int)) : PutAt g l e s w (k + 1) (wr.setCell ⟨g, o, none⟩ (.int .u8 v)) := by
  subst ho hv
  exact ⟨h.1.put _ _, h.2.setCell (.inl rfl) _⟩

set_option maxHeartbeats 2000000 in
theorem put_any (g c : Nat) (l : List Nat) (w : World) (hB : OnB w g l) (hs : Small l) (hl : 4 ≤ l.length) (hc : l.length ≤ c) (hm : c ≤ 9223372036854775807) (hT : Tab w) (hg : g ≠ 0) :
    Calls Tryd.prog 44 #[.slice (some ⟨g, 0, none⟩) l.length c] w (PutPost g l w) := by
  have hlay := hB.lay 0 (l.length - 4)
  rw [List.drop_zero] at hlay
  have hsm := small_take hs (l.length - 4)
  have hlen : (l.take (l.length - 4)).length = l.length - 4 := by simp
  have hp : ∀ cc, Parts (w.alloc (.cells #[.slice (some ⟨g, 0, none⟩) (l.length - 4) cc] 27)) (some ⟨w.heap.size, 0, none⟩) [l.take (l.length - 4)] := by
    intro cc
    have := one_part (c := cc) hlay hsm (by omega)
    rwa [hlen] at this
  have P := Lib.hid hp
  have T := Lib.hid hT
  have hsum : sum (l.take (l.length - 4)) < 4294967296 := by unfold sum; omega
  have BB := Lib.hid hB
  have glt := Blk.lt hB
  clear hp hlay hsm hlen hB hT
  go_enter Tryd.func44, Tryd.ntmps44
  go_wp2_with fail
  refine (sum_any _ 1 [l.take (l.length - 4)] _ (by simp) (P.out _) (T.out.alloc _)).mono ?_
  rintro e w1 ⟨rfl, rfl⟩
  simp only [List.flatten_cons, List.flatten_nil, List.append_nil]
  obtain ⟨s, hs2⟩ : ∃ s, s = sum (l.take (l.length - 4)) := ⟨_, rfl⟩
  rw [← hs2] at hsum ⊢
  have S := Lib.hid hs2
  clear hs2
  have A0 : PutAt g l (l.length - 4) s w 0 (w.alloc (.cells #[.slice (some ⟨g, 0, none⟩) (l.length - 4) c] 27)) := ⟨Blk.alloc BB.out _, (Only.refl _ w).alloc _⟩
  have AA := Lib.hid A0
  clear A0
  go_wp2
  go_loopw [4, 13] (fun _ x wr => ∃ k : Nat, k ≤ 4 ∧ x = .int .i64 k ∧ PutAt g l (l.length - 4) s w k wr) (fun _ x _ => 4 - (intOf x).toNat)
  case atStart => exact ⟨0, by omega, rfl, AA.out⟩
  case round =>
    obtain ⟨k, hk, rfl, hp⟩ := hrel
    have PA := Lib.hid hp
    clear hp AA
    have hk4 : k = 0 ∨ k = 1 ∨ k = 2 ∨ k = 3 ∨ k = 4 := by omega
    rcases hk4 with rfl | rfl | rfl | rfl | rfl
    case inr.inr.inr.inr =>
      go_wp2
      go_end0
      refine ⟨rfl, ?_, PA.out.2⟩
      have := PA.out.1
      rw [st_end l s hl] at this
      rw [← S.out]
      exact this
    case inl =>
      have hcell := PA.out.1.cell (k := l.length - 4) (by rw [st_len]; omega)
      have hfree := Blk.free PA.out.1 (l.length - 4)
      go_wp2
      go_roundw
      case rel => exact ⟨1, by omega, rfl, PA.out.next _ _ (by omega) (by show _ = ((s % 256 : Nat) : Int); omega)⟩
      case measure => simp [intOf]
    case inr.inl =>
      have hcell := PA.out.1.cell (k := l.length - 4 + 1) (by rw [st_len]; omega)
      have hfree := Blk.free PA.out.1 (l.length - 4 + 1)
      go_wp2
      go_roundw
      case rel => exact ⟨2, by omega, rfl, PA.out.next _ _ (by omega) (by show _ = ((s / 256 % 256 : Nat) : Int); omega)⟩
      case measure => simp [intOf]
    case inr.inr.inl =>
      have hcell := PA.out.1.cell (k := l.length - 4 + 2) (by rw [st_len]; omega)
      have hfree := Blk.free PA.out.1 (l.length - 4 + 2)
      go_wp2
      go_roundw
      case rel => exact ⟨3, by omega, rfl, PA.out.next _ _ (by omega) (by show _ = ((s / 65536 % 256 : Nat) : Int); omega)⟩
      case measure => simp [intOf]
    case inr.inr.inr.inl =>
      have hcell := PA.out.1.cell (k := l.length - 4 + 3) (by rw [st_len]; omega)
      have hfree := Blk.free PA.out.1 (l.length - 4 + 3)
      go_wp2
      go_roundw
      case rel => exact ⟨4, by omega, rfl, PA.out.next _ _ (by omega) (by show _ = ((s / 16777216 % 256 : Nat) : Int); omega)⟩
      case measure => simp [intOf]
end Go.Proofs.YtigjfmfhmoabiaaDoor.sl
