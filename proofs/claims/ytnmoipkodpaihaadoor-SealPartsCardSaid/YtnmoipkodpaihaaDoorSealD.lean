/-
  Contracts of package seal: bytes that are sealed, and opened.
-/
import Derived.Test.YtnmoipkodpaihaaDoorSealC
import Derived.Laws.CopyOwn
namespace Go.Proofs.YtnmoipkodpaihaaDoor.sl
open Go.RowKit
open base (ret_bool ret_int made up Blk Only Nums)
open crc
set_option linter.unusedVariables false

theorem info_u8 : (Tryd.prog.info? 5).map (fun i => (i.zero, i.size, i.bytes)) = some (some (.int .u8 0), 1, 1) := by kernel_rfl
theorem size_u8 : (Tryd.prog.info? 5).map (·.size) = some 1 := by kernel_rfl
theorem By_append (a b : List Nat) : By (a ++ b) = By a ++ By b := by simp [By]
theorem By_len (a : List Nat) : (By a).length = a.length := by simp [By]
theorem made_on (w : World) (n : Nat) : OnB (w.alloc (.cells (madeCells #[.int .u8 0] n) 5)) w.heap.size (List.replicate n 0) := by
  have h := World.rowIs_made w (.int .u8 0) n 5
  obtain ⟨c, h1, h2, h3⟩ := h
  have : c = (By (List.replicate n 0)).toArray := by
    apply Array.ext
    · simp [By, h2]
    · intro i hi _
      have := h3 i (by omega)
      rw [Array.getElem?_eq_getElem hi] at this
      injection this with this
      rw [this]
      simp [By]
  unfold OnB Blk
  rw [← this]
  exact h1
theorem by_one (l : List Nat) : ∀ v ∈ By l, v.oneCell' = true := by
  intro v hv
  obtain ⟨c, _, rfl⟩ := List.mem_map.1 hv
  rfl
theorem Lay.src {w : World} {A : Option Addr} {l : List Nat} (h : Lay w A l) (h0 : 0 < l.length) : ∃ ad, A = some ad ∧ ∀ j v, (By l)[j]? = some v → w.cell? (ad.add j) = some v := by
  obtain ⟨b, off, rfl, _, _⟩ := h.at_ h0
  refine ⟨_, rfl, fun j v hj => ?_⟩
  have hj2 : j < l.length := by have := (List.getElem?_eq_some_iff.1 hj).1; simpa [By] using this
  obtain ⟨b', off', e, _, hc⟩ := h.at_ hj2
  injection e with e
  injection e with e1 e2
  subst e1 e2
  have hadd : (⟨b, off, none⟩ : Addr).add j = ⟨b, off + j, none⟩ := by unfold Addr.add; split <;> simp_all
  rw [hadd, hc]
  simp [By, List.getElem?_eq_getElem hj2] at hj
  rw [← hj]
  simp [List.getD, List.getElem?_eq_getElem hj2]
theorem Lay.below {w w' : World} {A : Option Addr} {l : List Nat} (h : Lay w A l) (hb : Below w.heap.size w w') : Lay w' A l := base.Nums.keep h hb
theorem Lay.alloc {w : World} {A : Option Addr} {l : List Nat} (h : Lay w A l) (o : Obj) : Lay (w.alloc o) A l := h.below (made w o)

def SealPost (l : List Nat) (w : World) (e : Ending) (w' : World) : Prop :=
  ∃ g n, e = .returned (.slice (some ⟨g, 0, none⟩) n n) ∧ n = l.length + 4 ∧ g = w.heap.size ∧ OnB w' g (l ++ le4 (sum l)) ∧ Below w.heap.size w w'

set_option maxHeartbeats 2000000 in
theorem close_any (A : Option Addr) (c : Nat) (l : List Nat) (w : World) (hL : Lay w A l) (hs : Small l) (hl : l.length ≤ 1000000) (hT : Tab w) :
    Calls Tryd.prog 11 #[.slice A l.length c] w (SealPost l w) := by
  have hmk := run_make_row' (P := Tryd.prog) 22 5 (.int .u8 0) 1 Tryd.underlying22 info_u8 rfl .i64 .i64 (l.length + 4) (by omega) (by omega)
  rw [show ((l.length + 4 : Nat) : Int) = (l.length : Int) + 4 from by omega] at hmk
  have M := Lib.hid (made_on w (l.length + 4))
  have L := Lib.hid hL
  have T := Lib.hid hT
  have h0 := hT.1
  clear hL hT
  go_enter Tryd.func11, Tryd.ntmps11
  go_wp2_with ((with_reducible show wpList _ _ _ (⟨some 10, _, _, _, _, _⟩ :: _) _ _); go_must (refine wpList_copy_splice rfl _ _ 22 22 rfl 5 Tryd.underlying22 size_u8 (some ⟨w.heap.size, 0, none⟩) A (l.length + 4) (l.length + 4) l.length c rfl rfl w.heap.size 0 (By (List.replicate (l.length + 4) 0)) 5 M.out (By l) ?c1 ?c2 ?c3 (by_one l) w.heap.size w (made _ _) (Nat.le_refl _) ?_))
  case c1 => rw [By_len]; simp
  case c2 => intro hp; rw [By_len] at hp; first | exact ⟨rfl, (L.out.alloc _).src hp⟩ | exact (L.out.alloc _).src hp
  case c3 => rw [By_len, By_len]; simp
  intro w1 HG hb1
  have hon : OnB w1 w.heap.size (l ++ [0, 0, 0, 0]) := by
    have := HG.out
    have e : splice (By (List.replicate (l.length + 4) 0)) 0 (By l) = By (l ++ [0, 0, 0, 0]) := by
      unfold splice
      rw [By_len, By_append]
      simp [By]
    rw [e] at this
    exact this
  have hsm : Small (l ++ [0, 0, 0, 0]) := by
    intro q hq
    rcases List.mem_append.1 hq with hq | hq
    · exact hs q hq
    · simp at hq; omega
  have O := Lib.hid hon
  have SM := Lib.hid hsm
  clear HG hon hsm
  go_wp2_with fail
  have hput := put_any w.heap.size (l.length + 4) (l ++ [0, 0, 0, 0]) w1 O.out SM.out (by simp) (by simp) (by omega) (T.out.keep hb1 h0) (by omega)
  simp only [List.length_append, List.length_cons, List.length_nil] at hput
  refine hput.mono ?_
  rintro e w2 ⟨rfl, hon2, ho2⟩
  have e2 : (l ++ [0, 0, 0, 0]).take ((l ++ [0, 0, 0, 0]).length - 4) = l := by simp
  rw [e2] at hon2
  have R := Lib.hid (show SealPost l w (.returned (.slice (some ⟨w.heap.size, 0, none⟩) (l.length + 4) (l.length + 4))) w2 from ⟨_, _, rfl, rfl, rfl, hon2, hb1.trans (ho2.to_below (fun i hi e => by omega) hb1.size)⟩)
  clear hon2 ho2 e2 hput
  go_wp2
  go_ret
  exact R.out
end Go.Proofs.YtnmoipkodpaihaaDoor.sl
