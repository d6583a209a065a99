/-
  The free numbers of a pool: what the function that is ranged over hands out, in its order.
-/
import Derived.Test.YteecebklomeklaaDoorPoolK
import Derived.Test.YteecebklomeklaaDoorPfree
import Derived.RangeFuncNested
import Derived.RangeFuncBound
import Derived.RangeFuncCalls
import Derived.RangeFuncLeaves
import Derived.RangeFuncFrom
import Derived.Shelf.Abstract
import Derived.Shelf.RegionOpen
import Derived.WalkKit
import Derived.OwnWalkIn
import Derived.TacticsInMore
import Derived.LoopNIn
import Derived.LoopIn
import Derived.StillTailTactics
import Derived.Lib.Hide
namespace Go.Proofs.YteecebklomeklaaDoor.po
open Go.RowKit Go.Shelf
open base (ret_bool ret_int made up Blk Only Nums)
open pnum
set_option linter.unusedVariables false
set_option linter.unusedSimpArgs false
attribute [local go_sem] Oper.semAt_some

abbrev encN (k : Nat) : Array Value := #[.int .i64 k]
def nI : Option Nat → Int
  | some j => j
  | none => 0
theorem nextV_eq (o : Option Nat) : nextV o = .tuple #[.int .i64 (nI o), .bool o.isSome] := by cases o <;> rfl
def Kf (Bn g gw : Nat) (A B : World) : Prop := B.heap[Bn]? = A.heap[Bn]? ∧ B.heap[g]? = A.heap[g]? ∧ B.heap[gw]? = A.heap[gw]? ∧ B.heap[0]? = A.heap[0]?
theorem kf_t {Bn g gw : Nat} {A B C : World} (h : Kf Bn g gw A B) (k : Kf Bn g gw B C) : Kf Bn g gw A C := ⟨k.1.trans h.1, k.2.1.trans h.2.1, k.2.2.1.trans h.2.2.1, k.2.2.2.trans h.2.2.2⟩
theorem kf_refl (Bn g gw : Nat) (A : World) : Kf Bn g gw A A := ⟨rfl, rfl, rfl, rfl⟩
theorem kf_b {Bn g gw : Nat} {w : World} (hn : Bn < w.heap.size ∧ g < w.heap.size ∧ gw < w.heap.size ∧ 0 < w.heap.size) (W : World) (l : Nat) (o o' : Obj) (hl : w.heap.size ≤ l) (_ : W.heap[l]? = some o) (_ : o.isCells = false) (_ : o.isWalk = false) : Kf Bn g gw W (W.putObj l o') :=
  ⟨World.putObj_heap_other (by omega), World.putObj_heap_other (by omega), World.putObj_heap_other (by omega), World.putObj_heap_other (by omega)⟩
theorem kf_below {Bn g gw B : Nat} {A C : World} (h : Below B A C) (hn : Bn < B ∧ g < B ∧ gw < B ∧ 0 < B) : Kf Bn g gw A C := ⟨h.block _ hn.1, h.block _ hn.2.1, h.block _ hn.2.2.1, h.block _ hn.2.2.2⟩
theorem PAt.kf {A B : World} {Bn g gw : Nat} {W : List Nat} {c : Nat} {x : List Bool} (h : PAt A g gw W c x) (k : Kf Bn g gw A B) : PAt B g gw W c x := by
  obtain ⟨cs, hr, hc⟩ := h.row
  exact ⟨k.2.1.trans h.blk, ⟨cs, k.2.2.1.trans hr, hc⟩, h.bits, h.le, h.mx, h.small, h.pos⟩
theorem Tab.kf {A B : World} {Bn g gw : Nat} (h : Tab A) (k : Kf Bn g gw A B) : Tab B := by
  have c : ∀ j, j < 64 → B.cell? ⟨0, j, none⟩ = some (.int .u8 (Lib.deBruijn64tab.getD j 0 : Nat)) := fun j hj => by
    have e := h.2 j hj
    unfold World.cell? at e ⊢
    rw [k.2.2.2]
    exact e
  exact ⟨World.block_lt_of_cell? B _ (c 0 (by omega)), c⟩
theorem nix_grown {w w' : World} (h : Nix w w') : w.grownBy w' none := ⟨h.os, h.tape, h.output, h.size, fun k hk _ => h.block k hk (fun q => q)⟩
theorem nix_below {w w' : World} (h : Nix w w') : Below w.heap.size w w' := h.below
def bN : Value → Nat
  | .bool true => 1
  | _ => 0
theorem fr_some {x : List Bool} {k : Nat} (h : k < (fr x).length) : (fr x)[k]? = some ((fr x).getD k 0) := by simp [List.getD, List.getElem?_eq_getElem h]
theorem fr_is {x : List Bool} {k : Nat} (h : k ≤ (fr x).length) : NextIs x (atF x k) (fr x)[k]? := by
  rcases Nat.lt_or_ge k (fr x).length with q | q
  · rw [fr_some q]; exact fr_next q
  · obtain rfl : k = (fr x).length := by omega
    rw [List.getElem?_eq_none (Nat.le_refl _)]
    exact fr_end x
theorem next_fr {ws : World} {g gw : Nat} {W : List Nat} {c : Nat} {x : List Bool} {k : Nat} (hT : Tab ws) (hP : PAt ws g gw W c x) (hk : k ≤ (fr x).length) :
    Calls Tryd.prog 14 #[.pointer (some ⟨g, 0, none⟩), .int .i64 (atF x k : Nat)] ws fun e w' => e = .returned (.tuple #[.int .i64 (nI (fr x)[k]?), .bool ((fr x)[k]?).isSome]) ∧ Nix ws w' := by
  have := atF_small hk
  have := hP.small
  refine (next_nat g gw W c x (atF x k) _ ws hT hP (by omega) (fr_is hk)).mono ?_
  rintro e w' ⟨rfl, h⟩
  exact ⟨by rw [nextV_eq], h⟩
set_option maxRecDepth 100000 in
set_option maxHeartbeats 2000000 in
theorem all_stops (n : Nat) (hn : 1 ≤ n) (x : List Bool) (Bn g gw : Nat) (Wd : List Nat) (c : Nat) (w0 : World) (hB : Blk w0 Bn 24 #[.pointer (some ⟨g, 0, none⟩)]) (hP : PAt w0 g gw Wd c x) (hT : Tab w0) (N : Nat) (hN : N = (fr x).length) :
    SeqStopsK Fence.wide n Tryd.prog 31 #[.pointer (some ⟨Bn, 0, none⟩)] encN (Kf Bn g gw) (fun xs => xs = fr x) (fun pre => ∃ k, k ≤ N ∧ pre = (fr x).take k) N w0 := fun l J Jx W hW hJ hJx hY h0 => by
  have hbW := hB.below hW hB.lt
  have hPW := hP.below hW
  have hTW := hT.below hW
  have c0 := hbW.cell 0
  have hlt : Bn < W.heap.size ∧ g < W.heap.size ∧ gw < W.heap.size ∧ 0 < W.heap.size := ⟨hbW.lt, hPW.blk.lt, hPW.row.choose_spec.1.lt, hTW.1⟩
  have HY := Lib.hid hY
  have HJ := Lib.hid hJ
  have HL := Lib.hid hlt
  have HB := Lib.hid hbW
  have NX := Lib.hid (fun (ws : World) (k : Nat) (hk : k ≤ N) (hf : Kf Bn g gw W ws) => next_fr (hTW.kf hf) (hPW.kf hf) (show k ≤ (fr x).length by omega))
  have N0 := Lib.hid (NX.out W 0 (Nat.zero_le _) (kf_refl _ _ _ _))
  rw [show ((atF x 0 : Nat) : Int) = 0 from rfl] at N0
  have XS := Lib.hid hPW.small
  have HN := Lib.hid hN
  have H0 := Lib.hid h0
  clear hY hJ hJx h0 hB hbW hW hP hT hPW hTW hlt hN
  refine callsIn_of_wp Tryd.func31 rfl trivial ?_ rfl
  simp only [Tryd.ntmps31, List.size_toArray, List.length_cons, List.length_nil, Nat.reduceAdd, Nat.reduceSub, Array.replicate_succ, Array.replicate_zero, List.push_toArray, List.append_toArray, List.nil_append, List.cons_append]
  generalize hi0 : nI (fr x)[0]? = i0 at *
  generalize hb0 : ((fr x)[0]?).isSome = b0 at *
  have I0 := Lib.hid hi0
  have E0 := Lib.hid hb0
  clear hi0 hb0
  gi_wp2_with (refine ⟨trivial, ?_⟩; gi_at_call 14; refine (callsIn_wide.2 N0.out).mono ?_; rintro e w1 ⟨rfl, hb1⟩)
  have J1 := Lib.hid (HJ.out _ _ _ none H0.out (nix_grown hb1) (fun r e => by cases e))
  have B1 := Lib.hid (show Kf Bn g gw W w1 from kf_below (nix_below hb1) HL.out)
  clear hb1 c0 N0
  gi_loopw [3, 4] (fun i o wr => ∃ (k : Nat) (W' : World), W' = wr ∧ k ≤ N ∧ i = .int .i64 (nI (fr x)[k]?) ∧ o = .bool ((fr x)[k]?).isSome ∧ J ((fr x).take k) wr ∧ Kf Bn g gw W wr) (fun i o _ => bN o * (x.length + 1 - (intOf i).toNat))
  case atStart => exact ⟨0, _, rfl, by omega, by rw [I0.out], by rw [E0.out], J1.out, B1.out⟩
  case round =>
  obtain ⟨k, w2, rfl, hk, rfl, rfl, hj, hb⟩ := hrel
  have B2 := Lib.hid hb
  have J2 := Lib.hid hj
  clear hb hj J1 B1
  by_cases hlt : k < N
  · have hkl : k < (fr x).length := by have := HN.out; omega
    have hvx := lt_of_free (fr_mem hkl)
    have TK := Lib.hid (fr_take hkl)
    have AT := Lib.hid (show atF x (k + 1) = (fr x).getD k 0 + 1 from rfl)
    have UP := Lib.hid (show ∀ u, (fr x)[k + 1]? = some u → (fr x).getD k 0 < u from fun u hu => by
      have hl := (List.getElem?_eq_some_iff.1 hu).1
      have := fr_lt (Nat.lt_succ_self k) hl
      rw [fr_some hl] at hu
      injection hu with hu
      subst hu
      exact this)
    rw [fr_some hkl, show nI (some ((fr x).getD k 0)) = (((fr x).getD k 0 : Nat) : Int) from rfl, Option.isSome_some]
    generalize (fr x).getD k 0 = v at *
    have hs := XS.out
    obtain ⟨fn, tmps, assign, body, hy, hR⟩ := HY.out ((fr x).take k) v w2 J2.out (by rw [List.length_take]; omega)
    dsimp only [encN] at hy
    have XV := Lib.hid hvx
    gi_wp2
    refine hR.mono ?_
    rintro e w3 (⟨rfl, hj3, hk3⟩ | ⟨rfl, hx3⟩)
    · have J3 := Lib.hid hj3
      have B3 := Lib.hid (show Kf Bn g gw W w3 from kf_t B2.out hk3)
      have N3 := Lib.hid (NX.out w3 (k + 1) (by omega) B3.out)
      rw [AT.out, show ((v + 1 : Nat) : Int) = (v : Int) + 1 by omega] at N3
      have bx : Blk w3 Bn 24 #[.pointer (some ⟨g, 0, none⟩)] := B3.out.1.trans HB.out
      have c0 := bx.cell 0
      have L3 := Lib.hid (show Bn < w3.heap.size ∧ g < w3.heap.size ∧ gw < w3.heap.size ∧ 0 < w3.heap.size from
        ⟨bx.lt, Nat.lt_of_not_le fun q => by have := B3.out.2.1; rw [Array.getElem?_eq_none q] at this; have := HL.out.2.1; simp_all, Nat.lt_of_not_le fun q => by have := B3.out.2.2.1; rw [Array.getElem?_eq_none q] at this; have := HL.out.2.2.1; simp_all, by have := bx.lt; omega⟩)
      clear hj3 hk3 bx
      obtain ⟨o', ho'⟩ : ∃ o', o' = (fr x)[k + 1]? := ⟨_, rfl⟩
      rw [← ho'] at N3 UP
      have O3 := Lib.hid ho'
      clear ho'
      generalize hi3 : nI o' = i3 at *
      generalize hb3 : o'.isSome = b3 at *
      have I3 := Lib.hid hi3
      have E3 := Lib.hid hb3
      clear hi3 hb3
      gi_wp2_with (refine ⟨trivial, ?_⟩; gi_at_call 14; refine (callsIn_wide.2 N3.out).mono ?_; rintro e w4 ⟨rfl, hb4⟩)
      have J4 := Lib.hid (HJ.out _ _ _ none J3.out (nix_grown hb4) (fun r e => by cases e))
      have B4 := Lib.hid (kf_t B3.out (kf_below (nix_below hb4) L3.out))
      clear hb4 c0
      go_roundw
      case rel => exact ⟨k + 1, _, rfl, by omega, by rw [← O3.out, I3.out], by rw [← O3.out, E3.out], by rw [TK.out]; exact J4.out, B4.out⟩
      case measure =>
        have hI := I3.out
        have hE := E3.out
        have hU := UP.out
        have hV := XV.out
        cases o' with
        | none =>
          obtain rfl : b3 = false := by rw [← hE]; rfl
          simp [bN, intOf, nI]
          omega
        | some u =>
          obtain rfl : b3 = true := by rw [← hE]; rfl
          have := hU u rfl
          simp [nI] at hI
          subst hI
          simp [bN, intOf, nI]
          omega
    · have X3 := Lib.hid hx3
      clear hx3
      gi_wp2
      refine bodyPost_ret (results_none rfl _ _ _) rfl ?_
      exact ⟨⟨_, rfl⟩, .inr ⟨_, ⟨k + 1, by omega, TK.out.symm⟩, X3.out⟩⟩
  · obtain rfl : k = N := by omega
    rw [List.getElem?_eq_none (by have := HN.out; omega)]
    have e := List.take_of_length_le (show (fr x).length ≤ k by have := HN.out; omega)
    rw [e] at J2
    gi_wp2
    go_end0
    exact ⟨⟨_, rfl⟩, .inl ⟨_, rfl, J2.out⟩⟩
end Go.Proofs.YteecebklomeklaaDoor.po
