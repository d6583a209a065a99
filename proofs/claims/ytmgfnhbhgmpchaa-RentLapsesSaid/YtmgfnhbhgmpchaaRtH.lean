/-
  RentLapses: what lies beside the rents, in the rounds.
-/
import Derived.Test.YtmgfnhbhgmpchaaRtG
import Derived.Test.YtmgfnhbhgmpchaaRentC
namespace Go.Proofs.Ytmgfnhbhgmpchaa.rn
open Go.RowKit Go.Shelf
open base (ret_bool ret_int made up Blk Only)
open rk mk rgm
set_option linter.unusedVariables false
set_option linter.unusedSimpArgs false

/-- cells lie as they lay, the queue's aside -/
def Cs (W W' : World) : Prop := ∀ k t cs, Blk W k t cs → t ≠ 89 → t ≠ 91 → Blk W' k t cs
section
variable {W W' : World} {B D x8 n11 b0 g b c : Nat} {L L' : List R3} {now stop kc : Int} {w : World}
theorem Cs.is (h : Is B W W') : Cs W W' := h.fr
theorem Cs.below (h : Below W.heap.size W W') : Cs W W' := fun k t cs hb _ _ => hb.below h hb.lt
theorem Cs.mut {m : Int → Option R3} (h : RAt W g b m c) (k : Mut b W W') : Cs W W' := fun j t cs hb _ _ => hb.only k (fun e => MapIs.ne h.map hb e.symm)
/-- the list's box, and the list -/
def Xb (b0 x8 : Nat) (L : List R3) (W : World) : Prop := ∃ A c, Blk W x8 26 #[.slice A L.length c] ∧ rk.Own E3 W b0 42 (.slice A L.length c) L
theorem own_cs {v : Value} (h : rk.Own E3 W b0 42 v L) (k : Cs W W') : rk.Own E3 W' b0 42 v L := h.keep (fun x hx => by
  obtain ⟨_, _, cs, hb⟩ := h.lt' x hx
  have h1 : W'.heap[x]? = some _ := k x _ _ hb (by decide) (by decide)
  have h2 : W.heap[x]? = some _ := hb
  rw [h1, h2])
theorem Xb.cs (h : Xb b0 x8 L W) (k : Cs W W') : Xb b0 x8 L W' := by
  obtain ⟨A, c, h1, h2⟩ := h
  exact ⟨A, c, k _ _ _ h1 (by decide) (by decide), own_cs h2 k⟩
theorem own_far {v : Value} {t : TypeId} {cs : Array Value} {p : Nat} (h : rk.Own E3 W b0 42 v L) (hp : Blk W p t cs) (ht : t ≠ 42) (i : Nat) (u : Value) : rk.Own E3 (W.setCell ⟨p, i, none⟩ u) b0 42 v L := h.keep (fun x hx => by
  obtain ⟨_, _, cs', hb⟩ := h.lt' x hx
  exact Below.heap_setCell W _ _ _ (qu.ty_ne hb hp (fun e => ht e.symm)))
/-- the law's own boxes, the list, the counter -/
structure Cj (w : World) (x8 n11 D : Nat) (now stop : Int) (L : List R3) (kc : Int) (W : World) : Prop where
  bel : Below w.heap.size w W
  nb : Blk W w.heap.size 3 #[.int .i64 now]
  sb : Blk W (w.heap.size + 1) 3 #[.int .i64 stop]
  rt : Blk W (w.heap.size + 1 + 1) 4 #[.bool false]
  xb : Xb w.heap.size x8 L W
  kb : Blk W n11 3 #[.int .i64 kc]
  gd : Gd L
  ll : L.length ≤ 1000
  kl : 0 ≤ kc ∧ kc + L.length ≤ 1000
  big : D + 2 ≤ W.heap.size
theorem Cj.cs (h : Cj w x8 n11 D now stop L kc W) (k : Cs W W') (hb : Below w.heap.size W W') : Cj w x8 n11 D now stop L kc W' :=
  ⟨h.bel.trans hb, k _ _ _ h.nb (by decide) (by decide), k _ _ _ h.sb (by decide) (by decide), k _ _ _ h.rt (by decide) (by decide), h.xb.cs k, k _ _ _ h.kb (by decide) (by decide), h.gd, h.ll, h.kl, Nat.le_trans h.big hb.size⟩
theorem Cj.is (h : Cj w x8 n11 D now stop L kc W) (k : Is B W W') (hB : w.heap.size ≤ B) : Cj w x8 n11 D now stop L kc W' :=
  h.cs k.fr (k.on.to_below (fun i hi e => by omega) h.bel.size)
theorem Cj.below (h : Cj w x8 n11 D now stop L kc W) (k : Below W.heap.size W W') : Cj w x8 n11 D now stop L kc W' := h.cs (Cs.below k) (k.mono h.bel.size)
theorem Cj.mut {m : Int → Option R3} (h : Cj w x8 n11 D now stop L kc W) (r : RAt W g b m c) (k : Mut b W W') (hb : w.heap.size ≤ b) : Cj w x8 n11 D now stop L kc W' :=
  h.cs (Cs.mut r k) (k.to hb h.bel.size)
/-- the list is another one, and one more is counted -/
theorem Cj.step {A : Option Addr} {c' : Nat} (h : Cj w x8 n11 D now stop L kc W) (ho : rk.Own E3 W w.heap.size 42 (.slice A L'.length c') L') (hL : L'.length + 1 ≤ L.length) (hg : Gd L') (hn : n11 ≠ w.heap.size ∧ n11 ≠ w.heap.size + 1 ∧ w.heap.size + 2 ≤ x8 ∧ w.heap.size + 2 ≤ n11) :
    Cj w x8 n11 D now stop L' (kc + 1) ((W.setCell ⟨x8, 0, none⟩ (.slice A L'.length c')).setCell ⟨n11, 0, none⟩ (.int .i64 (kc + 1))) := by
  obtain ⟨A0, c0, x1, x2⟩ := h.xb
  have e1 : x8 ≠ n11 := qu.ty_ne x1 h.kb (by decide)
  have e2 : w.heap.size + 1 + 1 ≠ x8 := qu.ty_ne h.rt x1 (by decide)
  have e3 : w.heap.size + 1 + 1 ≠ n11 := qu.ty_ne h.rt h.kb (by decide)
  have s1 := x1.put 0 (.slice A L'.length c')
  have k1 := h.kb.far (p := ⟨x8, 0, none⟩) (fun e => e1 e.symm) (.slice A L'.length c')
  have o1 := own_far ho x1 (by decide) 0 (.slice A L'.length c')
  have kl := h.kl
  refine ⟨(h.bel.setCell (p := ⟨x8, 0, none⟩) (by show w.heap.size ≤ x8; omega) _).setCell (p := ⟨n11, 0, none⟩) (by show w.heap.size ≤ n11; omega) _, (h.nb.far (p := ⟨x8, 0, none⟩) (by show w.heap.size ≠ x8; omega) _).far (p := ⟨n11, 0, none⟩) (fun e => hn.1 e.symm) _, (h.sb.far (p := ⟨x8, 0, none⟩) (by show w.heap.size + 1 ≠ x8; omega) _).far (p := ⟨n11, 0, none⟩) (fun e => hn.2.1 e.symm) _, (h.rt.far (p := ⟨x8, 0, none⟩) e2 _).far (p := ⟨n11, 0, none⟩) e3 _, ⟨A, c', s1.far (p := ⟨n11, 0, none⟩) e1 _, own_far o1 k1 (by decide) 0 _⟩, k1.put 0 _, hg, by have := h.ll; omega, by omega, ?_⟩
  have : (W.setCell ⟨x8, 0, none⟩ (.slice A L'.length c')).heap.size = W.heap.size := by simp [World.setCell]
  have h2 : ((W.setCell ⟨x8, 0, none⟩ (.slice A L'.length c')).setCell ⟨n11, 0, none⟩ (.int .i64 (kc + 1))).heap.size = W.heap.size := by simp [World.setCell]
  rw [h2]
  exact h.big
end
theorem drop_lt {L : List R3} {i : Nat} (hi : i < L.length) : (dropL L L[i].1).length + 1 ≤ L.length := by
  have : (dropL L L[i].1).length < L.length := List.length_filter_lt_length_iff_exists.2 ⟨L[i], List.getElem_mem hi, by simp [isH]⟩
  omega
theorem stage_late {due now : Int} (h : due ≤ now - 41) : stageOf due now = 5 := by
  unfold stageOf
  rw [if_neg (by omega), if_pos (by omega)]
theorem stage_not {due now : Int} (h : now - 41 < due) : stageOf due now ≠ 5 := by
  unfold stageOf
  split
  · omega
  · rw [if_neg (by omega)]
    omega
/-- behind the loop -/
def End_ (w : World) (g b x8 n11 D : Nat) (now stop : Int) (W : World) : Prop := ∃ L cn kc, Cj w x8 n11 D now stop L kc W ∧ RAt W g b (look L) cn ∧ cn ≤ 90000 ∧ Sd L ∧ Wk L ∧ (kc = stop ∨ ∀ i (hi : FirstIs L i), stageOf (L[i]'hi.lt).2.2 now ≠ 5)
theorem End_.is {w : World} {g b x8 n11 D B : Nat} {now stop : Int} {W W' : World} (h : End_ w g b x8 n11 D now stop W) (k : Is B W W') (hB : w.heap.size ≤ B) (hg : g < B) (hb : b < B) : End_ w g b x8 n11 D now stop W' := by
  obtain ⟨L, cn, kc, h1, h2, h3, h4, h5, h6⟩ := h
  exact ⟨L, cn, kc, h1.is k hB, RAt.is h2 k hg hb, h3, h4, h5, h6⟩
end Go.Proofs.Ytmgfnhbhgmpchaa.rn
