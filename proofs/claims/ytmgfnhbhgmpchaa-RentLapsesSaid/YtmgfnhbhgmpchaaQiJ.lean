/-
  The queue told as a list, the one ahead of the other.
-/
import Derived.Test.YtmgfnhbhgmpchaaQiI
namespace Go.Proofs.Ytmgfnhbhgmpchaa.qu
open Go.RowKit
open base (ret_bool ret_int made up Blk Only)
open rk mk
set_option linter.unusedVariables false
set_option linter.unusedSimpArgs false
variable {w w' : World} {q m : Nat} {v : Value} {L M : List It} {ad : Int} {F : Nat → Prop}

/-- an item in its place -/
def ins (x : It) : List It → List It
  | [] => [x]
  | y :: l => if lt x y then x :: y :: l else y :: ins x l
theorem ins_perm (x : It) : ∀ M : List It, (ins x M).Perm (x :: M)
  | [] => List.Perm.refl _
  | y :: l => by
    unfold ins
    split
    · exact List.Perm.refl _
    · exact (List.Perm.cons y (ins_perm x l)).trans (List.Perm.swap x y l)
theorem ins_sd {x : It} : ∀ {M : List It}, M.Pairwise lt → (∀ y ∈ M, y.1 ≠ x.1) → (ins x M).Pairwise lt
  | [], _, _ => by simp [ins]
  | y :: l, h, hn => by
    unfold ins
    obtain ⟨h1, h2⟩ := List.pairwise_cons.1 h
    split
    · rename_i hl
      refine List.pairwise_cons.2 ⟨fun z hz => ?_, h⟩
      rcases List.mem_cons.1 hz with rfl | hz
      · exact hl
      · exact lt_trans hl (h1 z hz)
    · rename_i hl
      refine List.pairwise_cons.2 ⟨fun z hz => ?_, ins_sd h2 (fun y' hy' => hn y' (List.mem_cons_of_mem _ hy'))⟩
      rcases List.mem_cons.1 ((ins_perm x l).mem_iff.1 hz) with rfl | hz
      · rcases lt_tot (a := y) (b := z) (hn y (by simp)) with q | q
        · exact q
        · exact absurd q hl
      · exact h1 z hz
theorem mem_at {x : It} (h : x ∈ L) : ∃ k, k < L.length ∧ at_ L k = x := by
  obtain ⟨k, hk, e⟩ := List.getElem_of_mem h
  exact ⟨k, hk, by rw [at_eq hk, e]⟩
theorem root_head {x : It} {M' : List It} (hh : Heap L) (hp : L.Perm (x :: M')) (hs : (x :: M').Pairwise lt) : 0 < L.length ∧ at_ L 0 = x := by
  have h0 : 0 < L.length := by rw [hp.length_eq]; simp
  refine ⟨h0, Classical.byContradiction fun hne => ?_⟩
  have hm : at_ L 0 ∈ x :: M' := hp.mem_iff.1 (at_mem h0)
  rcases List.mem_cons.1 hm with e | hm
  · exact hne e
  · have h1 := (List.pairwise_cons.1 hs).1 _ hm
    obtain ⟨k, hk, e⟩ := mem_at (hp.mem_iff.2 (show x ∈ x :: M' by simp))
    have := hh.root k hk
    rw [e] at this
    exact this h1
structure QS (F : Nat → Prop) (w : World) (q : Nat) (M : List It) (ad : Int) : Prop where
  ex : ∃ m v L, QAt w q m v L ad ∧ L.Perm M ∧ Heap L ∧ F = Foot q m v
  sd : M.Pairwise lt
  ad0 : 0 ≤ ad
def Mv (F F' : Nat → Prop) (w w' : World) : Prop := Only F w w' ∧ ∀ k, F' k → F k ∨ w.heap.size ≤ k
theorem Mv.refl (F : Nat → Prop) (w : World) : Mv F F w w := ⟨Only.refl _ _, fun _ h => .inl h⟩
theorem Mv.trans {F F' F'' : Nat → Prop} {a b c : World} (h : Mv F F' a b) (k : Mv F' F'' b c) : Mv F F'' a c :=
  ⟨h.1.trans k.1 (fun i hi h' => by
    rcases h.2 i h' with g | g
    · exact g
    · omega), fun i hi => by
    rcases k.2 i hi with g | g
    · exact h.2 i g
    · exact .inr (Nat.le_trans h.1.size g)⟩
theorem Mv.of_below {a b : World} (h : Below a.heap.size a b) : Mv F F a b := ⟨foot_of_below h, fun _ h => .inl h⟩
theorem Mv.then_ {F F' : Nat → Prop} {a b c : World} (h : Mv F F' a b) (k : Below b.heap.size b c) : Mv F F' a c := h.trans (Mv.of_below k)
theorem Mv.to {F F' : Nat → Prop} {a b : World} {B : Nat} (h : Mv F F' a b) (hB : B ≤ a.heap.size) (hF : ∀ k, F k → B ≤ k) : Below B a b ∧ ∀ k, F' k → B ≤ k :=
  ⟨h.1.to_below (fun i hi h' => by have := hF i h'; omega) hB, fun k hk => by
    rcases h.2 k hk with g | g
    · exact hF k g
    · omega⟩
theorem QS.lt (h : QS F w q M ad) {k : Nat} (hk : F k) : k < w.heap.size := by
  obtain ⟨m, v, L, h1, h2, h3, rfl⟩ := h.ex
  exact h1.lt hk
theorem QS.keep (h : QS F w q M ad) (e : ∀ k, F k → w'.heap[k]? = w.heap[k]?) : QS F w' q M ad := by
  obtain ⟨m, v, L, h1, h2, h3, rfl⟩ := h.ex
  exact ⟨⟨m, v, L, h1.keep e, h2, h3, rfl⟩, h.sd, h.ad0⟩
theorem QS.below (h : QS F w q M ad) (hb : Below w.heap.size w w') : QS F w' q M ad := h.keep (fun k hk => hb.block k (h.lt hk))
theorem QS.nums (h : QS F w q M ad) : ∀ x ∈ M, 1 ≤ x.1 ∧ x.1 ≤ ad := by
  obtain ⟨m, v, L, h1, h2, h3, rfl⟩ := h.ex
  exact fun x hx => h1.nums x (h2.mem_iff.2 hx)
theorem qnew (w : World) : Calls Try.prog 44 #[] w fun e w' => ∃ q F, e = .returned (.pointer (some ⟨q, 0, none⟩)) ∧ QS F w' q [] 0 ∧ Below w.heap.size w w' ∧ ∀ k, F k → w.heap.size ≤ k := by
  refine (new_any w).mono ?_
  rintro e w' ⟨q, m, rfl, h, hb, hf⟩
  exact ⟨q, _, rfl, ⟨⟨m, _, [], h, List.Perm.refl _, Heap.nil, rfl⟩, List.Pairwise.nil, by omega⟩, hb, hf⟩
theorem qadd (H : QS F w q M ad) (had : ad ≤ 99999) (hl : M.length ≤ 99999) (due : Int) (s : Int) :
    Calls Try.prog 45 #[.pointer (some ⟨q, 0, none⟩), .int .i64 due, .int .i64 s] w fun e w' => e = .returned (.int .i64 (ad + 1)) ∧ ∃ F', QS F' w' q (ins (ad + 1, due, s) M) (ad + 1) ∧ Mv F F' w w' := by
  have hn := H.nums
  obtain ⟨m, v, L, h1, h2, h3, rfl⟩ := H.ex
  refine (add_any h1 h3 H.ad0 had (by rw [h2.length_eq]; exact hl) due s).mono ?_
  rintro e w' ⟨rfl, v', L', p, hh, hq, ho, hf⟩
  have := H.ad0
  exact ⟨rfl, _, ⟨⟨m, v', L', hq, (p.trans (List.Perm.cons _ h2)).trans (ins_perm _ _).symm, hh, rfl⟩, ins_sd H.sd (fun y hy e => by
    have := hn y hy
    have e : y.1 = ad + 1 := e
    omega), by omega⟩, ho, hf⟩
theorem qfirst_nil (H : QS F w q [] ad) : Calls Try.prog 42 #[.pointer (some ⟨q, 0, none⟩)] w fun e w' => e = .returned (.tuple #[.int .i64 0, .int .i64 0, .int .i64 0, .int .i64 14]) ∧ w = w' := by
  obtain ⟨m, v, L, h1, h2, h3, rfl⟩ := H.ex
  obtain rfl := h2.eq_nil
  exact first_nil h1
theorem qfirst {x : It} (H : QS F w q (x :: M) ad) : Calls Try.prog 42 #[.pointer (some ⟨q, 0, none⟩)] w fun e w' => e = .returned (.tuple #[.int .i64 x.1, .int .i64 x.2.1, .int .i64 x.2.2, .int .i64 0]) ∧ Below w.heap.size w w' := by
  obtain ⟨m, v, L, h1, h2, h3, rfl⟩ := H.ex
  obtain ⟨h0, e⟩ := root_head h3 h2 H.sd
  rw [← e]
  exact first_some h1 h0
theorem qpop_nil (H : QS F w q [] ad) (now : Int) : Calls Try.prog 47 #[.pointer (some ⟨q, 0, none⟩), .int .i64 now] w fun e w' => e = .returned (.tuple #[.int .i64 0, .int .i64 0, .int .i64 0, .int .i64 14]) ∧ w = w' := by
  obtain ⟨m, v, L, h1, h2, h3, rfl⟩ := H.ex
  obtain rfl := h2.eq_nil
  exact pop_nil h1 now
theorem qpop_no {x : It} (H : QS F w q (x :: M) ad) {now : Int} (hd : now < x.2.1) : Calls Try.prog 47 #[.pointer (some ⟨q, 0, none⟩), .int .i64 now] w fun e w' => e = .returned (.tuple #[.int .i64 0, .int .i64 0, .int .i64 0, .int .i64 14]) ∧ w = w' := by
  obtain ⟨m, v, L, h1, h2, h3, rfl⟩ := H.ex
  obtain ⟨h0, e⟩ := root_head h3 h2 H.sd
  exact pop_no h1 h0 (by rw [e]; exact hd)
theorem qpop {x : It} (H : QS F w q (x :: M) ad) {now : Int} (hd : ¬ now < x.2.1) (hl : M.length ≤ 99999) (had : ad ≤ 100000) : Calls Try.prog 47 #[.pointer (some ⟨q, 0, none⟩), .int .i64 now] w fun e w' => e = .returned (.tuple #[.int .i64 x.1, .int .i64 x.2.1, .int .i64 x.2.2, .int .i64 0]) ∧ ∃ F', QS F' w' q M ad ∧ Mv F F' w w' := by
  obtain ⟨m, v, L, h1, h2, h3, rfl⟩ := H.ex
  obtain ⟨h0, e⟩ := root_head h3 h2 H.sd
  refine (pop_yes h1 h3 h0 (now := now) (by rw [e]; exact hd) (by rw [h2.length_eq]; simp; omega) had).mono ?_
  rintro e' w' ⟨rfl, v', L', p, hh, hq, ho, hf⟩
  rw [e] at p ⊢
  exact ⟨rfl, _, ⟨⟨m, v', L', hq, (p.trans h2).cons_inv, hh, rfl⟩, (List.pairwise_cons.1 H.sd).2, H.ad0⟩, ho, fun k hk => .inl (hf k hk)⟩
end Go.Proofs.Ytmgfnhbhgmpchaa.qu
