/-
  Rows of numbers of the call's own, appends, slices.Clone, Insert, BinarySearch where there is nothing.
-/
import Derived.Test.YtemkhblogmdleaaDoorAccB
import Derived.OwnWalk
import Derived.Maps.AppendAt
import Derived.Deep.AppendLies
import Derived.Laws.Cover3
namespace Go.Proofs.YtemkhblogmdleaaDoor.ac
open Go.RowKit
open base (ret_bool ret_int made up Blk Only Nums)
set_option linter.unusedVariables false
set_option linter.unusedSimpArgs false

theorem info_int : (Tryd.prog.info? 3).map (fun i => (i.zero, i.size, i.bytes)) = some (some (.int .i64 0), 1, 8) := by kernel_rfl
def In (l : List Int) : List Value := l.map (Value.int .i64)
theorem In_append (a b : List Int) : In (a ++ b) = In a ++ In b := by simp [In]
theorem in_one (l : List Int) : ∀ v ∈ In l, v.oneCell' = true := by
  intro v hv
  obtain ⟨c, _, rfl⟩ := List.mem_map.1 hv
  rfl
theorem src {w : World} {A : Option Addr} {l : List Int} (h : Nums .i64 w A l) (h0 : 0 < l.length) : ∃ ad, A = some ad ∧ ∀ j v, (In l)[j]? = some v → w.cell? (ad.add j) = some v := by
  obtain ⟨b, off, rfl, _, hc⟩ := h h0
  refine ⟨_, rfl, fun j v hj => ?_⟩
  have hj2 : j < l.length := by have := (List.getElem?_eq_some_iff.1 hj).1; simpa [In] using this
  have hadd : (⟨b, off, none⟩ : Addr).add j = ⟨b, off + j, none⟩ := by unfold Addr.add; split <;> simp_all
  rw [hadd, hc j hj2]
  simp [In, List.getElem?_eq_getElem hj2] at hj
  rw [← hj]
  simp [List.getD, List.getElem?_eq_getElem hj2]
theorem nil_of {w : World} {l : List Int} (h : Nums .i64 w none l) : l = [] := by
  rcases Nat.eq_zero_or_pos l.length with q | q
  · exact List.eq_nil_of_length_eq_zero q
  · obtain ⟨_, _, e, _⟩ := h q
    cases e
def OwnI (w : World) (b : Nat) (v : Value) (l : List Int) : Prop := w.ownsRow b 3 1 v l.length (In l)
theorem OwnI.nil (w : World) (b : Nat) : OwnI w b (.slice none 0 0) [] := World.ownsRow_nil _ _ _ _
theorem OwnI.empty {w : World} {b : Nat} (hb : b ≤ w.heap.size) : OwnI (w.alloc (.cells #[] 3)) b (.slice (some ⟨w.heap.size, 0, none⟩) 0 0) [] :=
  World.ownsRow_lit w #[] 0 hb (by unfold maxLen; omega) rfl
theorem OwnI.keep {w w' : World} {b : Nat} {v : Value} {l : List Int} (h : OwnI w b v l) (hk : ∀ g, v.ownBlock = some g → w'.heap[g]? = w.heap[g]?) : OwnI w' b v l := by
  refine ⟨h.1, ?_⟩
  rcases h.2 with hn | ⟨g, cap, cur, rfl, hg, hgg, rest⟩
  · exact .inl hn
  · exact .inr ⟨g, cap, cur, rfl, hg, (hk g rfl).trans hgg, rest⟩
theorem OwnI.below {w w' : World} {b : Nat} {v : Value} {l : List Int} (h : OwnI w b v l) (hb : Below w.heap.size w w') : OwnI w' b v l :=
  h.keep fun g hg => hb.block g (h.lt g hg).2
/-- .. opened -/
theorem OwnI.open_ {w : World} {b : Nat} {v : Value} {l : List Int} (h : OwnI w b v l) : ∃ A c, v = .slice A l.length c ∧ l.length ≤ c ∧ c ≤ maxLen ∧ Nums .i64 w A l ∧ (A = none ∧ l = [] ∧ c = 0 ∨ ∃ g, A = some ⟨g, 0, none⟩ ∧ b ≤ g ∧ g < w.heap.size) := by
  obtain ⟨_, h2⟩ := h
  rcases h2 with ⟨rfl, h0⟩ | ⟨g, cap, cur, rfl, hb, hg, hnc, hcm, hcs, htake⟩
  · have : l = [] := List.eq_nil_of_length_eq_zero h0
    subst this
    exact ⟨none, 0, rfl, Nat.le_refl _, by unfold maxLen; omega, fun h => absurd h (by simp), .inl ⟨rfl, rfl, rfl⟩⟩
  · refine ⟨_, _, rfl, hnc, hcm, fun _ => ⟨g, 0, rfl, (Array.getElem?_eq_some_iff.1 hg).1, fun j hj => ?_⟩, .inr ⟨g, rfl, hb, (Array.getElem?_eq_some_iff.1 hg).1⟩⟩
    rw [Nat.zero_add, cell_of_row w g j cur _ (0, 0) hg]
    have hj3 : (cur.toList.take (l.length * 1))[j]? = (In l)[j]? := by rw [htake]
    rw [List.getElem?_take, if_pos (by omega)] at hj3
    simpa [In, List.getElem?_eq_getElem hj, List.getD] using hj3
theorem appI_nil {w : World} {b n c : Nat} {v : Value} {xs : List Value} {i : TypeInfo} (hi : Tryd.prog.info? 3 = some i) (h : w.ownsRow b 3 1 v n xs) :
    (Builtin.append_ #[22, 22] 22 #[v, .slice none 0 c]).run Tryd.prog w = .ok v w := by
  rcases h.2 with ⟨rfl, rfl⟩ | ⟨g, cap, cur, rfl, _, _, hnc, _⟩
  · simp [Builtin.append_, run_underlying Tryd.underlying22, sizeOf, typeInfo, hi, Builtin.lenOf, Builtin.firstCells]
  · simp [Builtin.append_, run_underlying Tryd.underlying22, sizeOf, typeInfo, hi, Builtin.lenOf, Builtin.firstCells, hnc, storeCells]
structure GrewI (w w' : World) (v v' : Value) : Prop where
  grown : w.grownBy w' v.ownBlock
  at_ : v'.ownBlock = v.ownBlock ∨ v'.ownBlock = some w.heap.size
theorem appI_run {w : World} {b c : Nat} {v : Value} {A : Option Addr} {l m : List Int} (h : OwnI w b v l) (hm : Nums .i64 w A m) (hs : l.length + m.length ≤ 100000000) (hb : b ≤ w.heap.size) :
    ∃ v' w', (Builtin.append_ #[22, 22] 22 #[v, .slice A m.length c]).run Tryd.prog w = .ok v' w' ∧ OwnI w' b v' (l ++ m) ∧ GrewI w w' v v' := by
  obtain ⟨i, hi, hz0, hz1, hz2⟩ := info_parts info_int
  cases A with
  | none =>
    have h0 := nil_of hm
    subst h0
    exact ⟨v, w, appI_nil hi h, by rwa [List.append_nil], World.grownBy.refl w _, .inl rfl⟩
  | some ad =>
    have hn : ∀ j u, (In m)[j]? = some u → w.cell? (ad.add j) = some u := by
      intro j u hj
      have hj2 : j < m.length := by have := (List.getElem?_eq_some_iff.1 hj).1; simpa [In] using this
      obtain ⟨ad', e, hc⟩ := src hm (by omega)
      injection e with e
      subst e
      exact hc j u hj
    obtain ⟨v', w', hr, ho, hg, _, ha⟩ := run_append_own_at (P := Tryd.prog) w b 22 22 3 i (.int .i64 0) 1 8 Tryd.underlying22 hi hz0 hz1 hz2 rfl (by decide) v l.length (In l) h ad m.length c (In m) (by simp [In]) hn (in_one m) (by unfold maxLen; omega) (by omega) hb
    refine ⟨v', w', hr, ?_, hg, ha⟩
    unfold OwnI
    rw [In_append, List.length_append]
    exact ho
theorem wp_appI {w : World} {ops : Array Oper} {rest : List Oper} {o : Oper} {a : Act} {Q : Exit → Act → World → Prop} (hgd : o.guard = none) (s x : Operand)
    (ho : o.op = .call { callee := .builtin .append, args := #[s, x], argTypes := #[22, 22] }) (hty : o.type = 22)
    {b c : Nat} {v : Value} {A : Option Addr} {l m : List Int} (h1 : a.eval s = v) (h2 : a.eval x = .slice A m.length c)
    (h : OwnI w b v l) (hm : Nums .i64 w A m) (hs : l.length + m.length ≤ 100000000) (hb : b ≤ w.heap.size)
    (k : ∀ v' w', OwnI w' b v' (l ++ m) → GrewI w w' v v' → wpList Tryd.prog ops Q rest (a.put o.dst v') w') : wpList Tryd.prog ops Q (o :: rest) a w := by
  obtain ⟨v', w', hr, h3, h4⟩ := appI_run (c := c) h hm hs hb
  refine wpList_plain hgd fun K hK => ?_
  unfold Oper.wp execOp
  simp only [ho, resolve, invoke, builtin, Sem.run_bind, Sem.run_pure, Result.andThen_ok, List.map_toArray, List.map_cons, List.map_nil, h1, h2, hty, hr]
  exact hK _ _ (k v' w' h3 h4)
theorem GrewI.below {w w' : World} {v v' : Value} {b : Nat} {l : List Int} (h : GrewI w w' v v') (ho : OwnI w b v l) (hb : b ≤ w.heap.size) : Below b w w' :=
  (Below.refl b w).grown h.grown hb (fun k hk => (ho.lt k hk).1)
theorem eql_nil (w : World) (a : Option Addr) (n c : Nat) : (binOp .eql 22 (.slice a n c) (.slice none 0 0)).run Tryd.prog w = .ok (.bool a.isNone) w := by
  simp only [binOp]
  simp [Op.equal, Op.maxDepth, run_equalIn_slice_nil w 9999 22 3 a n c Tryd.underlying22]
def NewI (l : List Int) (w : World) (e : Ending) (w' : World) : Prop := ∃ v, e = .returned v ∧ OwnI w' w.heap.size v l ∧ Below w.heap.size w w'
set_option maxHeartbeats 1000000 in
theorem clone_any (A : Option Addr) (c : Nat) (l : List Int) (w : World) (hL : Nums .i64 w A l) (hl : l.length ≤ 10000000) :
    Calls Tryd.prog 27 #[.slice A l.length c] w (NewI l w) := by
  cases A with
  | none =>
    have h0 := nil_of hL
    subst h0
    have Q := eql_nil w none 0 c
    clear hL
    go_enter Tryd.func27, Tryd.ntmps27
    go_wp2_with fail
    go_ret
    exact ⟨_, rfl, OwnI.nil _ _, Below.refl _ _⟩
  | some ad =>
    have O0 := Lib.hid (OwnI.empty (w := w) (Nat.le_refl _))
    have L := Lib.hid (base.Nums.keep hL (made w (.cells #[] 3)))
    have Q := eql_nil w (some ad) l.length c
    clear hL
    go_enter Tryd.func27, Tryd.ntmps27
    go_wp2_with ((with_reducible show wpList _ _ _ (⟨some 7, _, _, _, _, _⟩ :: _) _ _); go_must (refine wp_appI (c := c) rfl _ _ rfl rfl rfl rfl O0.out L.out (by simp; omega) (by simp) ?_))
    intro v2 w2 own2 grew2
    have hb := (made w (.cells #[] 3)).trans (grew2.below O0.out (by simp))
    have O2 := Lib.hid (And.intro own2 hb)
    clear own2 grew2 hb
    go_wp2_with fail
    go_ret
    exact ⟨_, rfl, O2.out.1, O2.out.2⟩
set_option maxHeartbeats 1000000 in
theorem bsearch_nil (p : Int) (w : World) :
    Calls Tryd.prog 32 #[.slice none 0 0, .int .i64 p] w fun e w' => e = .returned (.tuple #[.int .i64 0, .bool false]) ∧ w' = w := by
  go_enter Tryd.func32, Tryd.ntmps32
  go_wp2_with fail
  go_loop [7, 8] (fun i j => i = .int .i64 0 ∧ j = .int .i64 0) (fun _ _ => 0)
  case atStart => exact ⟨rfl, rfl⟩
  case round =>
    obtain ⟨rfl, rfl⟩ := hrel
    go_wp2_with fail
    go_ret2
    exact ⟨rfl, rfl⟩
set_option maxHeartbeats 1000000 in
theorem insert_nil (b : Nat) (p : Int) (w : World) (h : w.cell? ⟨b, 0, none⟩ = some (.int .i64 p)) (hb : b < w.heap.size) :
    Calls Tryd.prog 33 #[.slice none 0 0, .int .i64 0, .slice (some ⟨b, 0, none⟩) 1 1] w (NewI [p] w) := by
  have N := Lib.hid (show Nums .i64 w (some ⟨b, 0, none⟩) [p] from fun _ => ⟨b, 0, rfl, hb, fun j hj => by
    obtain rfl : j = 0 := by simpa using hj
    exact h⟩)
  have O0 := Lib.hid (OwnI.nil w w.heap.size)
  clear h
  go_enter Tryd.func33, Tryd.ntmps33
  go_wp2_with ((with_reducible show wpList _ _ _ (⟨some 25, _, _, _, _, _⟩ :: _) _ _); go_must (refine wp_appI (c := 1) rfl _ _ rfl rfl rfl rfl O0.out N.out (by simp) (by omega) ?_))
  intro v2 w2 own2 grew2
  have O2 := Lib.hid (And.intro own2 (grew2.below O0.out (Nat.le_refl _)))
  clear own2 grew2
  go_wp2_with fail
  go_ret
  exact ⟨_, rfl, O2.out.1, O2.out.2⟩
end Go.Proofs.YtemkhblogmdleaaDoor.ac
