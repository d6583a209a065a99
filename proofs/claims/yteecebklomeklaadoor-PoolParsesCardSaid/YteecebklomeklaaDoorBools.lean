/-
  Bools as lists: slices that read as them, rows of the call's own, appends.
-/
import Derived.Test.YteecebklomeklaaDoorPoolRows
import Derived.OwnWalk
import Derived.Maps.AppendAt
import Derived.Deep.AppendLies
namespace Go.Proofs.YteecebklomeklaaDoor.po
open Go.RowKit
open base (ret_bool ret_int made up Blk Only Nums)
set_option linter.unusedVariables false

def LayB (w : World) (A : Option Addr) (l : List Bool) : Prop := 0 < l.length → ∃ b, A = some ⟨b, 0, none⟩ ∧ b < w.heap.size ∧ ∀ j, j < l.length → w.cell? ⟨b, j, none⟩ = some (.bool (l.getD j false))
def Bo (l : List Bool) : List Value := l.map Value.bool
theorem Bo_append (a b : List Bool) : Bo (a ++ b) = Bo a ++ Bo b := by simp [Bo]
theorem bo_one (l : List Bool) : ∀ v ∈ Bo l, v.oneCell' = true := by
  intro v hv
  obtain ⟨c, _, rfl⟩ := List.mem_map.1 hv
  rfl
theorem LayB.src {w : World} {A : Option Addr} {l : List Bool} (h : LayB w A l) (h0 : 0 < l.length) : ∃ ad, A = some ad ∧ ∀ j v, (Bo l)[j]? = some v → w.cell? (ad.add j) = some v := by
  obtain ⟨b, rfl, _, hc⟩ := h h0
  refine ⟨_, rfl, fun j v hj => ?_⟩
  have hj2 : j < l.length := by have := (List.getElem?_eq_some_iff.1 hj).1; simpa [Bo] using this
  have hadd : (⟨b, 0, none⟩ : Addr).add j = ⟨b, j, none⟩ := by unfold Addr.add; split <;> simp_all
  rw [hadd, hc j hj2]
  simp [Bo, List.getElem?_eq_getElem hj2] at hj
  rw [← hj]
  simp [List.getD, List.getElem?_eq_getElem hj2]
theorem LayB.below {w w' : World} {A : Option Addr} {l : List Bool} (h : LayB w A l) (hb : Below w.heap.size w w') : LayB w' A l := fun h0 => by
  obtain ⟨b, e, hlt, hc⟩ := h h0
  exact ⟨b, e, Nat.lt_of_lt_of_le hlt hb.size, fun j hj => (hb.cell hlt).trans (hc j hj)⟩
theorem RowB.lay {w : World} {gb : Nat} {y : List Bool} (h : RowB w gb y) : LayB w (some ⟨gb, 0, none⟩) y := fun _ => ⟨gb, rfl, h.lt, fun j hj => h.cell hj⟩
theorem lay_one (w : World) (b : Bool) : LayB (w.alloc (.cells #[.bool b] 4)) (some ⟨w.heap.size, 0, none⟩) [b] := fun _ =>
  ⟨w.heap.size, rfl, by rw [asz]; omega, fun j hj => by
    obtain rfl : j = 0 := by simpa using hj
    exact (Blk.new w 4 #[.bool b]).cell 0⟩
def OwnB (w : World) (b : Nat) (v : Value) (l : List Bool) : Prop := w.ownsRow b 4 1 v l.length (Bo l)
theorem OwnB.nil (w : World) (b : Nat) : OwnB w b (.slice none 0 0) [] := World.ownsRow_nil _ _ _ _
theorem OwnB.empty {w : World} {b : Nat} (hb : b ≤ w.heap.size) : OwnB (w.alloc (.cells #[] 4)) b (.slice (some ⟨w.heap.size, 0, none⟩) 0 0) [] :=
  World.ownsRow_lit w #[] 0 hb (by unfold maxLen; omega) rfl
theorem OwnB.keep {w w' : World} {b : Nat} {v : Value} {l : List Bool} (h : OwnB w b v l) (hk : ∀ g, v.ownBlock = some g → w'.heap[g]? = w.heap[g]?) : OwnB w' b v l := by
  refine ⟨h.1, ?_⟩
  rcases h.2 with hn | ⟨g, cap, cur, rfl, hg, hgg, rest⟩
  · exact .inl hn
  · exact .inr ⟨g, cap, cur, rfl, hg, (hk g rfl).trans hgg, rest⟩
theorem OwnB.below {w w' : World} {b : Nat} {v : Value} {l : List Bool} (h : OwnB w b v l) (hb : Below w.heap.size w w') : OwnB w' b v l :=
  h.keep fun g hg => hb.block g (h.lt g hg).2
/-- .. opened: nothing, or a row in a block of its own -/
theorem OwnB.open_ {w : World} {b : Nat} {v : Value} {l : List Bool} (h : OwnB w b v l) : ∃ A c, v = .slice A l.length c ∧ l.length ≤ c ∧ c ≤ maxLen ∧ (A = none ∧ l = [] ∧ c = 0 ∨ ∃ g, A = some ⟨g, 0, none⟩ ∧ b ≤ g ∧ RowB w g l) := by
  obtain ⟨_, h2⟩ := h
  rcases h2 with ⟨rfl, h0⟩ | ⟨g, cap, cur, rfl, hb, hg, hnc, hcm, hcs, htake⟩
  · have : l = [] := List.eq_nil_of_length_eq_zero h0
    subst this
    exact ⟨none, 0, rfl, Nat.le_refl _, by unfold maxLen; omega, .inl ⟨rfl, rfl, rfl⟩⟩
  · refine ⟨_, _, rfl, hnc, hcm, .inr ⟨g, rfl, hb, cur, hg, fun j hj => ?_⟩⟩
    have hj3 : (cur.toList.take (l.length * 1))[j]? = (Bo l)[j]? := by rw [htake]
    rw [List.getElem?_take, if_pos (by omega)] at hj3
    simpa [Bo, List.getElem?_eq_getElem hj, List.getD] using hj3
theorem appB_nil {w : World} {b n c : Nat} {v : Value} {xs : List Value} {i : TypeInfo} (hi : Tryd.prog.info? 4 = some i) (h : w.ownsRow b 4 1 v n xs) :
    (Builtin.append_ #[26, 26] 26 #[v, .slice none 0 c]).run Tryd.prog w = .ok v w := by
  rcases h.2 with ⟨rfl, rfl⟩ | ⟨g, cap, cur, rfl, _, _, hnc, _⟩
  · simp [Builtin.append_, run_underlying Tryd.underlying26, sizeOf, typeInfo, hi, Builtin.lenOf, Builtin.firstCells]
  · simp [Builtin.append_, run_underlying Tryd.underlying26, sizeOf, typeInfo, hi, Builtin.lenOf, Builtin.firstCells, hnc, storeCells]
structure GrewB (w w' : World) (v v' : Value) : Prop where
  grown : w.grownBy w' v.ownBlock
  at_ : v'.ownBlock = v.ownBlock ∨ v'.ownBlock = some w.heap.size
theorem appB_run {w : World} {b c : Nat} {v : Value} {A : Option Addr} {l m : List Bool} (h : OwnB w b v l) (hA : m = [] → A = none ∨ ∃ ad, A = some ad) (hm : LayB w A m) (hs : l.length + m.length ≤ 100000000) (hb : b ≤ w.heap.size) :
    ∃ v' w', (Builtin.append_ #[26, 26] 26 #[v, .slice A m.length c]).run Tryd.prog w = .ok v' w' ∧ OwnB w' b v' (l ++ m) ∧ GrewB w w' v v' := by
  obtain ⟨i, hi, hz0, hz1, hz2⟩ := info_parts info_bool
  cases A with
  | none =>
    have h0 : m = [] := by
      rcases Nat.eq_zero_or_pos m.length with q | q
      · exact List.eq_nil_of_length_eq_zero q
      · obtain ⟨_, e, _⟩ := hm q
        cases e
    subst h0
    exact ⟨v, w, appB_nil hi h, by rwa [List.append_nil], World.grownBy.refl w _, .inl rfl⟩
  | some ad =>
    have hn : ∀ j u, (Bo m)[j]? = some u → w.cell? (ad.add j) = some u := by
      intro j u hj
      have hj2 : j < m.length := by have := (List.getElem?_eq_some_iff.1 hj).1; simpa [Bo] using this
      obtain ⟨ad', e, hc⟩ := hm.src (by omega)
      injection e with e
      subst e
      exact hc j u hj
    obtain ⟨v', w', hr, ho, hg, _, ha⟩ := run_append_own_at (P := Tryd.prog) w b 26 26 4 i (.bool false) 1 1 Tryd.underlying26 hi hz0 hz1 hz2 rfl (by decide) v l.length (Bo l) h ad m.length c (Bo m) (by simp [Bo]) hn (bo_one m) (by unfold maxLen; omega) (by omega) hb
    refine ⟨v', w', hr, ?_, hg, ha⟩
    unfold OwnB
    rw [Bo_append, List.length_append]
    exact ho
theorem wp_appB {w : World} {ops : Array Oper} {rest : List Oper} {o : Oper} {a : Act} {Q : Exit → Act → World → Prop} (hgd : o.guard = none) (s x : Operand)
    (ho : o.op = .call { callee := .builtin .append, args := #[s, x], argTypes := #[26, 26] }) (hty : o.type = 26)
    {b c : Nat} {v : Value} {A : Option Addr} {l m : List Bool} (h1 : a.eval s = v) (h2 : a.eval x = .slice A m.length c)
    (h : OwnB w b v l) (hm : LayB w A m) (hs : l.length + m.length ≤ 100000000) (hb : b ≤ w.heap.size)
    (k : ∀ v' w', OwnB w' b v' (l ++ m) → GrewB w w' v v' → wpList Tryd.prog ops Q rest (a.put o.dst v') w') : wpList Tryd.prog ops Q (o :: rest) a w := by
  obtain ⟨v', w', hr, h3, h4⟩ := appB_run (c := c) h (fun _ => by cases A <;> simp) hm hs hb
  refine wpList_plain hgd fun K hK => ?_
  unfold Oper.wp execOp
  simp only [ho, resolve, invoke, builtin, Sem.run_bind, Sem.run_pure, Result.andThen_ok, List.map_toArray, List.map_cons, List.map_nil, h1, h2, hty, hr]
  exact hK _ _ (k v' w' h3 h4)
theorem GrewB.below {w w' : World} {v v' : Value} {b : Nat} {l : List Bool} (h : GrewB w w' v v') (ho : OwnB w b v l) (hb : b ≤ w.heap.size) : Below b w w' :=
  (Below.refl b w).grown h.grown hb (fun k hk => (ho.lt k hk).1)

/-! The reference: all free; the next free one -/
def NewB (l : List Bool) (w : World) (e : Ending) (w' : World) : Prop := ∃ v, e = .returned v ∧ OwnB w' w.heap.size v l ∧ Below w.heap.size w w'
set_option maxRecDepth 100000 in
set_option maxHeartbeats 2000000 in
theorem rnew_any (n : Nat) (w : World) (hn : n ≤ 1000000) :
    Calls Tryd.prog 10 #[.int .i64 n] w (NewB (List.replicate n true) w) := by
  go_enter Tryd.func10, Tryd.ntmps10
  go_wp2_with fail
  go_loopw [3, 4] (fun o i wr => ∃ (k : Nat) (W : World), W = wr ∧ k ≤ n ∧ i = .int .i64 k ∧ OwnB wr w.heap.size o (List.replicate k true) ∧ Below w.heap.size w wr) (fun _ i _ => n - (intOf i).toNat)
  case atStart => exact ⟨0, _, rfl, by omega, rfl, OwnB.nil _ _, Below.refl _ _⟩
  case round =>
    obtain ⟨k, w2, rfl, hk, rfl, ho, hb⟩ := hrel
    have B := Lib.hid hb
    by_cases hkn : k < n
    · have O := Lib.hid (ho.below (made w2 (.cells #[.bool true] 4)))
      have L := Lib.hid (lay_one w2 true)
      have B1 := Lib.hid (hb.alloc hb.size (.cells #[.bool true] 4))
      clear ho hb
      go_wp2_with ((with_reducible show wpList _ _ _ (⟨some 12, _, _, _, _, _⟩ :: _) _ _); go_must (refine wp_appB (c := 1) rfl _ _ rfl rfl rfl rfl O.out L.out (by simp; omega) B1.out.size ?_))
      intro v2 w3 own2 grew2
      have B3 := Lib.hid (B1.out.trans (grew2.below O.out B1.out.size))
      have O3 := Lib.hid (show OwnB w3 w.heap.size v2 (List.replicate (k + 1) true) from by rw [List.replicate_succ']; exact own2)
      obtain ⟨A2, c2, rfl, -⟩ := O3.out.open_
      clear own2 grew2 O L B1 B
      go_wp2_with fail
      refine ⟨⟨k + 1, _, rfl, by omega, by go_num, O3.out, B3.out⟩, by simp [intOf]; omega⟩
    · obtain rfl : k = n := by omega
      have O := Lib.hid ho
      clear ho hb
      go_wp2_with fail
      go_ret
      exact ⟨_, rfl, O.out, B.out⟩
def nextI : Option Nat → Int
  | some j => j
  | none => -1
set_option maxRecDepth 100000 in
set_option maxHeartbeats 2000000 in
theorem rnext_any (A : Option Addr) (c : Nat) (x : List Bool) (i : Nat) (o : Option Nat) (w : World) (hA : LayB w A x) (ho : pnum.NextIs x i o) (hl : x.length ≤ 65536) :
    Calls Tryd.prog 15 #[.slice A x.length c, .int .i64 i] w fun e w' => e = .returned (.int .i64 (nextI o)) ∧ w' = w := by
  have L := Lib.hid hA
  have HO := Lib.hid ho
  clear hA ho
  go_enter Tryd.func15, Tryd.ntmps15
  go_wp2_with fail
  go_loop [5] (fun j => ∃ k : Nat, j = .int .i64 k ∧ k ≤ x.length ∧ ∀ m, i ≤ m → m < k → x.getD m false = false) (fun j => x.length - (intOf j).toNat)
  case atStart => exact ⟨0, rfl, by omega, fun m _ h => by omega⟩
  case round =>
    obtain ⟨k, rfl, hk, hno⟩ := hrel
    have NO := Lib.hid hno
    clear hno
    by_cases hkl : k < x.length
    · obtain ⟨b, rfl, _, hc⟩ := L.out (by omega)
      have hc2 := hc k hkl
      clear hc
      obtain ⟨v, hv⟩ : ∃ v, v = x.getD k false := ⟨_, rfl⟩
      rw [← hv] at hc2
      have V := Lib.hid hv
      clear hv
      by_cases hik : i ≤ k
      · cases v with
        | true =>
          go_wp2_with fail
          go_ret
          have e := HO.out.unique (show pnum.NextIs x i (some k) from ⟨hik, hkl, V.out.symm, NO.out⟩)
          subst e
          exact ⟨rfl, rfl⟩
        | false =>
          go_wp2_with fail
          refine ⟨⟨k + 1, by go_num, by omega, fun m a b => ?_⟩, by simp [intOf]; omega⟩
          by_cases e : m = k
          · subst e; exact V.out.symm
          · exact NO.out m a (by omega)
      · cases v with
        | true =>
          go_wp2_with fail
          refine ⟨⟨k + 1, by go_num, by omega, fun m a b => ?_⟩, by simp [intOf]; omega⟩
          exact NO.out m a (by omega)
        | false =>
          go_wp2_with fail
          refine ⟨⟨k + 1, by go_num, by omega, fun m a b => ?_⟩, by simp [intOf]; omega⟩
          exact NO.out m a (by omega)
    · go_wp2_with fail
      go_ret
      have e := HO.out.unique (show pnum.NextIs x i none from fun m a => by
        by_cases hm : m < k
        · exact NO.out m a hm
        · simp [List.getD, List.getElem?_eq_none (show x.length ≤ m by omega)])
      subst e
      exact ⟨rfl, rfl⟩
end Go.Proofs.YteecebklomeklaaDoor.po
