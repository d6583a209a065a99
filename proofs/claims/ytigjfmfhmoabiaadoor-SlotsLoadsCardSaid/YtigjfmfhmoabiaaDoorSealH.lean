/-
  Bytes that are appended to a row of the call's own, wherever they come from; SealSums.
-/
import Derived.Test.YtigjfmfhmoabiaaDoorSealG
import Derived.OwnWalk
namespace Go.Proofs.YtigjfmfhmoabiaaDoor.sl
open Go.RowKit
open base (ret_bool ret_int made up Blk Only Nums)
open crc
set_option linter.unusedVariables false

def Own (w : World) (b : Nat) (v : Value) (l : List Nat) : Prop := w.ownsRow b 5 1 v l.length (By l)
theorem Own.lay {w : World} {b : Nat} {v : Value} {l : List Nat} (h : Own w b v l) : ∃ A c, v = .slice A l.length c ∧ Lay w A l ∧ l.length ≤ c ∧ c ≤ 9223372036854775807 := by
  obtain ⟨_, h2⟩ := h
  rcases h2 with ⟨rfl, h0⟩ | ⟨g, cap, cur, rfl, hb, hg, hnc, hcm, hcs, htake⟩
  · have : l = [] := List.eq_nil_of_length_eq_zero h0
    subst this
    exact ⟨none, 0, rfl, fun h => absurd h (by simp [ints]), by simp, by omega⟩
  · refine ⟨_, _, rfl, fun _ => ⟨g, 0, rfl, (Array.getElem?_eq_some_iff.1 hg).1, fun j hj => ?_⟩, hnc, by unfold maxLen at hcm; omega⟩
    have hj2 : j < l.length := by simpa [ints] using hj
    rw [Nat.zero_add, cell_of_row w g j cur _ (0, 0) hg]
    have hj3 : (cur.toList.take (l.length * 1))[j]? = (By l)[j]? := by rw [htake]
    rw [List.getElem?_take, if_pos (by omega)] at hj3
    simpa [By, ints, List.getElem?_eq_getElem hj2, List.getD] using hj3

theorem app_nil {w : World} {b n c : Nat} {v : Value} {xs : List Value} {i : TypeInfo} (hi : Tryd.prog.info? 5 = some i) (h : w.ownsRow b 5 1 v n xs) :
    (Builtin.append_ #[27, 27] 27 #[v, .slice none 0 c]).run Tryd.prog w = .ok v w := by
  rcases h.2 with ⟨rfl, rfl⟩ | ⟨g, cap, cur, rfl, _, _, hnc, _⟩
  · simp [Builtin.append_, run_underlying Tryd.underlying27, sizeOf, typeInfo, hi, Builtin.lenOf, Builtin.firstCells]
  · simp [Builtin.append_, run_underlying Tryd.underlying27, sizeOf, typeInfo, hi, Builtin.lenOf, Builtin.firstCells, hnc, storeCells]

theorem app_run {w : World} {b c : Nat} {v : Value} {A : Option Addr} {l m : List Nat} (h : Own w b v l) (hm : Lay w A m) (hs : l.length + m.length ≤ 1000000) (hb : b ≤ w.heap.size) :
    ∃ v' w', (Builtin.append_ #[27, 27] 27 #[v, .slice A m.length c]).run Tryd.prog w = .ok v' w' ∧ Own w' b v' (l ++ m) ∧ Below b w w' := by
  obtain ⟨i, hi, hz0, hz1, hz2⟩ := info_parts info_u8
  cases A with
  | none =>
    have h0 : m = [] := by
      rcases Nat.eq_zero_or_pos m.length with q | q
      · exact List.eq_nil_of_length_eq_zero q
      · obtain ⟨_, _, e, _⟩ := hm.at_ q
        cases e
    subst h0
    exact ⟨v, w, app_nil hi h, by rwa [List.append_nil], Below.refl _ _⟩
  | some ad =>
    have hn : ∀ j u, (By m)[j]? = some u → w.cell? (ad.add j) = some u := by
      intro j u hj
      have hj2 : j < m.length := by have := (List.getElem?_eq_some_iff.1 hj).1; simpa [By] using this
      obtain ⟨ad', e, hc⟩ := hm.src (by omega)
      injection e with e
      subst e
      exact hc j u hj
    obtain ⟨v', w', hr, ho, hg, _⟩ := run_append_own (P := Tryd.prog) w b 27 27 5 i (.int .u8 0) 1 1 Tryd.underlying27 hi hz0 hz1 hz2 rfl (by decide) v l.length (By l) h ad m.length c (By m) (by simp [By]) hn (by_one m) (by unfold maxLen; omega) (by omega) hb
    refine ⟨v', w', hr, ?_, (Below.refl b w).grown hg hb (fun k hk => (h.lt k hk).1)⟩
    unfold Own
    rw [By_append, List.length_append]
    exact ho

theorem wp_app {w : World} {ops : Array Oper} {rest : List Oper} {o : Oper} {a : Act} {Q : Exit → Act → World → Prop} (hgd : o.guard = none) (s x : Operand)
    (ho : o.op = .call { callee := .builtin .append, args := #[s, x], argTypes := #[27, 27] }) (hty : o.type = 27)
    {b c : Nat} {v : Value} {A : Option Addr} {l m : List Nat} (h1 : a.eval s = v) (h2 : a.eval x = .slice A m.length c)
    (h : Own w b v l) (hm : Lay w A m) (hs : l.length + m.length ≤ 1000000) (hb : b ≤ w.heap.size)
    (k : ∀ v' w', Own w' b v' (l ++ m) → Below b w w' → wpList Tryd.prog ops Q rest (a.put o.dst v') w') : wpList Tryd.prog ops Q (o :: rest) a w := by
  obtain ⟨v', w', hr, h3, h4⟩ := app_run (c := c) h hm hs hb
  refine wpList_plain hgd fun K hK => ?_
  unfold Oper.wp execOp
  simp only [ho, resolve, invoke, builtin, Sem.run_bind, Sem.run_pure, Result.andThen_ok, List.map_toArray, List.map_cons, List.map_nil, h1, h2, hty, hr]
  exact hK _ _ (k v' w' h3 h4)
end Go.Proofs.YtigjfmfhmoabiaaDoor.sl
