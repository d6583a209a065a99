/-
  Bytes as lists of numbers: slices that read as them, rows of the call's own, appends, strings.
-/
import Derived.Test.YtpfnkmlfpkjkpaaBase
import Derived.OwnWalk
import Derived.Maps.AppendAt
import Derived.Deep.AppendLies
import Derived.Laws.BitsAllLaws
import Derived.Laws.BytesString
import Derived.Laws.IdiomStrings
namespace Go.Proofs.Ytpfnkmlfpkjkpaa.bytes
open Go.RowKit
open base (ret_bool ret_int made up Blk Only Nums)
set_option linter.unusedVariables false

def Small (l : List Nat) : Prop := ∀ c ∈ l, c < 256
theorem small_app {a b : List Nat} (ha : Small a) (hb : Small b) : Small (a ++ b) := fun c hc => by
  rcases List.mem_append.1 hc with h | h
  · exact ha c h
  · exact hb c h
theorem small_take {l : List Nat} (hl : Small l) (k : Nat) : Small (l.take k) := fun c hc => hl c (List.mem_of_mem_take hc)
theorem small_drop {l : List Nat} (hl : Small l) (k : Nat) : Small (l.drop k) := fun c hc => hl c (List.mem_of_mem_drop hc)
theorem small_nil : Small [] := fun c hc => by cases hc
theorem small_one {c : Nat} (h : c < 256) : Small [c] := fun d hd => by rw [List.mem_singleton.1 hd]; exact h
theorem small_at {l : List Nat} (hl : Small l) {k : Nat} (hk : k < l.length) : l.getD k 0 < 256 := by
  have : l.getD k 0 ∈ l := by simp [List.getD, List.getElem?_eq_getElem hk]
  exact hl _ this
def ints (l : List Nat) : List Int := l.map Int.ofNat
def Lay (w : World) (A : Option Addr) (l : List Nat) : Prop := Nums .u8 w A (ints l)
theorem Lay.at_ {w : World} {A : Option Addr} {l : List Nat} (h : Lay w A l) {k : Nat} (hk : k < l.length) : ∃ b off, A = some ⟨b, off, none⟩ ∧ b < w.heap.size ∧ w.cell? ⟨b, off + k, none⟩ = some (.int .u8 (l.getD k 0 : Nat)) := by
  obtain ⟨b, off, e, hb, hc⟩ := h (by simp [ints]; omega)
  refine ⟨b, off, e, hb, ?_⟩
  have := hc k (by simpa [ints] using hk)
  rw [this]
  simp [ints, List.getD, List.getElem?_eq_getElem hk]
theorem take_next {l : List Nat} {k : Nat} (h : k < l.length) : l.take (k + 1) = l.take k ++ [l.getD k 0] := by
  rw [List.take_succ_eq_append_getElem h]; simp [List.getD, List.getElem?_eq_getElem h]
theorem drop_next {l : List Nat} {k : Nat} (h : k < l.length) : l.drop k = l.getD k 0 :: l.drop (k + 1) := by
  rw [List.drop_eq_getElem_cons h]; simp [List.getD, List.getElem?_eq_getElem h]
def By (l : List Nat) : List Value := l.map fun c => Value.int .u8 (Int.ofNat c)
theorem By_append (a b : List Nat) : By (a ++ b) = By a ++ By b := by simp [By]
theorem By_len (a : List Nat) : (By a).length = a.length := by simp [By]
theorem by_one (l : List Nat) : ∀ v ∈ By l, v.oneCell' = true := by
  intro v hv
  obtain ⟨c, _, rfl⟩ := List.mem_map.1 hv
  rfl
theorem Lay.src {w : World} {A : Option Addr} {l : List Nat} (h : Lay w A l) (h0 : 0 < l.length) : ∃ ad, A = some ad ∧ ∀ j v, (By l)[j]? = some v → w.cell? (ad.add j) = some v := by
  obtain ⟨b, off, rfl, _, _⟩ := h.at_ h0
  refine ⟨_, rfl, fun j v hj => ?_⟩
  have hj2 : j < l.length := by have := (List.getElem?_eq_some_iff.1 hj).1; simpa [By] using this
  obtain ⟨b', off', e, _, hc⟩ := h.at_ hj2
  injection e with e
  injection e with e1 e2
  subst e1 e2
  have hadd : (⟨b, off, none⟩ : Addr).add j = ⟨b, off + j, none⟩ := by unfold Addr.add; split <;> simp_all
  rw [hadd, hc]
  simp [By, List.getElem?_eq_getElem hj2] at hj
  rw [← hj]
  simp [List.getD, List.getElem?_eq_getElem hj2]
theorem Lay.below {w w' : World} {A : Option Addr} {l : List Nat} (h : Lay w A l) (hb : Below w.heap.size w w') : Lay w' A l := base.Nums.keep h hb
theorem Lay.alloc {w : World} {A : Option Addr} {l : List Nat} (h : Lay w A l) (o : Obj) : Lay (w.alloc o) A l := h.below (made w o)
theorem Lay.drewN {w : World} {A : Option Addr} {l : List Nat} (h : Lay w A l) (n : Nat) : Lay (w.drewN n) A l := h
theorem Lay.nil (w : World) (A : Option Addr) : Lay w A [] := fun h => absurd h (by simp [ints])
/-- kept where the block that it lies in is kept -/
theorem Lay.keep {w w' : World} {A : Option Addr} {l : List Nat} (h : Lay w A l) (hs : w.heap.size ≤ w'.heap.size) (hk : ∀ ad, A = some ad → w'.heap[ad.block]? = w.heap[ad.block]?) : Lay w' A l := fun h0 => by
  obtain ⟨b, off, e, hb, hc⟩ := h h0
  refine ⟨b, off, e, by omega, fun j hj => ?_⟩
  rw [← hc j hj]
  exact World.cell?_of_block (w := w) (a := ⟨b, off + j, none⟩) (hk ⟨b, off, none⟩ e)
theorem Lay.part {w : World} {b off : Nat} {l : List Nat} (h : Lay w (some ⟨b, off, none⟩) l) (f n : Nat) : Lay w (some ⟨b, off + f, none⟩) ((l.drop f).take n) := by
  intro h0
  have hl : 0 < ((l.drop f).take n).length := by simpa [ints] using h0
  have hfl : f < l.length := by simp at hl; omega
  obtain ⟨b', off', e, hb, _⟩ := h.at_ hfl
  injection e with e
  injection e with e1 e2
  subst e1 e2
  refine ⟨b, off + f, rfl, hb, fun j hj => ?_⟩
  have hj2 : f + j < l.length := by simp [ints] at hj; omega
  have hjn : j < n := by simp [ints] at hj; omega
  obtain ⟨b', off', e, _, hc⟩ := h.at_ hj2
  injection e with e
  injection e with e1 e2
  subst e1 e2
  rw [Nat.add_assoc, hc]
  simp [ints, List.getD, hjn, List.getElem?_drop, List.getElem?_eq_getElem hj2]
theorem Lay.front {w : World} {A : Option Addr} {l : List Nat} (h : Lay w A l) (n : Nat) : Lay w A (l.take n) := by
  intro h0
  have hl : 0 < (l.take n).length := by simpa [ints] using h0
  obtain ⟨b, off, rfl, _, _⟩ := h.at_ (k := 0) (by simp at hl; omega)
  have := h.part 0 n
  rw [List.drop_zero, Nat.add_zero] at this
  exact this h0
theorem lay_lit (w : World) (l : List Nat) (t : TypeId) (fr : Nat × Nat) : Lay (w.alloc (.cells (By l).toArray t fr)) (some ⟨w.heap.size, 0, none⟩) l := by
  intro h0
  refine ⟨w.heap.size, 0, rfl, by simp, fun j hj => ?_⟩
  have hj2 : j < l.length := by simpa [ints] using hj
  have hh : (w.alloc (.cells (By l).toArray t fr)).heap[w.heap.size]? = some (.cells (By l).toArray t fr) := heap_alloc_new w _
  rw [Nat.zero_add, cell_of_row _ w.heap.size j _ t fr hh]
  simp [By, ints, List.getD, List.getElem?_eq_getElem hj2]

/-! A row of the call's own -/
theorem info_u8 : (Try.prog.info? 5).map (fun i => (i.zero, i.size, i.bytes)) = some (some (.int .u8 0), 1, 1) := by kernel_rfl
theorem size_u8 : (Try.prog.info? 5).map (·.size) = some 1 := by kernel_rfl
def Own (w : World) (b : Nat) (v : Value) (l : List Nat) : Prop := w.ownsRow b 5 1 v l.length (By l)
theorem Own.lay {w : World} {b : Nat} {v : Value} {l : List Nat} (h : Own w b v l) : ∃ A c, v = .slice A l.length c ∧ Lay w A l ∧ l.length ≤ c ∧ c ≤ 9223372036854775807 := by
  obtain ⟨_, h2⟩ := h
  rcases h2 with ⟨rfl, h0⟩ | ⟨g, cap, cur, rfl, hb, hg, hnc, hcm, hcs, htake⟩
  · have : l = [] := List.eq_nil_of_length_eq_zero h0
    subst this
    exact ⟨none, 0, rfl, Lay.nil _ _, by simp, by omega⟩
  · refine ⟨_, _, rfl, fun _ => ⟨g, 0, rfl, (Array.getElem?_eq_some_iff.1 hg).1, fun j hj => ?_⟩, hnc, by unfold maxLen at hcm; omega⟩
    have hj2 : j < l.length := by simpa [ints] using hj
    rw [Nat.zero_add, cell_of_row w g j cur _ (0, 0) hg]
    have hj3 : (cur.toList.take (l.length * 1))[j]? = (By l)[j]? := by rw [htake]
    rw [List.getElem?_take, if_pos (by omega)] at hj3
    simpa [By, ints, List.getElem?_eq_getElem hj2, List.getD] using hj3
/-- the same, and where it lies -/
theorem Own.lies {w : World} {b : Nat} {v : Value} {l : List Nat} (h : Own w b v l) : ∃ A c, v = .slice A l.length c ∧ Lay w A l ∧ l.length ≤ c ∧ c ≤ maxLen ∧ (A = none ∧ l = [] ∧ c = 0 ∨ ∃ g, A = some ⟨g, 0, none⟩ ∧ b ≤ g ∧ g < w.heap.size) := by
  obtain ⟨A, c, hv, hL, hc, hm⟩ := h.lay
  refine ⟨A, c, hv, hL, hc, ?_⟩
  subst hv
  rcases h.2 with ⟨e, h0⟩ | ⟨g, cap, cur, e, hb, hg, hnc, hcm, _⟩
  · injection e with e1 e2 e3
    exact ⟨by unfold maxLen; omega, .inl ⟨e1, List.eq_nil_of_length_eq_zero h0, e3⟩⟩
  · injection e with e1 e2 e3
    exact ⟨by omega, .inr ⟨g, e1, hb, (Array.getElem?_eq_some_iff.1 hg).1⟩⟩
theorem Own.keep {w w' : World} {b : Nat} {v : Value} {l : List Nat} (h : Own w b v l) (hk : ∀ g, v.ownBlock = some g → w'.heap[g]? = w.heap[g]?) : Own w' b v l := by
  refine ⟨h.1, ?_⟩
  rcases h.2 with hn | ⟨g, cap, cur, rfl, hg, hgg, rest⟩
  · exact .inl hn
  · exact .inr ⟨g, cap, cur, rfl, hg, (hk g rfl).trans hgg, rest⟩
theorem Own.below {w w' : World} {b : Nat} {v : Value} {l : List Nat} (h : Own w b v l) (hb : Below w.heap.size w w') : Own w' b v l :=
  h.keep fun g hg => hb.block g (h.lt g hg).2
theorem Own.base {w : World} {b b' : Nat} {v : Value} {l : List Nat} (h : Own w b v l) (hb : b' ≤ b) : Own w b' v l := by
  refine ⟨h.1, ?_⟩
  rcases h.2 with hn | ⟨g, cap, cur, rfl, hg, rest⟩
  · exact .inl hn
  · exact .inr ⟨g, cap, cur, rfl, by omega, rest⟩
theorem Own.nil (w : World) (b : Nat) : Own w b (.slice none 0 0) [] := World.ownsRow_nil _ _ _ _
theorem Own.empty {w : World} {b : Nat} (hb : b ≤ w.heap.size) : Own (w.alloc (.cells #[] 5)) b (.slice (some ⟨w.heap.size, 0, none⟩) 0 0) [] :=
  World.ownsRow_lit w #[] 0 hb (by unfold maxLen; omega) rfl
theorem app_nil {w : World} {b n c : Nat} {v : Value} {xs : List Value} {i : TypeInfo} (hi : Try.prog.info? 5 = some i) (h : w.ownsRow b 5 1 v n xs) :
    (Builtin.append_ #[45, 45] 45 #[v, .slice none 0 c]).run Try.prog w = .ok v w := by
  rcases h.2 with ⟨rfl, rfl⟩ | ⟨g, cap, cur, rfl, _, _, hnc, _⟩
  · simp [Builtin.append_, run_underlying Try.underlying45, sizeOf, typeInfo, hi, Builtin.lenOf, Builtin.firstCells]
  · simp [Builtin.append_, run_underlying Try.underlying45, sizeOf, typeInfo, hi, Builtin.lenOf, Builtin.firstCells, hnc, storeCells]

/-- how a world and a row's value have come on by an append -/
structure Grew (w w' : World) (v v' : Value) : Prop where
  grown : w.grownBy w' v.ownBlock
  at_ : v'.ownBlock = v.ownBlock ∨ v'.ownBlock = some w.heap.size

theorem app_run {w : World} {b c : Nat} {v : Value} {A : Option Addr} {l m : List Nat} (h : Own w b v l) (hm : Lay w A m) (hs : l.length + m.length ≤ 100000000) (hb : b ≤ w.heap.size) :
    ∃ v' w', (Builtin.append_ #[45, 45] 45 #[v, .slice A m.length c]).run Try.prog w = .ok v' w' ∧ Own w' b v' (l ++ m) ∧ Grew w w' v v' := by
  obtain ⟨i, hi, hz0, hz1, hz2⟩ := info_parts info_u8
  cases A with
  | none =>
    have h0 : m = [] := by
      rcases Nat.eq_zero_or_pos m.length with q | q
      · exact List.eq_nil_of_length_eq_zero q
      · obtain ⟨_, _, e, _⟩ := hm.at_ q
        cases e
    subst h0
    exact ⟨v, w, app_nil hi h, by rwa [List.append_nil], World.grownBy.refl w _, .inl rfl⟩
  | some ad =>
    have hn : ∀ j u, (By m)[j]? = some u → w.cell? (ad.add j) = some u := by
      intro j u hj
      have hj2 : j < m.length := by have := (List.getElem?_eq_some_iff.1 hj).1; simpa [By] using this
      obtain ⟨ad', e, hc⟩ := hm.src (by omega)
      injection e with e
      subst e
      exact hc j u hj
    obtain ⟨v', w', hr, ho, hg, _, ha⟩ := run_append_own_at (P := Try.prog) w b 45 45 5 i (.int .u8 0) 1 1 Try.underlying45 hi hz0 hz1 hz2 rfl (by decide) v l.length (By l) h ad m.length c (By m) (by simp [By]) hn (by_one m) (by unfold maxLen; omega) (by omega) hb
    refine ⟨v', w', hr, ?_, hg, ha⟩
    unfold Own
    rw [By_append, List.length_append]
    exact ho
theorem wp_app {w : World} {ops : Array Oper} {rest : List Oper} {o : Oper} {a : Act} {Q : Exit → Act → World → Prop} (hgd : o.guard = none) (s x : Operand)
    (ho : o.op = .call { callee := .builtin .append, args := #[s, x], argTypes := #[45, 45] }) (hty : o.type = 45)
    {b c : Nat} {v : Value} {A : Option Addr} {l m : List Nat} (h1 : a.eval s = v) (h2 : a.eval x = .slice A m.length c)
    (h : Own w b v l) (hm : Lay w A m) (hs : l.length + m.length ≤ 100000000) (hb : b ≤ w.heap.size)
    (k : ∀ v' w', Own w' b v' (l ++ m) → Grew w w' v v' → wpList Try.prog ops Q rest (a.put o.dst v') w') : wpList Try.prog ops Q (o :: rest) a w := by
  obtain ⟨v', w', hr, h3, h4⟩ := app_run (c := c) h hm hs hb
  refine wpList_plain hgd fun K hK => ?_
  unfold Oper.wp execOp
  simp only [ho, resolve, invoke, builtin, Sem.run_bind, Sem.run_pure, Result.andThen_ok, List.map_toArray, List.map_cons, List.map_nil, h1, h2, hty, hr]
  exact hK _ _ (k v' w' h3 h4)
theorem Grew.below {w w' : World} {v v' : Value} {b : Nat} {l : List Nat} (h : Grew w w' v v') (ho : Own w b v l) (hb : b ≤ w.heap.size) : Below b w w' :=
  (Below.refl b w).grown h.grown hb (fun k hk => (ho.lt k hk).1)
theorem Grew.only {w w' : World} {v v' : Value} (h : Grew w w' v v') : Only (fun k => some k = v.ownBlock) w w' :=
  (Only.refl _ w).grown h.grown (fun i _ e => e.symm)

/-! Strings -/
def str (l : List Nat) : ByteArray := ⟨(l.map UInt8.ofNat).toArray⟩
theorem conv_any (w : World) (A : Option Addr) (c : Nat) (l : List Nat) (hL : Lay w A l) (hs : Small l) : (convert 45 9 (.slice A l.length c)).run Try.prog w = .ok (.string (str l)) w := by
  cases A with
  | none =>
    have h0 : l = [] := by
      rcases Nat.eq_zero_or_pos l.length with q | q
      · exact List.eq_nil_of_length_eq_zero q
      · obtain ⟨_, _, e, _⟩ := hL.at_ q
        cases e
    subst h0
    exact run_convert_bytes_nil (P := Try.prog) (w := w) 45 5 Try.underlying45 Try.underlying5 0 c 9 Try.underlying9
  | some ad =>
    have := run_convert_bytes_back (P := Try.prog) w 45 9 5 ad c (l.map UInt8.ofNat) Try.underlying45 Try.underlying5 Try.underlying9 (by
      intro j hj
      have hj2 : j < l.length := by simpa using hj
      obtain ⟨ad', e, hc⟩ := hL.src (by omega)
      injection e with e
      subst e
      rw [hc j _ (by simp [By, List.getElem?_eq_getElem hj2]; rfl)]
      have h256 := hs _ (List.getElem_mem hj2)
      simp
      omega)
    rw [List.length_map] at this
    exact this
theorem str_inj {a b : List Nat} (ha : Small a) (hb : Small b) (h : str a = str b) : a = b := by
  have h1 : (a.map UInt8.ofNat) = (b.map UInt8.ofNat) := by
    unfold str at h
    injection h with h
    have := congrArg Array.toList h
    simpa using this
  have h2 : (a.map UInt8.ofNat).map UInt8.toNat = (b.map UInt8.ofNat).map UInt8.toNat := by rw [h1]
  have key : ∀ l : List Nat, Small l → (l.map UInt8.ofNat).map UInt8.toNat = l := by
    intro l hl
    rw [List.map_map]
    conv => rhs; rw [← List.map_id l]
    apply List.map_congr_left
    intro c hc
    have := hl c hc
    simp
    omega
  rwa [key a ha, key b hb] at h2
end Go.Proofs.Ytpfnkmlfpkjkpaa.bytes
