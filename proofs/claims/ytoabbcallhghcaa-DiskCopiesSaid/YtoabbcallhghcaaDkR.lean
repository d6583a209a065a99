/-
  Blocks beside the disk; what DiskKeeps holds of it.
-/
import Derived.Test.YtoabbcallhghcaaDkP
import Derived.Test.YtoabbcallhghcaaDkQ
import Derived.Test.YtoabbcallhghcaaDkG
namespace Go.Proofs.Ytoabbcallhghcaa.dk
open Go.RowKit
open base (ret_bool ret_int made up Blk Only)
open mk
open bytes (Small)
set_option linter.unusedVariables false
set_option linter.unusedSimpArgs false
variable {U : Nat → Prop} {w w' : World} {B g s m c : Nat} {d : DD}

theorem DU.apart (h : DU U w B g s m d c) {k : Nat} {t : TypeId} {cs : Array Value} (hb : Blk w k t cs) (h1 : t ≠ 61) (h2 : t ≠ 29) : k ≠ g ∧ k ≠ s ∧ k ≠ m := by
  obtain ⟨k', cs', F, q1, q2, q3, q4, q5, q6, q7, q8⟩ := h.ex
  exact ⟨ty_ne hb q1 h1, ty_ne hb q2 h2, fun e => MapIs.ne q7 hb e.symm⟩
theorem Chg.blk {k : Nat} {t : TypeId} {cs : Array Value} (hc : Chg g s m w w') (h : DU U w B g s m d c) (hb : Blk w k t cs) (h1 : t ≠ 61) (h2 : t ≠ 29) : Blk w' k t cs := hb.only hc (fun q => by
  obtain ⟨a, b, e⟩ := h.apart hb h1 h2
  rcases q with q | q | q
  · exact a q
  · exact b q
  · exact e q)
theorem DU.far (h : DU U w B g s m d c) {k : Nat} {t : TypeId} {cs : Array Value} (hb : Blk w k t cs) (h1 : t ≠ 61) (h2 : t ≠ 29) (h3 : t ≠ 5) (i : Nat) (u : Value) : DU U (w.setCell ⟨k, i, none⟩ u) B g s m d c := by
  obtain ⟨a, b, e⟩ := h.apart hb h1 h2
  exact h.keep (Below.heap_setCell w ⟨k, i, none⟩ u g (fun q => a q.symm)) (Below.heap_setCell w ⟨k, i, none⟩ u s (fun q => b q.symm)) (Below.heap_setCell w ⟨k, i, none⟩ u m (fun q => e q.symm)) (by simp [World.setCell]) (fun j cs2 _ hj => hj.far (ty_ne hj hb (fun q => h3 q.symm)) u)
/-- six strings -/
def strs (f : Int → List Nat) : Array Value := #[.string (bytes.str (f 0)), .string (bytes.str (f 1)), .string (bytes.str (f 2)), .string (bytes.str (f 3)), .string (bytes.str (f 4)), .string (bytes.str (f 5))]
theorem strs_at (f : Int → List Nat) {i : Nat} (hi : i < 6) : (strs f)[i]? = some (.string (bytes.str (f i))) := by
  match i, hi with
  | 0, _ => rfl
  | 1, _ => rfl
  | 2, _ => rfl
  | 3, _ => rfl
  | 4, _ => rfl
  | 5, _ => rfl
theorem strs_pt (f : Int → List Nat) {i : Nat} (hi : i < 6) (l : List Nat) : (strs f).setIfInBounds i (.string (bytes.str l)) = strs (pt f i l) := by
  match i, hi with
  | 0, _ => rfl
  | 1, _ => rfl
  | 2, _ => rfl
  | 3, _ => rfl
  | 4, _ => rfl
  | 5, _ => rfl
theorem strs_of {cs : Array Value} (hs : cs.size = 6) {f : Int → List Nat} (h : ∀ i : Nat, i < 6 → cs[i]? = some (.string (bytes.str (f i)))) : cs = strs f := by
  apply Array.ext_getElem?
  intro i
  by_cases hi : i < 6
  · rw [h i hi, strs_at f hi]
  · rw [Array.getElem?_eq_none (by omega), Array.getElem?_eq_none (by show 6 ≤ i; omega)]
def DD.now (d : DD) : Int → List Nat := fun i => (d.cache i).getD (d.sec i)
theorem now_keep (d : DD) (i : Int) (l : List Nat) : (d.keep i l).now = pt d.now i l := by
  funext j
  show (pt d.cache i (some l) j).getD (d.sec j) = pt d.now i l j
  by_cases e : j = i
  · subst e; rw [pt_same, pt_same]; rfl
  · rw [pt_other _ _ e, pt_other _ _ e]; rfl
theorem now_flush (d : DD) : d.merged.bare.now = d.now ∧ d.merged.bare.sec = d.now := ⟨rfl, rfl⟩
theorem DU.mono (h : DU U w B g s m d c) {B' : Nat} (hB : B' ≤ B) : DU U w B' g s m d c := ⟨h.ex, h.gd, Nat.le_trans hB h.gb, Nat.le_trans hB h.sb, Nat.le_trans hB h.mb, h.fresh⟩
structure Like (d d' : DD) : Prop where
  n : d'.n = d.n
  size : d'.size = d.size
  lo : d.done ≤ d'.done
  hi : d'.done ≤ d.done + 1
theorem Like.refl (d : DD) : Like d d := ⟨rfl, rfl, by omega, by omega⟩
theorem cmd_spec (d : DD) : Like d d.cmd ∧ d.cmd.sec = d.sec ∧ d.cmd.cache = d.cache ∧ (d.cmdE = 0 ∨ d.cmdE = 20) := by
  unfold DD.cmd DD.cmdE
  split
  · exact ⟨⟨rfl, rfl, by show d.done ≤ d.done; omega, by show d.done ≤ _; omega⟩, rfl, rfl, Or.inr rfl⟩
  · exact ⟨⟨rfl, rfl, by show d.done ≤ d.done + 1; omega, by show d.done + 1 ≤ _; omega⟩, rfl, rfl, Or.inl rfl⟩
theorem write_spec (d : DD) (hs : d.size = 16) (s : Int) (l : List Nat) :
    (d.down = true ∧ d.writeE s l = 20 ∧ d.write s l = d) ∨ (d.down = false ∧ d.writeE s l = 11 ∧ d.write s l = d) ∨ (d.down = false ∧ d.writeE s l = 10 ∧ d.write s l = d) ∨
    (d.down = false ∧ 0 ≤ s ∧ s < d.n ∧ l.length = 16 ∧ (d.writeE s l = 0 ∨ d.writeE s l = 20) ∧ Like d (d.write s l) ∧ (d.write s l).sec = d.sec ∧ (d.write s l).cache = pt d.cache s (some l)) := by
  cases qd : d.down with
  | true => exact Or.inl ⟨rfl, by unfold DD.writeE; rw [qd]; rfl, by unfold DD.write; rw [qd]; rfl⟩
  | false =>
    right
    cases qh : d.has s with
    | false => exact Or.inl ⟨rfl, by unfold DD.writeE; rw [qd, qh]; rfl, by unfold DD.write; rw [qd, qh]; rfl⟩
    | true =>
      right
      by_cases ql : l.length = d.size
      · right
        obtain ⟨c1, c2, c3, c4⟩ := cmd_spec (d.keep s l)
        have e1 : d.writeE s l = (d.keep s l).cmdE := by unfold DD.writeE; rw [qd, qh, if_pos ql]; rfl
        have e2 : d.write s l = (d.keep s l).cmd := by unfold DD.write; rw [qd, qh, if_pos ql]; rfl
        obtain ⟨h1, h2⟩ := DD.has_of qh
        exact ⟨rfl, h1, h2, by omega, by rw [e1]; exact c4, by rw [e2]; exact ⟨c1.n, c1.size, c1.lo, c1.hi⟩, by rw [e2]; exact c2, by rw [e2]; exact c3⟩
      · exact Or.inl ⟨rfl, by unfold DD.writeE; rw [qd, qh, if_neg ql]; rfl, by unfold DD.write; rw [qd, qh, if_neg ql]; rfl⟩
theorem flush_spec (d : DD) : (d.flushE = 20 ∧ Like d d.flush ∧ d.flush.sec = d.sec ∧ d.flush.cache = d.cache) ∨ (d.flushE = 0 ∧ Like d d.flush ∧ d.flush.sec = d.now ∧ d.flush.cache = fun _ => none) := by
  unfold DD.flushE DD.flush DD.cmdE
  cases qd : d.down with
  | true => exact Or.inl ⟨rfl, Like.refl d, rfl, rfl⟩
  | false =>
    by_cases z : d.left = 0
    · rw [if_neg Bool.false_ne_true, if_neg Bool.false_ne_true, if_pos z, if_pos z]
      exact Or.inl ⟨rfl, ⟨rfl, rfl, by show d.done ≤ d.done; omega, by show d.done ≤ _; omega⟩, rfl, rfl⟩
    · rw [if_neg Bool.false_ne_true, if_neg Bool.false_ne_true, if_neg z, if_neg z]
      exact Or.inr ⟨rfl, ⟨rfl, rfl, by show d.done ≤ d.done + 1; omega, by show d.done + 1 ≤ _; omega⟩, rfl, rfl⟩
theorem now_of {d d' : DD} (h1 : d'.sec = d.sec) (h2 : d'.cache = d.cache) : d'.now = d.now := by
  unfold DD.now
  rw [h1, h2]
theorem now_pt {d d' : DD} {i : Int} {l : List Nat} (h1 : d'.sec = d.sec) (h2 : d'.cache = pt d.cache i (some l)) : d'.now = pt d.now i l := by
  rw [← now_keep]
  exact now_of h1 h2
theorem now_none {d : DD} (h2 : d.cache = fun _ => none) : d.now = d.sec := by
  unfold DD.now
  rw [h2]
  rfl
/-! what a crash leaves -/
theorem torn_cache (d : DD) (t z : Int) : (d.torn t z).cache = d.cache ∧ (d.torn t z).n = d.n ∧ (d.torn t z).size = d.size ∧ (d.torn t z).done = d.done := by
  unfold DD.torn
  split <;> exact ⟨rfl, rfl, rfl, rfl⟩
theorem torn_sec (d : DD) (t z i : Int) : (d.torn t z).sec i = if i = t then (match d.cache i with | some b => mix (d.cut z) b (d.sec i) | none => d.sec i) else d.sec i := by
  unfold DD.torn
  cases q : d.cache t with
  | none =>
    show d.sec i = _
    by_cases e : i = t
    · subst e; rw [if_pos rfl, q]
    · rw [if_neg e]
  | some b =>
    show pt d.sec t _ i = _
    by_cases e : i = t
    · subst e; rw [if_pos rfl, pt_same, q]
    · rw [if_neg e, pt_other _ _ e]
theorem crash_sec (d : DD) (L : List Int) (t z i : Int) : (d.crash L t z).sec i = if i ∈ L then (d.cache i).getD (d.sec i) else if i = t then (match d.cache i with | some b => mix (d.cut z) b (d.sec i) | none => d.sec i) else d.sec i := by
  show ((d.torn t z).kept L).sec i = _
  rw [kept_sec, (torn_cache d t z).1, torn_sec]
  by_cases h : i ∈ L
  · rw [if_pos h, if_pos h]
    cases q : d.cache i with
    | some b => rfl
    | none =>
      show (if i = t then d.sec i else d.sec i) = d.sec i
      split <;> rfl
  · rw [if_neg h, if_neg h]
theorem crash_rest (d : DD) (L : List Int) (t z : Int) : (d.crash L t z).n = d.n ∧ (d.crash L t z).size = d.size ∧ (d.crash L t z).done = d.done ∧ (d.crash L t z).down = false ∧ (d.crash L t z).left = -1 ∧ (d.crash L t z).cache = fun _ => none := by
  obtain ⟨a1, a2, a3, a4⟩ := torn_cache d t z
  obtain ⟨b1, b2, b3, b4⟩ := kept_cache L (d.torn t z)
  exact ⟨b2.trans a2, b3.trans a3, b4.trans a4, rfl, rfl, rfl⟩
theorem crash_cases (d : DD) (L : List Int) (t z i : Int) : (d.crash L t z).sec i = d.sec i ∨ (d.crash L t z).sec i = d.now i ∨ (i = t ∧ (d.crash L t z).sec i = mix (d.cut z) (d.now i) (d.sec i)) := by
  rw [crash_sec]
  unfold DD.now
  by_cases h : i ∈ L
  · rw [if_pos h]
    exact Or.inr (Or.inl rfl)
  · rw [if_neg h]
    by_cases e : i = t
    · rw [if_pos e]
      cases q : d.cache i with
      | some b => exact Or.inr (Or.inr ⟨e, rfl⟩)
      | none => exact Or.inl rfl
    · rw [if_neg e]
      exact Or.inl rfl
/-! strings of bytes -/
theorem str_app (a b : List Nat) : bytes.str (a ++ b) = bytes.str a ++ bytes.str b := by
  unfold bytes.str
  apply ByteArray.ext
  simp
theorem str_size (l : List Nat) : (bytes.str l).size = l.length := by
  unfold bytes.str
  simp [ByteArray.size]
theorem str_part (l : List Nat) (a b : Nat) : (bytes.str l).extract a b = bytes.str ((l.take b).drop a) := by
  apply ByteArray.ext
  apply Array.ext'
  simp [bytes.str, ByteArray.data_extract, List.map_take, List.map_drop, List.drop_take]
theorem mix_str {k n : Nat} {a b : List Nat} (hb : b.length = n) (hk : k ≤ n) : bytes.str (mix k a b) = (bytes.str a).extract 0 k ++ (bytes.str b).extract k n := by
  unfold mix
  rw [str_app, str_part, str_part, List.drop_zero, List.take_of_length_le (l := b) (i := n) (by omega)]
end Go.Proofs.Ytoabbcallhghcaa.dk
