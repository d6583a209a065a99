/-
  A page of records: its model, and how it lies in memory.
-/
import Derived.Test.YtikddbaenokdpaaBytes
import Derived.Test.YtikddbaenokdpaaRk
import Derived.Lib.Hide
namespace Go.Proofs.Ytikddbaenokdpaa.pg
open Go.RowKit
open base (ret_bool ret_int made up Blk Only)
open bytes (Small small_app small_take small_drop small_nil)
open rk
set_option linter.unusedVariables false

theorem ty_ne {w : World} {k g : Nat} {t t' : TypeId} {cs cs' : Array Value} (h : Blk w k t cs) (h' : Blk w g t' cs') (ht : t ≠ t') : k ≠ g := by
  rintro rfl
  unfold Blk at h h'
  rw [h] at h'
  injection h' with h'
  injection h' with _ h'
  exact ht h'
theorem asz (w : World) (o : Obj) : (w.alloc o).heap.size = w.heap.size + 1 := by first | exact Array.size_push _ | simp
structure S1 where
  A : Option Addr
  n : Nat
  c : Nat
def ES : Enc S1 := ⟨fun s => [.slice s.A s.n s.c], 1, by decide, fun _ => rfl, by
  intro s v hv
  simp at hv
  rw [hv]
  rfl⟩
theorem T8 : Ty ES Try.prog 51 28 (.slice none 0 0) 24 := ⟨Try.underlying51, by kernel_rfl, rfl, by decide⟩
/-- blocks of bytes, of some kind, stay -/
def FrU (U : Nat → Prop) (w w' : World) : Prop := ∀ b cs, U b → Blk w b 5 cs → Blk w' b 5 cs
theorem FrU.below {U : Nat → Prop} {w w' : World} (h : Below w.heap.size w w') : FrU U w w' := fun b cs _ hb => hb.below h hb.lt
theorem FrU.only {U S : Nat → Prop} {w w' : World} (h : Only S w w') (hS : ∀ k cs, S k → ¬ Blk w k 5 cs) : FrU U w w' := fun b cs _ hb => hb.only h (fun q => hS b cs q hb)
/-- a slice that reads as these bytes -/
structure Rd (U : Nat → Prop) (w : World) (s : S1) (l : List Nat) : Prop where
  n : s.n = l.length
  small : Small l
  cap : l.length ≤ s.c ∧ s.c ≤ 9223372036854775807
  lay : bytes.Lay w s.A l
  at_ : 0 < l.length → ∃ b off cs, s.A = some ⟨b, off, none⟩ ∧ Blk w b 5 cs ∧ U b
theorem Rd.nil (U : Nat → Prop) (w : World) : Rd U w ⟨none, 0, 0⟩ [] := ⟨rfl, small_nil, by simp, bytes.Lay.nil _ _, fun h => absurd h (by simp)⟩
theorem Rd.frU {U : Nat → Prop} {w w' : World} {s : S1} {l : List Nat} (h : Rd U w s l) (hf : FrU U w w') : Rd U w' s l := by
  refine ⟨h.n, h.small, h.cap, fun h0 => ?_, fun h0 => ?_⟩
  · obtain ⟨b, off, cs, e, hb, hu⟩ := h.at_ (by simpa [bytes.ints] using h0)
    obtain ⟨b', off', e', hlt, hc⟩ := h.lay h0
    rw [e] at e'
    injection e' with e'
    injection e' with e1 e2
    subst e1 e2
    have h5 := hf b cs hu hb
    exact ⟨b, off, e, h5.lt, fun j hj => by rw [← hc j hj]; exact World.cell?_of_block (w := w) (a := ⟨b, off + j, none⟩) (h5.trans hb.symm)⟩
  · obtain ⟨b, off, cs, e, hb, hu⟩ := h.at_ h0
    exact ⟨b, off, cs, e, hf b cs hu hb, hu⟩
theorem Rd.mono {U U' : Nat → Prop} {w : World} {s : S1} {l : List Nat} (h : Rd U w s l) (hU : ∀ k, U k → U' k) : Rd U' w s l :=
  ⟨h.n, h.small, h.cap, h.lay, fun h0 => by obtain ⟨b, off, cs, e, hb, hu⟩ := h.at_ h0; exact ⟨b, off, cs, e, hb, hU b hu⟩⟩
theorem Rd.of_own {U : Nat → Prop} {w : World} {b c : Nat} {A : Option Addr} {l : List Nat} (h : bytes.Own w b (.slice A l.length c) l) (hU : ∀ k, b ≤ k → U k) (hs : Small l) : Rd U w ⟨A, l.length, c⟩ l := by
  obtain ⟨A', c', e, hL, hc, hm⟩ := h.lay
  cases e
  refine ⟨rfl, hs, ⟨hc, hm⟩, hL, fun h0 => ?_⟩
  rcases h.2 with ⟨e, q⟩ | ⟨g, cap, cur, e, hb, hg, _⟩
  · omega
  · injection e with e1 e2 e3
    exact ⟨g, 0, cur, e1, hg, hU g hb⟩
def Rds (U : Nat → Prop) (w : World) (V : List S1) (L : List (List Nat)) : Prop := V.length = L.length ∧ ∀ (i : Nat) (s : S1) (l : List Nat), V[i]? = some s → L[i]? = some l → Rd U w s l
theorem Rds.nil (U : Nat → Prop) (w : World) : Rds U w [] [] := ⟨rfl, fun i s l h => by simp at h⟩
theorem Rds.frU {U : Nat → Prop} {w w' : World} {V : List S1} {L : List (List Nat)} (h : Rds U w V L) (hf : FrU U w w') : Rds U w' V L := ⟨h.1, fun i s l a b => (h.2 i s l a b).frU hf⟩
theorem Rds.mono {U U' : Nat → Prop} {w : World} {V : List S1} {L : List (List Nat)} (h : Rds U w V L) (hU : ∀ k, U k → U' k) : Rds U' w V L := ⟨h.1, fun i s l a b => (h.2 i s l a b).mono hU⟩
theorem Rds.get {U : Nat → Prop} {w : World} {V : List S1} {L : List (List Nat)} (h : Rds U w V L) {i : Nat} (hi : i < L.length) : ∃ hv : i < V.length, Rd U w V[i] L[i] :=
  ⟨by rw [h.1]; exact hi, h.2 i _ _ (List.getElem?_eq_getElem (by rw [h.1]; exact hi)) (List.getElem?_eq_getElem hi)⟩
theorem Rds.snoc {U : Nat → Prop} {w : World} {V : List S1} {L : List (List Nat)} (h : Rds U w V L) {s : S1} {l : List Nat} (r : Rd U w s l) : Rds U w (V ++ [s]) (L ++ [l]) := by
  refine ⟨by simp [h.1], fun i s' l' a b => ?_⟩
  by_cases q : i < V.length
  · rw [List.getElem?_append_left q] at a
    rw [List.getElem?_append_left (by rw [← h.1]; exact q)] at b
    exact h.2 i s' l' a b
  · rw [List.getElem?_append_right (by omega)] at a
    rw [List.getElem?_append_right (by rw [← h.1]; omega), ← h.1] at b
    rcases Nat.eq_zero_or_pos (i - V.length) with e | e
    · rw [e] at a b
      simp at a b
      subst a b
      exact r
    · obtain ⟨d, hd⟩ : ∃ d, i - V.length = d + 1 := ⟨i - V.length - 1, by omega⟩
      rw [hd] at a
      simp at a
theorem Rds.set {U : Nat → Prop} {w : World} {V : List S1} {L : List (List Nat)} (h : Rds U w V L) {s : S1} {l : List Nat} (r : Rd U w s l) (k : Nat) : Rds U w (V.set k s) (L.set k l) := by
  refine ⟨by simp [h.1], fun i s' l' a b => ?_⟩
  rw [List.getElem?_set] at a b
  by_cases q : k = i
  · rw [if_pos q] at a b
    split at a
    · split at b
      · injection a with a
        injection b with b
        subst a b
        exact r
      · cases b
    · cases a
  · rw [if_neg q] at a b
    exact h.2 i s' l' a b
theorem Rds.take {U : Nat → Prop} {w : World} {V : List S1} {L : List (List Nat)} (h : Rds U w V L) (k : Nat) : Rds U w (V.take k) (L.take k) := by
  refine ⟨by simp [h.1], fun i s' l' a b => ?_⟩
  rw [List.getElem?_take] at a b
  split at a
  · rw [if_pos ‹_›] at b
    exact h.2 i s' l' a b
  · cases a

/-! the page -/
def tot (L : List (List Nat)) : Nat := 1 + (L.map fun l => 2 + l.length).sum
structure Pr (U : Nat → Prop) (w : World) (B g : Nat) (size : Nat) (v : Value) (u : Int) (V : List S1) (L : List (List Nat)) : Prop where
  blk : Blk w g 53 #[.int .i64 size, v, .int .i64 u]
  own : Own ES w B 28 v V
  rd : Rds U w V L
  gb : B ≤ g
  fresh : ∀ k, w.heap.size ≤ k → U k
variable {U : Nat → Prop} {w w' : World} {B g size : Nat} {v : Value} {u : Int} {V : List S1} {L : List (List Nat)}
theorem Pr.lt (h : Pr U w B g size v u V L) : g < w.heap.size := h.blk.lt
theorem Pr.ne (h : Pr U w B g size v u V L) : v.ownBlock ≠ some g := fun e => by
  obtain ⟨_, _, cs, hb⟩ := h.own.lt' g e
  exact ty_ne hb h.blk (by decide) rfl
theorem Pr.keep (h : Pr U w B g size v u V L) (hg : w'.heap[g]? = w.heap[g]?) (hs : ∀ k, v.ownBlock = some k → w'.heap[k]? = w.heap[k]?) (hz : w.heap.size ≤ w'.heap.size) (hf : FrU U w w') : Pr U w' B g size v u V L :=
  ⟨hg.trans h.blk, h.own.keep hs, h.rd.frU hf, h.gb, fun k hk => h.fresh k (Nat.le_trans hz hk)⟩
theorem Pr.below (h : Pr U w B g size v u V L) (hb : Below w.heap.size w w') : Pr U w' B g size v u V L :=
  h.keep (hb.block g h.lt) (fun k e => hb.block k (h.own.lt' k e).2.1) hb.size (FrU.below hb)
theorem not_u8 {k : Nat} {t : TypeId} {cs cs' : Array Value} (h : Blk w k t cs) (ht : t ≠ 5) : ¬ Blk w k 5 cs' := fun hb => ty_ne hb h (fun e => ht e.symm) rfl
theorem FrU.setCell {k i : Nat} {t : TypeId} {cs : Array Value} (h : Blk w k t cs) (ht : t ≠ 5) (x : Value) : FrU U w (w.setCell ⟨k, i, none⟩ x) := fun b cs' _ hb =>
  hb.far (p := ⟨k, i, none⟩) (show b ≠ k from ty_ne hb h (fun e => ht e.symm)) x
/-- other rows are stored into the page -/
theorem Pr.slots (h : Pr U w B g size v u V L) {v' : Value} {V' : List S1} {L' : List (List Nat)} (own : Own ES w B 28 v' V') (rd : Rds U w V' L') : Pr U (w.setCell ⟨g, 1, none⟩ v') B g size v' u V' L' := by
  refine ⟨h.blk.put 1 v', own.keep (fun k e => Below.heap_setCell _ _ _ k (show k ≠ g from ?_)), rd.frU (FrU.setCell h.blk (by decide) _), h.gb, fun k hk => h.fresh k (by simpa [World.setCell] using hk)⟩
  obtain ⟨_, _, cs, hb⟩ := own.lt' k e
  exact ty_ne hb h.blk (by decide)
theorem Pr.used (h : Pr U w B g size v u V L) (u' : Int) : Pr U (w.setCell ⟨g, 2, none⟩ (.int .i64 u')) B g size v u' V L :=
  ⟨h.blk.put 2 _, h.own.keep (fun k e => Below.heap_setCell _ _ _ k (show k ≠ g from fun q => h.ne (q ▸ e))), h.rd.frU (FrU.setCell h.blk (by decide) _), h.gb, fun k hk => h.fresh k (by simpa [World.setCell] using hk)⟩
theorem Pr.elem {s n c : Nat} (h : Pr U w B g size (.slice (some ⟨s, 0, none⟩) n c) u V L) {i : Nat} (hi : i < V.length) {x : S1} {l : List Nat} (r : Rd U w x l) : Pr U (w.setCell ⟨s, i, none⟩ (.slice x.A x.n x.c)) B g size (.slice (some ⟨s, 0, none⟩) n c) u (V.set i x) (L.set i l) := by
  have ho := h.own.put (i := i) (j := 0) (u := .slice x.A x.n x.c) (x := x) hi (by decide) (by rfl)
  rw [show i * ES.k + 0 = i from by show i * 1 + 0 = i; omega] at ho
  obtain ⟨_, _, cs, hb⟩ := h.own.lt' s rfl
  exact ⟨h.blk.far (p := ⟨s, i, none⟩) (show g ≠ s from fun e => h.ne (by rw [e]; rfl)) _, ho, (h.rd.frU (FrU.setCell hb (by decide) _)).set (r.frU (FrU.setCell hb (by decide) _)) i, h.gb, fun k hk => h.fresh k (by simpa [World.setCell] using hk)⟩
/-- what is loaded -/
theorem Pr.three (h : Pr U w B g size v u V L) : w.cell? ⟨g, 0, none⟩ = some (.int .i64 size) ∧ w.cell? ⟨g, 1, none⟩ = some v ∧ w.cell? ⟨g, 2, none⟩ = some (.int .i64 u) ∧ ∀ j, w.frozen? ⟨g, j, none⟩ = false := ⟨h.blk.cell 0, h.blk.cell 1, h.blk.cell 2, fun j => h.blk.free j⟩
theorem Pr.open_ (h : Pr U w B g size v u V L) : ∃ A c, v = .slice A L.length c ∧ L.length ≤ c ∧ c ≤ 9223372036854775807 := by
  obtain ⟨A, c, e, -, h1, h2⟩ := h.own.open_
  rw [h.rd.1] at e h1
  exact ⟨A, c, e, h1, h2⟩
theorem Pr.at_ (h : Pr U w B g size v u V L) {i : Nat} (hi : i < L.length) : ∃ s c a cc, v = .slice (some ⟨s, 0, none⟩) L.length c ∧ w.cell? ⟨s, i, none⟩ = some (.slice a (L[i]).length cc) ∧ Rd U w ⟨a, (L[i]).length, cc⟩ L[i] ∧ w.frozen? ⟨s, i, none⟩ = false := by
  obtain ⟨hv, r⟩ := h.rd.get hi
  obtain ⟨s, c, cs, e, _, hb, h1, h2, h3, h4⟩ := h.own.full (by omega)
  rw [h.rd.1] at e
  have hc : w.cell? ⟨s, i, none⟩ = some (.slice V[i].A V[i].n V[i].c) := by
    have q : (cs.toList.take (V.length * ES.k))[i]? = some (.slice V[i].A V[i].n V[i].c) := by
      rw [h4]
      have := flat_get ES V i hv 0 (by decide)
      rw [show i * ES.k + 0 = i from by show i * 1 + 0 = i; omega] at this
      rw [this]
      rfl
    rw [List.getElem?_take, if_pos (show i < V.length * ES.k by show i < V.length * 1; omega)] at q
    rw [hb.cell i]
    simpa using q
  generalize V[i] = x at r hc
  obtain ⟨sA, sn, sc⟩ := x
  have hn : sn = (L[i]).length := r.n
  subst hn
  exact ⟨s, c, sA, sc, e, hc, r, hb.free i⟩
end Go.Proofs.Ytikddbaenokdpaa.pg
