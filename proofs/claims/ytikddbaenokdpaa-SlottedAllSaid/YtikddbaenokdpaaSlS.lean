/-
  The page stands what is done to rows that are no record's.
-/
import Derived.Test.YtikddbaenokdpaaSlR
namespace Go.Proofs.Ytikddbaenokdpaa.pg
open Go.RowKit Go.Shelf
open base (ret_bool ret_int made up Blk Only below_drewN)
open bytes (Small small_app small_take small_drop small_nil By By_len By_append)
open rk
set_option linter.unusedVariables false
set_option linter.unusedSimpArgs false

variable {U : Nat → Prop} {w w' : World} {B g size : Nat} {L : List (List Nat)}
/-- what was made meanwhile is no record's -/
theorem Pg.fence (h : Pg U w B g size L) (hb : Below w.heap.size w w') : Pg (fun k => U k ∧ (k < w.heap.size ∨ w'.heap.size ≤ k)) w' B g size L := by
  obtain ⟨v, V, p⟩ := h.ex
  have q := p.below hb
  refine ⟨⟨v, V, q.blk, q.own, ⟨q.rd.1, fun i s l a b => ?_⟩, q.gb, fun k hk => ⟨q.fresh k hk, .inr hk⟩⟩, h.gd⟩
  have r := q.rd.2 i s l a b
  have r0 := p.rd.2 i s l a b
  refine ⟨r.n, r.small, r.cap, r.lay, fun h0 => ?_⟩
  obtain ⟨b', off, cs, e, hb', hU⟩ := r0.at_ h0
  exact ⟨b', off, cs, e, hb'.below hb hb'.lt, hU, .inl hb'.lt⟩
/-- a byte is stored into a row that is no record's -/
theorem Pg.u8set (h : Pg U w B g size L) {r i : Nat} {cs : Array Value} (hb : Blk w r 5 cs) (hr : ¬ U r) (x : Value) : Pg U (w.setCell ⟨r, i, none⟩ x) B g size L := by
  obtain ⟨v, V, p⟩ := h.ex
  exact ⟨⟨v, V, p.keep (Below.heap_setCell _ _ x g (show g ≠ r from ty_ne p.blk hb (by decide))) (fun k hk => by
    obtain ⟨_, _, cs', hb'⟩ := p.own.lt' k hk
    exact Below.heap_setCell _ _ x k (show k ≠ r from ty_ne hb' hb (by decide))) (by simp [World.setCell]) (fun b cs' hU hb' => hb'.far (p := ⟨r, i, none⟩) (show b ≠ r from fun e => hr (e ▸ hU)) x)⟩, h.gd⟩
/-- a box of another kind is stored into -/
theorem Pg.boxset (h : Pg U w B g size L) {r i : Nat} {t : TypeId} {cs : Array Value} (hb : Blk w r t cs) (h1 : t ≠ 5) (h2 : t ≠ 53) (h3 : t ≠ 28) (x : Value) : Pg U (w.setCell ⟨r, i, none⟩ x) B g size L := by
  obtain ⟨v, V, p⟩ := h.ex
  exact ⟨⟨v, V, p.keep (Below.heap_setCell _ _ x g (show g ≠ r from ty_ne p.blk hb (fun e => h2 e.symm))) (fun k hk => by
    obtain ⟨_, _, cs', hb'⟩ := p.own.lt' k hk
    exact Below.heap_setCell _ _ x k (show k ≠ r from ty_ne hb' hb (fun e => h3 e.symm))) (by simp [World.setCell]) (FrU.setCell hb h1 x)⟩, h.gd⟩
/-- a row of bytes that may be written: its first n cells are bytes -/
def Wr (w : World) (r n : Nat) : Prop := ∃ cs, Blk w r 5 cs ∧ ∀ j, j < n → ∃ y : Int, cs[j]? = some (.int .u8 y)
theorem Wr.cell {r n : Nat} (h : Wr w r n) {j : Nat} (hj : j < n) : ∃ y : Int, w.cell? ⟨r, j, none⟩ = some (.int .u8 y) ∧ w.frozen? ⟨r, j, none⟩ = false := by
  obtain ⟨cs, hb, hc⟩ := h
  obtain ⟨y, hy⟩ := hc j hj
  have c := hb.cell j
  rw [hy] at c
  exact ⟨y, c, hb.free j⟩
theorem Wr.put {r n : Nat} (h : Wr w r n) (i : Nat) (z : Int) : Wr (w.setCell ⟨r, i, none⟩ (.int .u8 z)) r n := by
  obtain ⟨cs, hb, hc⟩ := h
  refine ⟨_, hb.put i (.int .u8 z), fun j hj => ?_⟩
  obtain ⟨y, hy⟩ := hc j hj
  by_cases e : i = j
  · subst e
    refine ⟨z, ?_⟩
    have := (Array.getElem?_eq_some_iff.1 hy).1
    simp [Array.getElem?_setIfInBounds, this]
  · exact ⟨y, by rw [Array.getElem?_setIfInBounds_ne e]; exact hy⟩
theorem Wr.below {r n : Nat} (h : Wr w r n) (hb : Below w.heap.size w w') : Wr w' r n := by
  obtain ⟨cs, hbk, hc⟩ := h
  exact ⟨cs, hbk.below hb hbk.lt, hc⟩
theorem Wr.ck {r n : Nat} (h : Wr w r n) {B : Nat} (hb : Ck B w w') : Wr w' r n := by
  obtain ⟨cs, hbk, hc⟩ := h
  exact ⟨cs, hb.blk hbk (by decide) (by decide), hc⟩
theorem Wr.far {r n s i : Nat} (h : Wr w r n) (hs : r ≠ s) (x : Value) : Wr (w.setCell ⟨s, i, none⟩ x) r n := by
  obtain ⟨cs, hbk, hc⟩ := h
  exact ⟨cs, hbk.far (p := ⟨s, i, none⟩) hs x, hc⟩
/-- a row of the call's own may be written -/
theorem Wr.of_own {b c : Nat} {A : Option Addr} {l : List Nat} (h : bytes.Own w b (.slice A l.length c) l) (h0 : 0 < l.length) : ∃ r, A = some ⟨r, 0, none⟩ ∧ b ≤ r ∧ Wr w r l.length := by
  obtain ⟨A', c', e, hl, -, -⟩ := h.lay
  simp only [Value.slice.injEq] at e
  obtain ⟨rfl, -, rfl⟩ := e
  rcases h.2 with ⟨e, q⟩ | ⟨g, cap, cur, e, hb, hg, _⟩
  · omega
  · injection e with e1
    subst e1
    refine ⟨g, rfl, hb, cur, hg, fun j hj => ?_⟩
    obtain ⟨b', o', e', -, hx⟩ := hl.at_ hj
    injection e' with e'
    injection e' with e1 e2
    subst e1 e2
    have c := (show Blk w g 5 cur from hg).cell j
    rw [Nat.zero_add] at hx
    rw [hx] at c
    exact ⟨_, c.symm⟩
end Go.Proofs.Ytikddbaenokdpaa.pg
