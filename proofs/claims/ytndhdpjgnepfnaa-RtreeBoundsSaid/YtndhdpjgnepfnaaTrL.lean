/-
  R-trees: a node's entries in two parts: memory.
-/
import Derived.Test.YtndhdpjgnepfnaaTrK
import Derived.ArgAppend
namespace Go.Proofs.Ytndhdpjgnepfnaa.tr
open Go.RowKit
open base (ret_bool ret_int made up Blk Only)
open rk (Lay)
open rect
set_option linter.unusedVariables false
set_option linter.unusedSimpArgs false
variable {w w' : World} {B : Nat} {v : Value} {O M : List En}

/-- a part's row: of the call's own, or one entry of an old row -/
def PRow (w : World) (B : Nat) (v : Value) (O : List En) : Prop :=
  rk.Own E6 w B 79 v O ∨ ∃ bl off, v = .slice (some ⟨bl, off, none⟩) 1 1 ∧ bl < B ∧ O.length = 1 ∧ Lay E6 w (some ⟨bl, off, none⟩) O
theorem PRow.keep (h : PRow w B v O) (hb : ∀ k, k < B → w'.heap[k]? = w.heap[k]?) (hk : ∀ k, B ≤ k → v.ownBlock = some k → w'.heap[k]? = w.heap[k]?) : PRow w' B v O := by
  rcases h with h | ⟨bl, off, rfl, h1, h2, h3⟩
  · exact .inl (h.keep (fun g hg => hk g (h.lt' g hg).1 hg))
  · exact .inr ⟨bl, off, rfl, h1, h2, h3.keep (fun b hlt ⟨o, e⟩ => by
      injection e with e
      injection e with e
      subst e
      exact hb bl h1)⟩
theorem PRow.open_ (h : PRow w B v O) : ∃ A c, v = .slice A O.length c ∧ Lay E6 w A O ∧ O.length ≤ c ∧ c ≤ 9223372036854775807 := by
  rcases h with h | ⟨bl, off, rfl, h1, h2, h3⟩
  · exact h.open_
  · exact ⟨_, 1, by rw [h2], h3, by omega, by omega⟩
theorem PRow.lt (h : PRow w B v O) : ∀ k, B ≤ k → v.ownBlock = some k → k < w.heap.size ∧ ∃ cs, Blk w k 79 cs := fun k hk e => by
  rcases h with h | ⟨bl, off, rfl, h1, h2, h3⟩
  · exact (h.lt' k e).2
  · have : bl = k := by
      first
      | (injection e)
      | (simp [Value.ownBlock] at e; exact e)
    omega
/-- what an append leaves -/
structure PGrew (w w' : World) (B : Nat) (v v' : Value) : Prop where
  os : w'.os = w.os
  tape : w'.tape = w.tape
  output : w'.output = w.output
  size : w.heap.size ≤ w'.heap.size
  block : ∀ k, k < w.heap.size → (k < B ∨ v.ownBlock ≠ some k) → w'.heap[k]? = w.heap[k]?
  at_ : ∀ k, v'.ownBlock = some k → v.ownBlock = some k ∨ w.heap.size ≤ k
theorem PGrew.below {v' : Value} (h : PGrew w w' B v v') (hB : B ≤ w.heap.size) : Below B w w' := ⟨h.os, h.tape, h.output, h.size, fun k hk => h.block k (by omega) (.inl hk)⟩
theorem PRow.app {A : Option Addr} {c : Nat} (h : PRow w B v O) (hM : Lay E6 w A M) (h0 : 0 < M.length) (hs : O.length + M.length ≤ 100000) (hB : B ≤ w.heap.size) :
    ∃ v' w', (Builtin.append_ #[60, 60] 60 #[v, .slice A M.length c]).run Try.prog w = .ok v' w' ∧ rk.Own E6 w' B 79 v' (O ++ M) ∧ PGrew w w' B v v' := by
  rcases h with h | ⟨bl, off, rfl, h1, h2, h3⟩
  · obtain ⟨v', w', e, ho, hg⟩ := rk.app_run T6 (c := c) h hM (fun e => by rw [e] at h0; simp at h0) (by omega) hB
    refine ⟨v', w', e, ho, hg.grown.os, hg.grown.tape, hg.grown.output, hg.grown.size, fun k hk hn => hg.grown.block k hk ?_, fun k e => ?_⟩
    · rcases hn with hn | hn
      · intro e
        have := (h.lt' k e.symm).1
        omega
      · exact fun e => hn e.symm
    · rcases hg.at_ with q | q
      · exact .inl (by rw [← q]; exact e)
      · rw [q] at e
        injection e with e
        exact .inr (by omega)
  · obtain ⟨i, hi, hz0, hz1, hz2⟩ := info_parts T6.info
    obtain ⟨ad, rfl, hsrc⟩ := hM.src h0
    obtain ⟨ad2, e2, hsrc2⟩ := h3.src (by omega)
    injection e2 with e2
    subst e2
    obtain ⟨v', w', e, ho, hg⟩ := run_append_arg_grows (P := Try.prog) w 60 60 79 i _ 6 48 Try.underlying60 hi hz0 hz1 hz2 (by first | rfl | decide) (by decide) ⟨bl, off, none⟩ 1 1 (rk.flat E6 O) (by rw [rk.flat_length, h2]; rfl) hsrc2 ad M.length c (rk.flat E6 M) (rk.flat_length E6 M) hsrc (by omega) (by unfold maxLen; omega) (by omega)
    have ho2 : rk.Own E6 w' B 79 v' (O ++ M) := by
      unfold rk.Own
      rw [rk.flat_append, List.length_append, h2]
      refine ⟨ho.1, ?_⟩
      rcases ho.2 with q | ⟨g, cap, cur, q1, q2, q3⟩
      · exact .inl q
      · exact .inr ⟨g, cap, cur, q1, by omega, q3⟩
    refine ⟨v', w', e, ho2, hg.os, hg.tape, hg.output, hg.size, fun k hk _ => hg.block k hk (by simp), fun k e => ?_⟩
    rcases ho.2 with ⟨rfl, _⟩ | ⟨g, cap, cur, q1, q2, q3⟩
    · cases e
    · subst q1
      cases e
      exact .inr q2
theorem wp_app2 {ops : Array Oper} {rest : List Oper} {o : Oper} {a : Act} {Q : Exit → Act → World → Prop} (hgd : o.guard = none) (s x : Operand)
    (ho : o.op = .call { callee := .builtin .append, args := #[s, x], argTypes := #[60, 60] }) (hty : o.type = 60)
    {c n : Nat} {A : Option Addr} (h1 : a.eval s = v) (h2 : a.eval x = .slice A n c) (hnm : n = M.length)
    (h : PRow w B v O) (hm : Lay E6 w A M) (h0 : 0 < M.length) (hs : O.length + M.length ≤ 100000) (hb : B ≤ w.heap.size)
    (k : ∀ v' w', rk.Own E6 w' B 79 v' (O ++ M) → PGrew w w' B v v' → wpList Try.prog ops Q rest (a.put o.dst v') w') : wpList Try.prog ops Q (o :: rest) a w := by
  subst hnm
  obtain ⟨v', w', hr, h3, h4⟩ := h.app (c := c) hm h0 hs hb
  refine wpList_plain hgd fun K hK => ?_
  unfold Oper.wp execOp
  simp only [ho, resolve, invoke, builtin, Sem.run_bind, Sem.run_pure, Result.andThen_ok, List.map_toArray, List.map_cons, List.map_nil, h1, h2, hty, hr]
  exact hK _ _ (k v' w' h3 h4)
theorem ty62 {w : World} {k : Nat} {cs cs' : Array Value} (h1 : Blk w k 62 cs) (h2 : Blk w k 79 cs') : False := by
  unfold Blk at h1 h2
  rw [h1] at h2
  injection h2 with h2
  injection h2 with _ h2
  exact absurd h2 (by decide)
/-- two parts, and what is left -/
structure PM (w0 : World) (B : Nat) (w : World) (p q : Nat) (v1 v2 vl : Value) (O T R : List En) : Prop where
  below : Below B w0 w
  hB : B ≤ w.heap.size
  n1 : Blk w p 62 #[v1]
  n2 : Blk w q 62 #[v2]
  r1 : PRow w B v1 O
  r2 : PRow w B v2 T
  rl : rk.Own E6 w B 79 vl R
  a12 : ∀ k, B ≤ k → v1.ownBlock = some k → v2.ownBlock ≠ some k
  a1l : ∀ k, v1.ownBlock = some k → vl.ownBlock ≠ some k
  a2l : ∀ k, v2.ownBlock = some k → vl.ownBlock ≠ some k
  pq : p ≠ q
  bp : B ≤ p
  bq : B ≤ q
variable {w0 : World} {p q : Nat} {v1 v2 vl : Value} {T R : List En}
theorem PM.symm (h : PM w0 B w p q v1 v2 vl O T R) : PM w0 B w q p v2 v1 vl T O R :=
  ⟨h.below, h.hB, h.n2, h.n1, h.r2, h.r1, h.rl, fun k hk e1 e2 => h.a12 k hk e2 e1, h.a2l, h.a1l, h.pq.symm, h.bq, h.bp⟩
theorem PM.nat (h : PM w0 B w p q v1 v2 vl O T R) : ∃ A c, v1 = .slice A O.length c ∧ NAt w p A O c := by
  obtain ⟨A, c, rfl, h1, h2, h3⟩ := h.r1.open_
  exact ⟨A, c, rfl, h.n1, h1, h2, h3⟩
theorem PM.next (h : PM w0 B w p q v1 v2 vl O T R) (hb : Below w.heap.size w w') : PM w0 B w' p q v1 v2 vl O T R :=
  ⟨h.below.trans (hb.mono h.hB), Nat.le_trans h.hB hb.size, h.n1.below hb h.n1.lt, h.n2.below hb h.n2.lt,
    h.r1.keep (fun k hk => hb.block k (Nat.lt_of_lt_of_le hk h.hB)) (fun k hk e => hb.block k (h.r1.lt k hk e).1), h.r2.keep (fun k hk => hb.block k (Nat.lt_of_lt_of_le hk h.hB)) (fun k hk e => hb.block k (h.r2.lt k hk e).1), h.rl.below hb, h.a12, h.a1l, h.a2l, h.pq, h.bp, h.bq⟩
/-- .. before it is stored -/
theorem PM.mid {v' : Value} (h : PM w0 B w p q v1 v2 vl O T R) (hg : PGrew w w' B v1 v') : Blk w' p 62 #[v1] ∧ rk.Own E6 w' B 79 vl R := by
  have np : v1.ownBlock ≠ some p := fun e => by
    obtain ⟨_, cs, hc⟩ := h.r1.lt p h.bp e
    exact ty62 h.n1 hc
  exact ⟨(hg.block p h.n1.lt (.inr np)).trans h.n1, h.rl.keep (fun k e => hg.block k (h.rl.lt' k e).2.1 (.inr (fun e' => h.a1l k e' e)))⟩
theorem PM.mid2 {v' : Value} (h : PM w0 B w p q v1 v2 vl O T R) (hg : PGrew w w' B v1 v') : Blk w' q 62 #[v2] := by
  have nq : v1.ownBlock ≠ some q := fun e => by
    obtain ⟨_, cs, hc⟩ := h.r1.lt q h.bq e
    exact ty62 h.n2 hc
  exact (hg.block q h.n2.lt (.inr nq)).trans h.n2
theorem own_lay {A : Option Addr} {n c : Nat} (h : rk.Own E6 w B 79 (.slice A n c) O) : Lay E6 w A O ∧ n = O.length ∧ O.length ≤ c ∧ c ≤ 9223372036854775807 := by
  obtain ⟨A', c', e, h1, h2, h3⟩ := h.open_
  injection e with e1 e2 e3
  subst e1 e2 e3
  exact ⟨h1, rfl, h2, h3⟩
/-- something was appended to the first part -/
theorem PM.app1 {v' : Value} (h : PM w0 B w p q v1 v2 vl O T R) (ho : rk.Own E6 w' B 79 v' (O ++ M)) (hg : PGrew w w' B v1 v') : PM w0 B (w'.setCell ⟨p, 0, none⟩ v') p q v' v2 vl (O ++ M) T R := by
  have hb := hg.below h.hB
  have np : v1.ownBlock ≠ some p := fun e => by
    obtain ⟨_, cs, hc⟩ := h.r1.lt p h.bp e
    exact ty62 h.n1 hc
  have nq : v1.ownBlock ≠ some q := fun e => by
    obtain ⟨_, cs, hc⟩ := h.r1.lt q h.bq e
    exact ty62 h.n2 hc
  have N1 : Blk w' p 62 #[v1] := (hg.block p h.n1.lt (.inr np)).trans h.n1
  have N2 : Blk w' q 62 #[v2] := (hg.block q h.n2.lt (.inr nq)).trans h.n2
  have vp : v'.ownBlock ≠ some p := fun e => by
    obtain ⟨_, _, cs, hc⟩ := ho.lt' p e
    exact ty62 N1 hc
  have e1 : ∀ k, k ≠ p → (w'.setCell ⟨p, 0, none⟩ v').heap[k]? = w'.heap[k]? := fun k hk => Below.heap_setCell w' ⟨p, 0, none⟩ v' k (fun e => hk e)
  have P1 := N1.put 0 v'
  simp only [List.setIfInBounds_toArray, List.set_cons_zero] at P1
  have l2 : ∀ k, B ≤ k → v2.ownBlock = some k → k ≠ p := fun k hk e e' => by
    subst e'
    obtain ⟨_, cs, hc⟩ := h.r2.lt k hk e
    exact ty62 h.n1 hc
  have ll : ∀ k, vl.ownBlock = some k → k ≠ p := fun k e e' => by
    subst e'
    obtain ⟨_, _, cs, hc⟩ := h.rl.lt' k e
    exact ty62 h.n1 hc
  refine ⟨h.below.trans (hb.setCell (p := ⟨p, 0, none⟩) h.bp v'), by have := hg.size; have := h.hB; simp [World.setCell]; omega, P1, N2.far (p := ⟨p, 0, none⟩) (fun e => h.pq e.symm) v', .inl (ho.keep (fun k e => e1 k (fun e' => vp (by rw [← e']; exact e)))),
    h.r2.keep (fun k hk => (e1 k (by have := h.bp; omega)).trans (hb.block k hk)) (fun k hk e => (e1 k (l2 k hk e)).trans (hg.block k (h.r2.lt k hk e).1 (.inr (fun e' => h.a12 k hk e' e)))),
    h.rl.keep (fun k e => (e1 k (ll k e)).trans (hg.block k (h.rl.lt' k e).2.1 (.inr (fun e' => h.a1l k e' e)))), fun k hk e1 e2 => ?_, fun k e1 e2 => ?_, h.a2l, h.pq, h.bp, h.bq⟩
  · rcases hg.at_ k e1 with q' | q'
    · exact h.a12 k hk q' e2
    · have := (h.r2.lt k hk e2).1
      omega
  · rcases hg.at_ k e1 with q' | q'
    · exact h.a1l k q' e2
    · have := (h.rl.lt' k e2).2.1
      omega
theorem PM.del {gl n c n' : Nat} {R' : List En} (h : PM w0 B w p q v1 v2 (.slice (some ⟨gl, 0, none⟩) n c) O T R) (ho : rk.Own E6 w' B 79 (.slice (some ⟨gl, 0, none⟩) n' c) R') (hl : Only (fun k => k = gl) w w') : PM w0 B w' p q v1 v2 (.slice (some ⟨gl, 0, none⟩) n' c) O T R' := by
  have eg : (Value.slice (some ⟨gl, 0, none⟩) n c).ownBlock = some gl := rfl
  obtain ⟨gB, glt, cs, hgl⟩ := h.rl.lt' gl eg
  have gp : p ≠ gl := fun e => by subst e; exact ty62 h.n1 hgl
  have gq : q ≠ gl := fun e => by subst e; exact ty62 h.n2 hgl
  exact ⟨h.below.trans (hl.to_below (B := B) (fun k hk e => by omega) h.hB), Nat.le_trans h.hB hl.size, h.n1.only hl gp, h.n2.only hl gq,
    h.r1.keep (fun k hk => hl.block k (Nat.lt_of_lt_of_le hk h.hB) (fun e => by omega)) (fun k hk e => hl.block k (h.r1.lt k hk e).1 (fun e' => h.a1l k e (by rw [e']; rfl))),
    h.r2.keep (fun k hk => hl.block k (Nat.lt_of_lt_of_le hk h.hB) (fun e => by omega)) (fun k hk e => hl.block k (h.r2.lt k hk e).1 (fun e' => h.a2l k e (by rw [e']; rfl))),
    ho, h.a12, h.a1l, h.a2l, h.pq, h.bp, h.bq⟩
theorem perm_idx {α : Type} {R : List α} {k : Nat} (hk : k < R.length) : (R[k] :: R.eraseIdx k).Perm R := by
  have hX : R = R.take k ++ R[k] :: R.drop (k + 1) := by rw [← List.drop_eq_getElem_cons hk, List.take_append_drop]
  conv => rhs; rw [hX]
  rw [List.eraseIdx_eq_take_drop_succ]
  exact List.perm_middle.symm
/-- counts -/
structure PN (L O T R : List En) : Prop where
  o1 : 1 ≤ O.length
  t1 : 1 ≤ T.length
  sum : O.length + T.length + R.length = 5
  ot : 2 ≤ O.length + R.length
  tt : 2 ≤ T.length + R.length
  perm : (O ++ T ++ R).Perm L
variable {L : List En}
theorem PN.symm (h : PN L O T R) : PN L T O R := ⟨h.t1, h.o1, by have := h.sum; omega, h.tt, h.ot, by
  refine List.Perm.trans ?_ h.perm
  exact List.Perm.append_right _ List.perm_append_comm⟩
theorem PN.put1 {k : Nat} (h : PN L O T R) (hk : k < R.length) (hn : T.length + R.length ≠ 2) : PN L (O ++ [R.getD k en0]) T (R.eraseIdx k) := by
  have hl : (R.eraseIdx k).length = R.length - 1 := List.length_eraseIdx_of_lt hk
  have h1 := h.sum
  have h2 := h.ot
  have h3 := h.tt
  have ek : R.getD k en0 = R[k] := by rw [List.getD_eq_getElem?_getD, List.getElem?_eq_getElem hk]; rfl
  refine ⟨by simp, h.t1, by rw [hl, List.length_append]; simp; omega, by rw [hl, List.length_append]; simp; omega, by rw [hl]; omega, List.Perm.trans ?_ h.perm⟩
  have hp : (R[k] :: R.eraseIdx k).Perm R := perm_idx hk
  rw [ek, List.append_assoc, List.append_assoc, List.append_assoc]
  refine List.Perm.append_left _ ?_
  refine List.Perm.trans ?_ (List.Perm.append_left T hp)
  rw [List.singleton_append]
  exact List.perm_middle.symm
theorem PN.all1 (h : PN L O T R) (hn : O.length + R.length = 2) : PN L (O ++ R) T [] ∧ (O ++ R).length = 2 := by
  have h1 := h.sum
  refine ⟨⟨by rw [List.length_append]; omega, h.t1, by rw [List.length_append]; simp; omega, by rw [List.length_append]; simp; omega, by simp; omega, List.Perm.trans ?_ h.perm⟩, by rw [List.length_append]; exact hn⟩
  rw [List.append_nil, List.append_assoc, List.append_assoc]
  exact List.Perm.append_left _ List.perm_append_comm
theorem PN.right (h : PN L O T R) (hL : ∀ e ∈ L, e.b.right = true) : (∀ e ∈ O, e.b.right = true) ∧ (∀ e ∈ T, e.b.right = true) ∧ ∀ e ∈ R, e.b.right = true :=
  ⟨fun e he => hL e (h.perm.mem_iff.1 (List.mem_append_left _ (List.mem_append_left _ he))), fun e he => hL e (h.perm.mem_iff.1 (List.mem_append_left _ (List.mem_append_right _ he))), fun e he => hL e (h.perm.mem_iff.1 (List.mem_append_right _ he))⟩
/-- a row of two entries or more is of the call's own -/
theorem PRow.own (h : PRow w B v O) (h2 : 2 ≤ O.length) : rk.Own E6 w B 79 v O := by
  rcases h with h | ⟨bl, off, rfl, h1, h3, _⟩
  · exact h
  · omega
end Go.Proofs.Ytndhdpjgnepfnaa.tr
