/-
  Contracts of package slotted: New, Size, Slots, fits, has, vacant, Room, Get; bytes.Clone.
-/
import Derived.Test.YtikddbaenokdpaaSlA
import Derived.Deep.QuietTactic
import Derived.BigQuiet
import Derived.Laws.Cover3
import Derived.Lib.MinMax
namespace Go.Proofs.Ytikddbaenokdpaa.pg
open Go.RowKit
open base (ret_bool ret_int made up Blk Only below_drewN)
open bytes (Small small_app small_take small_drop small_nil)
open rk
set_option linter.unusedVariables false
set_option linter.unusedSimpArgs false
variable {U : Nat → Prop} {w w' : World} {B g size : Nat} {v : Value} {u : Int} {V : List S1} {L : List (List Nat)}

/-- the least slot that has nothing -/
structure VacIs (L : List (List Nat)) (k : Nat) : Prop where
  le : k ≤ L.length
  full : ∀ j (h : j < L.length), j < k → L[j] ≠ []
  none : ∀ h : k < L.length, L[k] = []
theorem VacIs.unique {a b : Nat} (h : VacIs L a) (k : VacIs L b) : a = b := by
  rcases Nat.lt_trichotomy a b with q | q | q
  · exact absurd (h.none (Nat.lt_of_lt_of_le q k.le)) (k.full a (Nat.lt_of_lt_of_le q k.le) q)
  · exact q
  · exact absurd (k.none (Nat.lt_of_lt_of_le q h.le)) (h.full b (Nat.lt_of_lt_of_le q h.le) q)
theorem vac_ex : ∀ L : List (List Nat), ∃ k, VacIs L k
  | [] => ⟨0, Nat.le_refl _, (fun j h => absurd h (by simp)), (fun h => absurd h (by simp))⟩
  | [] :: L => ⟨0, by simp, fun j h q => by omega, fun _ => rfl⟩
  | (x :: l) :: L => by
    obtain ⟨k, h⟩ := vac_ex L
    refine ⟨k + 1, by have := h.le; simp; omega, fun j hj q => ?_, fun q => ?_⟩
    · cases j with
      | zero => simp
      | succ j => exact h.full j (by simpa using hj) (by omega)
    · exact h.none (by simpa using q)
def roomOf (size : Nat) (L : List (List Nat)) (k : Nat) : Nat := if k < L.length then size - tot L else if L.length = 63 then 0 else size - tot L - 2
structure Gd (size : Nat) (L : List (List Nat)) : Prop where
  sz : 16 ≤ size ∧ size ≤ 4096
  ln : L.length ≤ 63
  tt : tot L ≤ size
  lt : ∀ h : L ≠ [], L.getLast h ≠ []
structure Pg (U : Nat → Prop) (w : World) (B g size : Nat) (L : List (List Nat)) : Prop where
  ex : ∃ v V, Pr U w B g size v (tot L : Nat) V L
  gd : Gd size L
theorem Pg.below (h : Pg U w B g size L) (hb : Below w.heap.size w w') : Pg U w' B g size L := by
  obtain ⟨v, V, p⟩ := h.ex
  exact ⟨⟨v, V, p.below hb⟩, h.gd⟩
theorem Pg.lt (h : Pg U w B g size L) : B ≤ g ∧ g < w.heap.size := by
  obtain ⟨v, V, p⟩ := h.ex
  exact ⟨p.gb, p.lt⟩
theorem tot_nil : tot [] = 1 := rfl
theorem sum_app (a b : List Nat) : (a ++ b).sum = a.sum + b.sum := by
  induction a with
  | nil => simp
  | cons x a ih => simp [ih]; omega
theorem tot_snoc (L : List (List Nat)) (l : List Nat) : tot (L ++ [l]) = tot L + 2 + l.length := by
  unfold tot
  rw [List.map_append, sum_app]
  simp
  omega
theorem tot_set : ∀ (L : List (List Nat)) (i : Nat) (l : List Nat) (h : i < L.length), tot (L.set i l) + (L[i]).length = tot L + l.length
  | x :: L, 0, l, _ => by simp [tot]; omega
  | x :: L, i + 1, l, h => by
    have := tot_set L i l (by simpa using h)
    simp [tot] at this ⊢
    omega
theorem len_le_tot {L : List (List Nat)} {i : Nat} (h : i < L.length) : (L[i]).length + 3 ≤ tot L := by
  have := tot_set L i [] h
  have h2 : 3 ≤ tot (L.set i []) := by
    have : 0 < (L.set i []).length := by simp; omega
    unfold tot
    match hL : L.set i [] with
    | [] => rw [hL] at this; simp at this
    | x :: M => simp; omega
  simp at this
  omega
theorem ty_ne2 {w : World} {k g : Nat} {t t' : TypeId} {cs cs' : Array Value} {fr : Nat × Nat} (h : w.heap[k]? = some (Obj.cells cs t fr)) (h' : Blk w g t' cs') (ht : t ≠ t') : k ≠ g := by
  rintro rfl
  unfold Blk at h'
  rw [h] at h'
  injection h' with h'
  injection h' with _ h'
  exact ht h'
/-- of what was there only pages, and rows of slots, above a base, may have turned -/
structure Ck (B : Nat) (w w' : World) : Prop where
  below : Below B w w'
  kind : ∀ (k : Nat) (cs : Array Value) (t : TypeId) (fr : Nat × Nat), w.heap[k]? = some (Obj.cells cs t fr) → t ≠ 53 → t ≠ 28 → w'.heap[k]? = some (Obj.cells cs t fr)
theorem Ck.refl (B : Nat) (w : World) : Ck B w w := ⟨Below.refl _ _, fun _ _ _ _ h _ _ => h⟩
theorem Ck.of {B : Nat} (h : Below w.heap.size w w') (hB : B ≤ w.heap.size) : Ck B w w' := ⟨h.mono hB, fun k cs t fr hb _ _ => (h.block k (Array.getElem?_eq_some_iff.1 hb).1).trans hb⟩
theorem Ck.trans {w1 w2 w3 : World} (h : Ck B w1 w2) (k : Ck B w2 w3) : Ck B w1 w3 := ⟨h.below.trans k.below, fun i cs t fr hb a b => k.kind i cs t fr (h.kind i cs t fr hb a b) a b⟩
theorem Ck.then_ {w1 w2 w3 : World} (h : Ck B w1 w2) (k : Below w2.heap.size w2 w3) (hB : B ≤ w2.heap.size) : Ck B w1 w3 := h.trans (Ck.of k hB)
theorem Ck.mono {B B' : Nat} (h : Ck B w w') (hB : B' ≤ B) : Ck B' w w' := ⟨h.below.mono hB, h.kind⟩
theorem Ck.set {B k i : Nat} {t : TypeId} {cs : Array Value} (hb : Blk w k t cs) (ht : t = 53 ∨ t = 28) (hB : B ≤ k) (x : Value) : Ck B w (w.setCell ⟨k, i, none⟩ x) :=
  ⟨(Below.refl B w).setCell (p := ⟨k, i, none⟩) hB x, fun j cs' t' fr hj h1 h2 => (Below.heap_setCell _ _ x j (show j ≠ k from ty_ne2 hj hb (fun e => by rcases ht with q | q; exact h1 (e.trans q); exact h2 (e.trans q)))).trans hj⟩

theorem Ck.blk {B : Nat} (h : Ck B w w') {k : Nat} {cs : Array Value} {t : TypeId} (hb : Blk w k t cs) (h1 : t ≠ 53) (h2 : t ≠ 28) : Blk w' k t cs := h.kind k cs t (0, 0) hb h1 h2
def NewBad (n : Int) : Prop := n < 16 ∨ 4096 < n
set_option maxHeartbeats 1000000 in
theorem new_bad (n : Int) (w : World) (h : NewBad n) : Calls Try.prog 10 #[.int .i64 n] w fun e w' => e = .returned (.pointer none) ∧ w' = w := by
  by_cases h1 : n < 16
  · have t1 : decide (n < 16) = true := decide_eq_true h1
    clear h h1
    go_enter Try.func10, Try.ntmps10
    go_wp2_with fail
    go_ret
    exact ⟨rfl, rfl⟩
  · have t1 : decide (n < 16) = false := decide_eq_false h1
    have t2 : decide (n > 4096) = true := decide_eq_true (by rcases h with h | h <;> omega)
    clear h h1
    go_enter Try.func10, Try.ntmps10
    go_wp2_with fail
    go_ret
    exact ⟨rfl, rfl⟩
def NewPP (n : Nat) (w : World) (e : Ending) (w' : World) : Prop := e = .returned (.pointer (some ⟨w.heap.size, 0, none⟩)) ∧ w' = w.alloc (.cells #[.int .i64 n, .slice none 0 0, .int .i64 1] 53)
set_option maxHeartbeats 1000000 in
theorem new_any (n : Nat) (w : World) (h1 : 16 ≤ n) (h2 : n ≤ 4096) : Calls Try.prog 10 #[.int .i64 n] w (NewPP n w) := by
  have t1 : decide ((n : Int) < 16) = false := decide_eq_false (by omega)
  have t2 : decide ((n : Int) > 4096) = false := decide_eq_false (by omega)
  go_enter Try.func10, Try.ntmps10
  go_wp2_with fail
  go_ret
  exact ⟨rfl, rfl⟩
theorem new_pg {n : Nat} {B : Nat} (h1 : 16 ≤ n) (h2 : n ≤ 4096) (hB : B ≤ w.heap.size) (hU : ∀ k, w.heap.size ≤ k → U k) : Pg U (w.alloc (.cells #[.int .i64 n, .slice none 0 0, .int .i64 1] 53)) B w.heap.size n [] :=
  ⟨⟨_, [], Blk.new _ _ _, rk.Own.nil _ _ _, Rds.nil _ _, hB, fun k hk => hU k (by rw [asz] at hk; omega)⟩, ⟨⟨h1, h2⟩, by simp, by rw [tot_nil]; omega, fun h => absurd rfl h⟩⟩
set_option maxHeartbeats 1000000 in
theorem size_any (h : Pg U w B g size L) : Calls Try.prog 19 #[.pointer (some ⟨g, 0, none⟩)] w fun e w' => e = .returned (.int .i64 size) ∧ w' = w := by
  obtain ⟨v, V, p⟩ := h.ex
  obtain ⟨c0, c1, c2, -⟩ := p.three
  clear h p
  go_enter Try.func19, Try.ntmps19
  go_wp2_with fail
  go_ret
  exact ⟨rfl, rfl⟩
set_option maxHeartbeats 1000000 in
theorem slots_any (h : Pg U w B g size L) : Calls Try.prog 20 #[.pointer (some ⟨g, 0, none⟩)] w fun e w' => e = .returned (.int .i64 L.length) ∧ w' = w := by
  obtain ⟨v, V, p⟩ := h.ex
  obtain ⟨A, c, rfl, -⟩ := p.open_
  obtain ⟨c0, c1, c2, -⟩ := p.three
  clear h p
  go_enter Try.func20, Try.ntmps20
  go_wp2_with fail
  go_ret
  exact ⟨rfl, rfl⟩
def fitB (n : Nat) : Bool := decide (1 ≤ n ∧ n ≤ 16384)
set_option maxHeartbeats 1000000 in
theorem fits_any (A : Option Addr) (n c : Nat) (w : World) : Calls Try.prog 32 #[.slice A n c] w fun e w' => e = .returned (.bool (fitB n)) ∧ w' = w := by
  unfold fitB
  by_cases h1 : 1 ≤ n
  · have t1 : decide ((n : Int) ≥ 1) = true := decide_eq_true (by omega)
    by_cases h2 : n ≤ 16384
    · have t2 : decide ((n : Int) ≤ 16384) = true := decide_eq_true (by omega)
      rw [decide_eq_true (⟨h1, h2⟩ : 1 ≤ n ∧ n ≤ 16384)]
      clear h1 h2
      go_enter Try.func32, Try.ntmps32
      go_wp2_with fail
      go_ret
      exact ⟨rfl, rfl⟩
    · have t2 : decide ((n : Int) ≤ 16384) = false := decide_eq_false (by omega)
      rw [decide_eq_false (fun q => h2 q.2 : ¬ (1 ≤ n ∧ n ≤ 16384))]
      clear h1 h2
      go_enter Try.func32, Try.ntmps32
      go_wp2_with fail
      go_ret
      exact ⟨rfl, rfl⟩
  · have t1 : decide ((n : Int) ≥ 1) = false := decide_eq_false (by omega)
    rw [decide_eq_false (fun q => h1 q.1 : ¬ (1 ≤ n ∧ n ≤ 16384))]
    clear h1
    go_enter Try.func32, Try.ntmps32
    go_wp2_with fail
    go_ret
    exact ⟨rfl, rfl⟩
/-- is there a record? -/
def hasB (L : List (List Nat)) (i : Int) : Bool := decide (0 ≤ i ∧ i < L.length) && !(L.getD i.toNat []).isEmpty
theorem hasB_in {i : Nat} (h : i < L.length) : hasB L i = !(L[i]).isEmpty := by
  unfold hasB
  rw [decide_eq_true (by omega : 0 ≤ (i : Int) ∧ (i : Int) < L.length)]
  simp [List.getD, h]
theorem hasB_out {i : Int} (h : ¬ (0 ≤ i ∧ i < L.length)) : hasB L i = false := by
  unfold hasB
  rw [decide_eq_false h]
  rfl
set_option maxHeartbeats 1000000 in
theorem has_any (p : Pr U w B g size v u V L) (i : Int) : Calls Try.prog 34 #[.pointer (some ⟨g, 0, none⟩), .int .i64 i] w fun e w' => e = .returned (.bool (hasB L i)) ∧ w' = w := by
  by_cases h0 : 0 ≤ i
  · have t0 : decide (i ≥ 0) = true := decide_eq_true h0
    by_cases h1 : i < L.length
    · obtain ⟨k, rfl⟩ : ∃ k : Nat, i = k := ⟨i.toNat, by omega⟩
      have hk : k < L.length := by omega
      obtain ⟨s, c, a, cc, rfl, e1, r, -⟩ := p.at_ hk
      obtain ⟨c0, c1, c2, -⟩ := p.three
      rw [hasB_in hk]
      have t1 : decide ((k : Int) < (L.length : Int)) = true := decide_eq_true (by omega)
      have hz : (!(L[k]).isEmpty) = decide (((L[k]).length : Int) > 0) := by
        cases h : L[k] <;> simp <;> omega
      rw [hz]
      clear p r hz
      generalize (L[k]).length = m at *
      generalize L.length = n at *
      by_cases q : 0 < m
      · have t2 : decide ((m : Int) > 0) = true := decide_eq_true (by omega)
        rw [t2]
        clear h1 h0
        go_enter Try.func34, Try.ntmps34
        go_wp2_with fail
        go_ret
        exact ⟨by first | rfl | exact ret_bool (by simp; omega), rfl⟩
      · have t2 : decide ((m : Int) > 0) = false := decide_eq_false (by omega)
        rw [t2]
        clear h1 h0
        go_enter Try.func34, Try.ntmps34
        go_wp2_with fail
        go_ret
        exact ⟨by first | rfl | exact ret_bool (by simp; omega), rfl⟩
    · obtain ⟨A, c, rfl, -⟩ := p.open_
      obtain ⟨c0, c1, c2, -⟩ := p.three
      have t1 : decide (i < (L.length : Int)) = false := decide_eq_false h1
      rw [hasB_out (fun q => h1 q.2)]
      clear p h0 h1
      go_enter Try.func34, Try.ntmps34
      go_wp2_with fail
      go_ret
      exact ⟨rfl, rfl⟩
  · have t0 : decide (i ≥ 0) = false := decide_eq_false h0
    rw [hasB_out (fun q => h0 q.1)]
    clear p h0
    go_enter Try.func34, Try.ntmps34
    go_wp2_with fail
    go_ret
    exact ⟨rfl, rfl⟩
set_option maxHeartbeats 2000000 in
theorem vacant_any (p : Pr U w B g size v u V L) {k : Nat} (hk : VacIs L k) (hl : L.length ≤ 1000) : Calls Try.prog 30 #[.pointer (some ⟨g, 0, none⟩)] w fun e w' => e = .returned (.int .i64 k) ∧ w' = w := by
  obtain ⟨A, c, rfl, -⟩ := p.open_
  obtain ⟨c0, c1, c2, -⟩ := p.three
  have P := Lib.hid p
  have K := Lib.hid hk
  clear p hk
  go_enter Try.func30, Try.ntmps30
  go_wp2_with fail
  go_loop [10] (fun j => ∃ i : Nat, j = .int .i64 i ∧ i ≤ L.length ∧ ∀ m (h : m < L.length), m < i → L[m] ≠ []) (fun j => L.length - (intOf j).toNat)
  case atStart => exact ⟨0, rfl, by omega, fun m _ h => by omega⟩
  case round =>
    obtain ⟨i, rfl, hi, hno⟩ := hrel
    have NO := Lib.hid hno
    clear hno
    by_cases hil : i < L.length
    · obtain ⟨s, c', a, cc, hv, e1, r, -⟩ := P.out.at_ hil
      injection hv with hv1 hv2 hv3
      subst hv1 hv3
      clear hv2 r
      have HZ := Lib.hid (show ((L[i]).length = 0) = (L[i] = []) by simp)
      obtain ⟨m, hm⟩ : ∃ m, m = (L[i]).length := ⟨_, rfl⟩
      rw [← hm] at e1 HZ
      clear hm
      by_cases q : m = 0
      · have t1 : ((m : Int) == 0) = true := by simp [q]
        have E := Lib.hid (HZ.out ▸ q)
        clear q
        go_wp2_with fail
        go_ret
        have := K.out.unique (show VacIs L i from ⟨hi, fun j h hj => NO.out j h hj, fun _ => E.out⟩)
        subst this
        exact ⟨rfl, rfl⟩
      · have t1 : ((m : Int) == 0) = false := by simp [q]
        have E := Lib.hid (show ¬ L[i] = [] from HZ.out ▸ q)
        clear q
        go_wp2_with fail
        refine ⟨⟨i + 1, by go_num, by omega, fun j h hj => ?_⟩, by simp [intOf]; omega⟩
        by_cases e : j = i
        · subst e; exact E.out
        · exact NO.out j h (by omega)
    · go_wp2_with fail
      go_ret
      have := K.out.unique (show VacIs L L.length from ⟨Nat.le_refl _, fun j h _ => NO.out j h (by omega), fun h => absurd h (Nat.lt_irrefl _)⟩)
      subst this
      exact ⟨rfl, rfl⟩
def IntP (n : Int) (w : World) (e : Ending) (w' : World) : Prop := e = .returned (.int .i64 n) ∧ Below w.heap.size w w'
set_option maxHeartbeats 2000000 in
theorem room_any (h : Pg U w B g size L) {k : Nat} (hk : VacIs L k) : Calls Try.prog 15 #[.pointer (some ⟨g, 0, none⟩)] w (IntP (roomOf size L k : Nat) w) := by
  obtain ⟨v, V, p⟩ := h.ex
  have G := h.gd
  obtain ⟨A, c, rfl, -⟩ := p.open_
  obtain ⟨c0, c1, c2, -⟩ := p.three
  have VA := Lib.hid (fun ws (h : Below w.heap.size w ws) => vacant_any (p.below h) hk (by have := G.ln; omega))
  have KL := hk.le
  have GT := G.tt
  have GS := G.sz
  have GL := G.ln
  have RE := Lib.hid (show roomOf size L k = if k < L.length then size - tot L else if L.length = 63 then 0 else size - tot L - 2 from rfl)
  generalize roomOf size L k = r at *
  clear h p G hk
  generalize tot L = t at *
  generalize L.length = n at *
  have hw : IntKind.i64.wrap ((size : Int) - (t : Int)) = ((size - t : Nat) : Int) := by rw [IntWalk.i64_in _ (by omega)]; omega
  by_cases q : k < n
  · rw [if_pos q] at RE
    obtain rfl := RE.out
    have t1 : decide ((k : Int) < (n : Int)) = true := decide_eq_true (by omega)
    go_enter Try.func15, Try.ntmps15
    go_wp2_with fail
    go_quiet (fail)
    have B1 := Lib.hid (below_drewN (Below.refl w.heap.size w) nq)
    have d1 : (w.drewN nq).cell? ⟨g, 1, none⟩ = _ := c1
    generalize w.drewN nq = w1 at *
    go_wp2_with fail
    go_quiet (first | (go_at_call 30; exact Calls.quiet_of_same (VA.out _ (below_drewN B1.out _))))
    go_wp2_with fail
    go_ret
    exact ⟨rfl, below_drewN B1.out _⟩
  · rw [if_neg q] at RE
    obtain rfl : k = n := by omega
    have t1 : decide ((k : Int) < (k : Int)) = false := decide_eq_false (by omega)
    by_cases q2 : k = 63
    · rw [if_pos q2] at RE
      obtain rfl := RE.out
      have t2 : ((k : Int) == 63) = true := by simp [q2]
      clear q2
      go_enter Try.func15, Try.ntmps15
      go_wp2_with fail
      go_quiet (fail)
      have B1 := Lib.hid (below_drewN (Below.refl w.heap.size w) nq)
      have d1 : (w.drewN nq).cell? ⟨g, 1, none⟩ = _ := c1
      generalize w.drewN nq = w1 at *
      go_wp2_with fail
      go_quiet (first | (go_at_call 30; exact Calls.quiet_of_same (VA.out _ (below_drewN B1.out _))))
      go_wp2_with fail
      go_ret
      exact ⟨rfl, below_drewN B1.out _⟩
    · rw [if_neg q2] at RE
      obtain rfl := RE.out
      have t2 : ((k : Int) == 63) = false := by simp; omega
      have hw2 : IntKind.i64.wrap (((size - t : Nat) : Int) - 2) = ((size - t : Nat) : Int) - 2 := IntWalk.i64_in _ (by omega)
      have hmx : max (((size - t : Nat) : Int) - 2) 0 = ((size - t - 2 : Nat) : Int) := by omega
      clear q2
      go_enter Try.func15, Try.ntmps15
      go_wp2_with fail
      go_quiet (fail)
      have B1 := Lib.hid (below_drewN (Below.refl w.heap.size w) nq)
      have d1 : (w.drewN nq).cell? ⟨g, 1, none⟩ = _ := c1
      generalize w.drewN nq = w1 at *
      go_wp2_with fail
      go_quiet (first | (go_at_call 30; exact Calls.quiet_of_same (VA.out _ (below_drewN B1.out _))))
      go_wp2_with fail
      go_ret
      exact ⟨by first | rfl | (rw [hmx]), below_drewN B1.out _⟩
theorem eql_nil (w : World) (a : Option Addr) (n c : Nat) : (binOp .eql 28 (.slice a n c) (.slice none 0 0)).run Try.prog w = .ok (.bool a.isNone) w := by
  simp only [binOp]
  simp [Op.equal, Op.maxDepth, run_equalIn_slice_nil w 9999 28 5 a n c Try.underlying28]
def CloneP (l : List Nat) (w : World) (e : Ending) (w' : World) : Prop := ∃ v, e = .returned v ∧ bytes.Own w' w.heap.size v l ∧ Below w.heap.size w w'
set_option maxRecDepth 100000 in
set_option maxHeartbeats 1000000 in
theorem clone_any (A : Option Addr) (c : Nat) (l : List Nat) (w : World) (hA : bytes.Lay w A l) (hl : l.length ≤ 100000) :
    Calls Try.prog 29 #[.slice A l.length c] w (CloneP l w) := by
  cases A with
  | none =>
    have hL : l = [] := by
      cases l with
      | nil => rfl
      | cons d L =>
        obtain ⟨b, off, e, -⟩ := hA (by simp [bytes.ints])
        cases e
    subst hL
    have en := eql_nil w none 0 c
    dsimp only [List.length_nil, Option.isNone] at en ⊢
    go_enter Try.func29, Try.ntmps29
    go_wp2_with fail
    go_ret
    exact ⟨_, rfl, bytes.Own.nil _ _, Below.refl _ _⟩
  | some ad =>
    have OE := Lib.hid (bytes.Own.empty (w := w) (b := w.heap.size) (Nat.le_refl _))
    have LY := Lib.hid (hA.below (made w (.cells #[] 5)))
    have B6 := Lib.hid (made w (.cells #[] 5))
    clear hA
    have en := eql_nil w (some ad) l.length c
    dsimp only [Option.isNone] at en
    go_enter Try.func29, Try.ntmps29
    go_wp2_with ((with_reducible show wpList _ _ _ (⟨some 7, _, _, _, _, _⟩ :: _) _ _); go_must (refine bytes.wp_app (c := c) rfl _ _ rfl rfl rfl rfl OE.out LY.out (by simp; omega) B6.out.size ?_))
    intro v7 w7 own7 gr7
    have B7 := Lib.hid (B6.out.trans (gr7.below OE.out B6.out.size))
    have O7 := Lib.hid own7
    obtain ⟨A2, c2, rfl, -⟩ := own7.lay
    clear own7 gr7 OE LY B6
    go_wp2_with fail
    go_ret
    exact ⟨_, rfl, O7.out, B7.out⟩
set_option maxHeartbeats 1000000 in
theorem get_yes (h : Pg U w B g size L) {i : Nat} (hi : i < L.length) (hn : L[i] ≠ []) : Calls Try.prog 27 #[.pointer (some ⟨g, 0, none⟩), .int .i64 i] w fun e w' => ∃ A c, e = .returned (.tuple #[.slice A (L[i]).length c, .int .i64 0]) ∧ bytes.Own w' w.heap.size (.slice A (L[i]).length c) L[i] ∧ Below w.heap.size w w' := by
  obtain ⟨v, V, p⟩ := h.ex
  have HA := Lib.hid (has_any p i)
  rw [hasB_in hi, show (!(L[i]).isEmpty) = true by cases q : L[i] with | nil => exact absurd q hn | cons x l => rfl] at HA
  have hl := len_le_tot hi
  have ht := h.gd.tt
  have hsz := h.gd.sz
  obtain ⟨s, c, a, cc, rfl, e1, r, -⟩ := p.at_ hi
  obtain ⟨c0, c1, c2, -⟩ := p.three
  have CL := Lib.hid (clone_any a cc L[i] w r.lay (by omega))
  clear p r h hn
  have hi2 : (i : Int) < (L.length : Int) := by omega
  generalize L[i] = l at *
  generalize L.length = n at *
  go_enter Try.func27, Try.ntmps27
  go_wp2_with fail
  refine HA.out.mono ?_
  rintro e w1 ⟨rfl, rfl⟩
  go_wp2_with fail
  refine CL.out.mono ?_
  rintro e w2 ⟨v2, rfl, own2, hb2⟩
  obtain ⟨A2, c2', rfl, -⟩ := own2.lay
  have O2 := Lib.hid (And.intro own2 hb2)
  clear own2 hb2
  go_wp2_with fail
  go_ret2
  exact ⟨_, _, rfl, O2.out.1, O2.out.2⟩
set_option maxHeartbeats 1000000 in
theorem get_no (h : Pg U w B g size L) {i : Int} (hn : hasB L i = false) : Calls Try.prog 27 #[.pointer (some ⟨g, 0, none⟩), .int .i64 i] w fun e w' => e = .returned (.tuple #[.slice none 0 0, .int .i64 14]) ∧ w' = w := by
  obtain ⟨v, V, p⟩ := h.ex
  have HA := Lib.hid (has_any p i)
  rw [hn] at HA
  clear p h hn
  go_enter Try.func27, Try.ntmps27
  go_wp2_with fail
  refine HA.out.mono ?_
  rintro e w1 ⟨rfl, rfl⟩
  go_wp2_with fail
  go_ret2
  exact ⟨rfl, rfl⟩
end Go.Proofs.Ytikddbaenokdpaa.pg
