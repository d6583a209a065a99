/-
  Things: what Copy wants: the keys of the map told back, a part of a list by places, slices.Clone of things.
-/
import Derived.Test.YtckdfdnhoionnaaTgU
import Derived.Lib.SlKeysI
namespace Go.Proofs.Ytckdfdnhoionnaa.tg
open Go.RowKit Go.Maps
open base (ret_bool ret_int made up Blk Only)
open rk mk il nm
set_option linter.unusedVariables false
set_option linter.unusedSimpArgs false
variable {B g m K : Nat} {w w1 w2 w5 w' : World} {L : List Th} {nx : Int}

theorem int_cell {d : Nat} {v : Value} {l : List Lit} (h : Try.prog.keyLits (d + 1) 3 [v] = some l) : ∃ a, v = .int .i64 a ∧ (Lit.int .i64 a).wf = true ∧ l = [.int .i64 a] := by
  unfold Program.keyLits at h
  rw [Try.underlying3] at h
  cases v with
  | int q n =>
    dsimp only at h
    split at h
    · rename_i hq
      obtain ⟨rfl, hw⟩ := hq
      injection h with h
      exact ⟨n, rfl, hw, h.symm⟩
    · cases h
  | _ => cases h
theorem key_inv {v : Value} {l : Lit} (h : keyOf Try.prog 31 v = some l) : ∃ p, wp p ∧ v = pv p := by
  obtain ⟨m, hm⟩ := size_succ
  have hc : Try.prog.cellsOf 31 = 3 := by kernel_rfl
  have hc1 : Try.prog.cellsOf 3 = 1 := by kernel_rfl
  unfold keyOf at h
  rw [Try.underlying31] at h
  dsimp only at h
  split at h
  · rename_i hk
    rw [Bool.and_eq_true] at hk
    obtain ⟨-, hf⟩ := hk
    cases v with
    | agg cs =>
      simp [Value.formed, Try.underlying31, hc] at hf
      obtain ⟨a, b, c, rfl⟩ : ∃ a b c, cs = #[a, b, c] := by
        obtain ⟨l⟩ := cs
        match l, hf with
        | [a, b, c], _ => exact ⟨a, b, c, rfl⟩
      rw [Option.map_eq_some_iff] at h
      obtain ⟨ls, h1, -⟩ := h
      rw [hm] at h1
      unfold Program.keyLits at h1
      rw [Try.underlying31] at h1
      simp [Value.cells, hc, hc1, Option.bind_eq_some_iff] at h1
      obtain ⟨l1, q1, r1, ⟨l2, q2, r2, ⟨l3, q3, -⟩, -⟩, -⟩ := h1
      obtain ⟨x, rfl, w1, -⟩ := int_cell q1
      obtain ⟨y, rfl, w2, -⟩ := int_cell q2
      obtain ⟨z, rfl, w3, -⟩ := int_cell q3
      exact ⟨⟨x, y, z⟩, ⟨w1, w2, w3⟩, rfl⟩
    | _ => simp [Value.formed, Try.underlying31] at hf
  · cases h
theorem kmap_open {w : World} {b c : Nat} {F : Lit → Option Value} (hm : MapIs w Try.prog 31 b F c) : ∃ D, w.ownsMap Try.prog 31 mk.Rv b c D ∧ (∀ p, wp p → Maps.has D (kl p) = (F (kl p)).isSome) ∧ ∀ p v, wp p → (∀ zd, D.atKey (kl p) zd = .held v) → F (kl p) = some v := by
  obtain ⟨D, h1, h2, h3⟩ := MapIs.ex hm
  refine ⟨D, h1, fun p hp => (h3 _ (law.key (key_of hp))).1, fun p v hp hat => ?_⟩
  have h4 := (h3 _ (law.key (key_of hp))).2
  have e : ∀ z, v = (F (kl p)).getD z := by
    intro z
    have := (hat (.held z)).symm.trans (h4 z)
    injection this
  cases q : F (kl p) with
  | some u => rw [e (.bool true), q]; rfl
  | none =>
    have a := e (.bool true)
    have b := e (.bool false)
    rw [q] at a b
    have := a.symm.trans b
    cases this
/-- the places told so far -/
def ColP (D : DataW Value) (left : Lit → Bool) (ss : List Pc) : Prop := ∀ p, wp p → (p ∈ ss ↔ (Maps.has D (kl p) = true ∧ left (kl p) = false))
theorem ColP.start (D : DataW Value) : ColP D (Maps.has D) [] := fun p _ => by cases Maps.has D (kl p) <;> simp
theorem ColP.step {D : DataW Value} {left : Lit → Bool} {ss : List Pc} (h : ColP D left ss) {x : Pc} (hx : wp x) {y : DataW Value} (hlk : left (kl x) = true) (hat : ∀ zd, D.atKey (kl x) zd = y) : x ∉ ss ∧ ColP D (fun z => left z && !z.sameKey (kl x)) (ss ++ [x]) := by
  have hhas : Maps.has D (kl x) = true := Maps.has_true_of_atKey hat
  refine ⟨(fun q => by have := ((h x hx).1 q).2; rw [hlk] at this; cases this), fun p hp => ?_⟩
  by_cases e : p = x
  · subst e
    have hs : (kl p).sameKey (kl p) = true := by simp [Lit.sameKey, kl]
    simp [hhas, hs]
  · have hn := kl_ne hp hx e
    have hs : (kl p).sameKey (kl x) = false := by
      unfold kl at hn ⊢
      simp [Lit.sameKey]
      intro q
      exact hn (by rw [q])
    simp [h p hp, e, hs]
/-- those of a list that stand at some places -/
def onlyP (L : List Th) (ss : List Pc) : List Th := L.filter (fun d => decide (pc d ∈ ss))
theorem ids_only (L : List Th) (ss : List Pc) (p : Pc) : ids (onlyP L ss) p = if p ∈ ss then ids L p else [] := by
  unfold ids onlyP
  rw [List.filter_filter]
  by_cases e : p ∈ ss
  · rw [if_pos e]
    congr 1
    apply List.filter_congr
    intro a _
    by_cases q : pc a = p
    · simp [q, e]
    · simp [q]
  · rw [if_neg e]
    have : (L.filter fun a => decide (pc a = p) && decide (pc a ∈ ss)) = [] := by
      rw [List.filter_eq_nil_iff]
      intro a _ h
      simp at h
      exact e (h.1 ▸ h.2)
    rw [this]
    rfl
theorem only_nilP (L : List Th) : onlyP L [] = [] := by
  unfold onlyP
  rw [List.filter_eq_nil_iff]
  intro a _
  simp
theorem only_allP {L : List Th} {ss : List Pc} (h : ∀ d, d ∈ L → pc d ∈ ss) : onlyP L ss = L := by
  unfold onlyP
  rw [List.filter_eq_self]
  intro a ha
  simpa using h a ha
theorem ids_snocP (L : List Th) (ss : List Pc) (x p : Pc) : ids (onlyP L (ss ++ [x])) p = if p = x then ids L x else ids (onlyP L ss) p := by
  rw [ids_only, ids_only]
  by_cases e : p = x
  · subst e; simp
  · rw [if_neg e]
    by_cases q : p ∈ ss <;> simp [e, q]
theorem ids_ne {L : List Th} {d : Th} (h : d ∈ L) : ids L (pc d) ≠ [] := by
  intro e
  have : d.id ∈ ids L (pc d) := by
    unfold ids
    exact List.mem_map.2 ⟨d, List.mem_filter.2 ⟨h, by simp⟩, rfl⟩
  rw [e] at this
  cases this
/-- no more places than things -/
theorem nodup_le {α : Type} [DecidableEq α] : ∀ (ss M : List α), ss.Nodup → (∀ x, x ∈ ss → x ∈ M) → ss.length ≤ M.length
  | [], _, _, _ => by simp
  | x :: ss, M, hn, hs => by
    obtain ⟨h1, h2⟩ := List.nodup_cons.1 hn
    have hx := hs x (by simp)
    have := nodup_le ss (M.erase x) h2 (fun y hy => (List.mem_erase_of_ne (fun e => h1 (by rw [← e]; exact hy))).2 (hs y (by simp [hy])))
    rw [List.length_erase_of_mem hx] at this
    have := List.length_pos_of_mem hx
    simp
    omega
theorem places_le {L : List Th} {ss : List Pc} (hn : ss.Nodup) (h : ∀ p, p ∈ ss → ids L p ≠ []) : ss.length ≤ L.length := by
  have := nodup_le ss (L.map pc) hn (fun p hp => by
    cases q : ids L p with
    | nil => exact absurd q (h p hp)
    | cons n l =>
      obtain ⟨d, hd, e, -⟩ := ids_mem (L := L) (p := p) (n := n) (by rw [q]; simp)
      exact List.mem_map.2 ⟨d, hd, e⟩)
  rwa [List.length_map] at this
theorem empty_th (w : World) (t : TypeId) : rk.Own E6 (w.alloc (.cells #[] t)) w.heap.size t (.slice (some ⟨w.heap.size, 0, none⟩) 0 0) [] :=
  ⟨rfl, .inr ⟨w.heap.size, 0, #[], rfl, Nat.le_refl _, Blk.new w t #[], Nat.le_refl _, Nat.zero_le _, rfl, rfl⟩⟩
theorem eql_th (w : World) (a : Option Addr) (n c : Nat) : (binOp .eql 58 (.slice a n c) (.slice none 0 0)).run Try.prog w = .ok (.bool a.isNone) w := by
  simp only [binOp]
  simp [Op.equal, Op.maxDepth, run_equalIn_slice_nil w 9999 58 46 a n c Try.underlying58]
set_option maxRecDepth 100000 in
set_option maxHeartbeats 1000000 in
theorem clone_th (A : Option Addr) (c : Nat) (L : List Th) (w : World) (hA : Lay E6 w A L) (hl : L.length ≤ 100000) :
    Calls Try.prog 44 #[.slice A L.length c] w fun e w' => ∃ v, e = .returned v ∧ rk.Own E6 w' w.heap.size 46 v L ∧ Below w.heap.size w w' := by
  cases A with
  | none =>
    have hL : L = [] := by
      cases L with
      | nil => rfl
      | cons d L =>
        obtain ⟨b, off, e, -⟩ := hA (by simp)
        cases e
    subst hL
    have en := eql_th w none 0 c
    dsimp only [List.length_nil, Option.isNone] at en ⊢
    go_enter Try.func44, Try.ntmps44
    go_wp2_with fail
    go_ret
    exact ⟨_, rfl, rk.Own.nil _ _ _, Below.refl _ _⟩
  | some ad =>
    have OE := Lib.hid (empty_th w 46)
    have LY := Lib.hid (hA.below (made w (.cells #[] 46)))
    have B6 := Lib.hid (made w (.cells #[] 46))
    clear hA
    have en := eql_th w (some ad) L.length c
    dsimp only [Option.isNone] at en
    go_enter Try.func44, Try.ntmps44
    go_wp2_with ((with_reducible show wpList _ _ _ (⟨some 7, _, _, _, _, _⟩ :: _) _ _); go_must (refine wp_app TT (c := c) (n := L.length) rfl _ _ rfl rfl rfl rfl rfl OE.out LY.out (by simp; omega) B6.out.size ?_))
    intro v7 w7 own7 gr7
    have B7 := Lib.hid (B6.out.trans (gr7.below OE.out B6.out.size))
    have O7 := Lib.hid own7
    obtain ⟨A2, c2, rfl, -⟩ := own7.open_
    clear own7 gr7 OE LY B6
    go_wp2_with fail
    go_ret
    exact ⟨_, rfl, O7.out, B7.out⟩
end Go.Proofs.Ytckdfdnhoionnaa.tg
