/-
  Contracts of package access: who is on a list; levels; needs.
-/
import Derived.Test.YtemkhblogmdleaaDoorBase3
import Derived.Lib.Hide
namespace Go.Proofs.YtemkhblogmdleaaDoor.ac
open Go.RowKit
open base (ret_bool ret_int made up Blk Only Nums)
set_option linter.unusedVariables false
set_option linter.unusedSimpArgs false

/-- the first place -/
def Idx (l : List Int) (p : Int) : Option Nat → Prop
  | some k => k < l.length ∧ l.getD k 0 = p ∧ ∀ j, j < k → l.getD j 0 ≠ p
  | none => ∀ j, j < l.length → l.getD j 0 ≠ p
theorem Idx.unique {l : List Int} {p : Int} : ∀ {a b : Option Nat}, Idx l p a → Idx l p b → a = b
  | none, none, _, _ => rfl
  | none, some j, h, k => absurd k.2.1 (h j k.1)
  | some j, none, k, h => absurd k.2.1 (h j k.1)
  | some j, some k, h, h' => by
    rcases Nat.lt_trichotomy j k with q | q | q
    · exact absurd h.2.1 (h'.2.2 j q)
    · rw [q]
    · exact absurd h'.2.1 (h.2.2 k q)
theorem idx_ex (l : List Int) (p : Int) : ∃ o, Idx l p o := by
  have key : ∀ n, (∃ k, Idx l p (some k)) ∨ ∀ j, j < n → j < l.length → l.getD j 0 ≠ p := by
    intro n
    induction n with
    | zero => exact .inr (fun j h => by omega)
    | succ n ih =>
      rcases ih with h | h
      · exact .inl h
      · by_cases hn : n < l.length ∧ l.getD n 0 = p
        · exact .inl ⟨n, hn.1, hn.2, fun j hj => h j hj (by omega)⟩
        · refine .inr (fun j h1 h2 => ?_)
          by_cases e : j = n
          · subst e; exact fun q => hn ⟨h2, q⟩
          · exact h j (by omega) h2
  rcases key l.length with ⟨k, h⟩ | h
  · exact ⟨some k, h⟩
  · exact ⟨none, fun j hj => h j hj hj⟩
def on (l : List Int) (p : Int) : Bool := l.any (fun q => q == p)
theorem on_some {l : List Int} {p : Int} {k : Nat} (h : Idx l p (some k)) : on l p = true := by
  unfold on
  rw [List.any_eq_true]
  have hk := h.1
  refine ⟨l[k], List.getElem_mem hk, ?_⟩
  have := h.2.1
  simp [List.getD, List.getElem?_eq_getElem hk] at this
  simpa using this
theorem on_none {l : List Int} {p : Int} (h : Idx l p none) : on l p = false := by
  unfold on
  rw [List.any_eq_false]
  intro q hq
  obtain ⟨k, hk, rfl⟩ := List.getElem_of_mem hq
  have := h k hk
  simp [List.getD, List.getElem?_eq_getElem hk] at this
  simpa using this
def idxI : Option Nat → Int
  | some j => j
  | none => -1
theorem nat {w : World} {A : Option Addr} {l : List Int} (h : Nums .i64 w A l) {k : Nat} (hk : k < l.length) : ∃ b off, A = some ⟨b, off, none⟩ ∧ w.cell? ⟨b, off + k, none⟩ = some (.int .i64 (l.getD k 0)) := by
  obtain ⟨b, off, e, _, hc⟩ := h (by omega)
  exact ⟨b, off, e, hc k hk⟩
set_option maxRecDepth 100000 in
set_option maxHeartbeats 1000000 in
theorem index_any (A : Option Addr) (c : Nat) (l : List Int) (p : Int) (o : Option Nat) (w : World) (h : Nums .i64 w A l) (ho : Idx l p o) (hl : l.length ≤ 9000000) :
    Calls Tryd.prog 31 #[.slice A l.length c, .int .i64 p] w fun e w' => e = .returned (.int .i64 (idxI o)) ∧ w' = w := by
  have N := Lib.hid h
  have O := Lib.hid ho
  clear h ho
  go_enter Tryd.func31, Tryd.ntmps31
  go_wp2_with fail
  go_loop [8] (fun j => ∃ k : Nat, j = .int .i64 k ∧ k ≤ l.length ∧ ∀ m, m < k → l.getD m 0 ≠ p) (fun j => l.length - (intOf j).toNat)
  case atStart => exact ⟨0, rfl, by omega, fun m h => by omega⟩
  case round =>
    obtain ⟨k, rfl, hk, hno⟩ := hrel
    have NO := Lib.hid hno
    clear hno
    by_cases hkl : k < l.length
    · obtain ⟨b, off, rfl, hc⟩ := nat N.out hkl
      obtain ⟨v, hv⟩ : ∃ v, v = l.getD k 0 := ⟨_, rfl⟩
      rw [← hv] at hc
      have V := Lib.hid hv
      clear hv
      by_cases hvp : p = v
      · have hb : (p == v) = true := by simpa using hvp
        have VP := Lib.hid hvp
        clear hvp
        go_wp2_with fail
        go_ret
        have e := O.out.unique (show Idx l p (some k) from ⟨hkl, by rw [← V.out]; exact VP.out.symm, NO.out⟩)
        subst e
        exact ⟨rfl, rfl⟩
      · have hb : (p == v) = false := by simpa using hvp
        have VP := Lib.hid hvp
        clear hvp
        go_wp2_with fail
        refine ⟨⟨k + 1, by go_num, by omega, fun m hm => ?_⟩, by simp [intOf]; omega⟩
        by_cases e : m = k
        · subst e; rw [← V.out]; exact fun q => VP.out q.symm
        · exact NO.out m (by omega)
    · go_wp2_with fail
      go_ret
      have e := O.out.unique (show Idx l p none from fun j hj => NO.out j (by omega))
      subst e
      exact ⟨rfl, rfl⟩
set_option maxHeartbeats 1000000 in
theorem contains_any (A : Option Addr) (c : Nat) (l : List Int) (p : Int) (w : World) (h : Nums .i64 w A l) (hl : l.length ≤ 9000000) :
    Calls Tryd.prog 25 #[.slice A l.length c, .int .i64 p] w fun e w' => e = .returned (.bool (on l p)) ∧ w' = w := by
  obtain ⟨o, ho⟩ := idx_ex l p
  have I := Lib.hid (index_any A c l p o w h ho hl)
  cases o with
  | some k =>
    have ON := Lib.hid (on_some ho)
    clear ho h
    go_enter Tryd.func25, Tryd.ntmps25
    go_wp2_with fail
    refine I.out.mono ?_
    rintro e w1 ⟨he, rfl⟩
    obtain rfl : e = .returned (.int .i64 (k : Nat)) := he
    clear I
    go_wp2_with fail
    go_ret
    exact ⟨by rw [ON.out]; rfl, rfl⟩
  | none =>
    have ON := Lib.hid (on_none ho)
    clear ho h
    go_enter Tryd.func25, Tryd.ntmps25
    go_wp2_with fail
    refine I.out.mono ?_
    rintro e w1 ⟨he, rfl⟩
    obtain rfl : e = .returned (.int .i64 (-1)) := he
    clear I
    go_wp2_with fail
    go_ret
    exact ⟨by rw [ON.out]; rfl, rfl⟩
set_option maxRecDepth 100000 in
set_option maxHeartbeats 1000000 in
theorem ron_any (A : Option Addr) (c : Nat) (l : List Int) (p : Int) (w : World) (h : Nums .i64 w A l) (hl : l.length ≤ 9000000) :
    Calls Tryd.prog 24 #[.slice A l.length c, .int .i64 p] w fun e w' => e = .returned (.bool (on l p)) ∧ w' = w := by
  have N := Lib.hid h
  clear h
  go_enter Tryd.func24, Tryd.ntmps24
  go_wp2_with fail
  go_loop [5] (fun j => ∃ k : Nat, j = .int .i64 k ∧ k ≤ l.length ∧ ∀ m, m < k → l.getD m 0 ≠ p) (fun j => l.length - (intOf j).toNat)
  case atStart => exact ⟨0, rfl, by omega, fun m h => by omega⟩
  case round =>
    obtain ⟨k, rfl, hk, hno⟩ := hrel
    have NO := Lib.hid hno
    clear hno
    by_cases hkl : k < l.length
    · obtain ⟨b, off, rfl, hc⟩ := nat N.out hkl
      obtain ⟨v, hv⟩ : ∃ v, v = l.getD k 0 := ⟨_, rfl⟩
      rw [← hv] at hc
      have V := Lib.hid hv
      clear hv
      by_cases hvp : v = p
      · have hb : (v == p) = true := by simpa using hvp
        have VP := Lib.hid hvp
        clear hvp
        go_wp2_with fail
        go_ret
        have e := on_some (show Idx l p (some k) from ⟨hkl, by rw [← V.out]; exact VP.out, NO.out⟩)
        exact ⟨by rw [e]; rfl, rfl⟩
      · have hb : (v == p) = false := by simpa using hvp
        have VP := Lib.hid hvp
        clear hvp
        go_wp2_with fail
        refine ⟨⟨k + 1, by go_num, by omega, fun m hm => ?_⟩, by simp [intOf]; omega⟩
        by_cases e : m = k
        · subst e; rw [← V.out]; exact VP.out
        · exact NO.out m (by omega)
    · go_wp2_with fail
      go_ret
      have e := on_none (show Idx l p none from fun j hj => NO.out j (by omega))
      exact ⟨by rw [e]; rfl, rfl⟩

/-! Levels -/
def levelOf (o : Int) (la lb lc : List Int) (p : Int) : Int := if p < 1 then 0 else if p = o then 4 else if on lc p then 0 else if on la p then 3 else if on lb p then 2 else 1
structure Ls (w : World) (A : Option Addr) (la : List Int) (B : Option Addr) (lb : List Int) (C : Option Addr) (lc : List Int) : Prop where
  a : Nums .i64 w A la
  b : Nums .i64 w B lb
  c : Nums .i64 w C lc
  la : la.length ≤ 9000000
  lb : lb.length ≤ 9000000
  lc : lc.length ≤ 9000000
theorem Ls.keep {w w' : World} {A B C : Option Addr} {la lb lc : List Int} (h : Ls w A la B lb C lc) (hb : Below w.heap.size w w') : Ls w' A la B lb C lc :=
  ⟨base.Nums.keep h.a hb, base.Nums.keep h.b hb, base.Nums.keep h.c hb, h.la, h.lb, h.lc⟩
def LvP (n : Int) (w : World) (e : Ending) (w' : World) : Prop := e = .returned (.int .i64 n) ∧ Below w.heap.size w w'
set_option maxHeartbeats 1000000 in
theorem level_any (o : Int) (A : Option Addr) (ca : Nat) (la : List Int) (B : Option Addr) (cb : Nat) (lb : List Int) (C : Option Addr) (cc : Nat) (lc : List Int) (p : Int) (w : World) (h : Ls w A la B lb C lc) :
    Calls Tryd.prog 11 #[.agg #[.int .i64 o, .slice A la.length ca, .slice B lb.length cb, .slice C lc.length cc], .int .i64 p] w (LvP (levelOf o la lb lc p) w) := by
  have hb := made w (.cells #[.int .i64 o, .slice A la.length ca, .slice B lb.length cb, .slice C lc.length cc] 24)
  have bx : Blk (w.alloc (.cells #[.int .i64 o, .slice A la.length ca, .slice B lb.length cb, .slice C lc.length cc] 24)) w.heap.size 24 #[.int .i64 o, .slice A la.length ca, .slice B lb.length cb, .slice C lc.length cc] := Blk.new _ _ _
  have b0 := bx.cell 0
  have b1 := bx.cell 1
  have b2 := bx.cell 2
  have b3 := bx.cell 3
  have L := h.keep hb
  have HB := Lib.hid hb
  clear h hb bx
  generalize hw1 : w.alloc (.cells #[.int .i64 o, .slice A la.length ca, .slice B lb.length cb, .slice C lc.length cc] 24) = w1 at *
  have RA := Lib.hid (contains_any A ca la p w1 L.a L.la)
  have RB := Lib.hid (contains_any B cb lb p w1 L.b L.lb)
  have RC := Lib.hid (contains_any C cc lc p w1 L.c L.lc)
  have LV : Hid (levelOf o la lb lc p = if p < 1 then 0 else if p = o then 4 else if on lc p then 0 else if on la p then 3 else if on lb p then 2 else 1) := Lib.hid rfl
  clear L
  generalize levelOf o la lb lc p = n at *
  generalize on la p = ba at *
  generalize on lb p = bb at *
  generalize on lc p = bc at *
  by_cases h1 : p < 1
  · have hn : n = 0 := by rw [LV.out, if_pos h1]
    subst hn
    go_enter Tryd.func11, Tryd.ntmps11
    go_wp2_with (rw [hw1])
    go_ret
    exact ⟨rfl, HB.out⟩
  · by_cases h2 : p = o
    · have hn : n = 4 := by rw [LV.out, if_neg h1, if_pos h2]
      have hpo : (p == o) = true := by simpa using h2
      subst hn
      clear LV h2
      go_enter Tryd.func11, Tryd.ntmps11
      go_wp2_with (rw [hw1])
      go_ret
      exact ⟨rfl, HB.out⟩
    · have hpo : (p == o) = false := by simpa using h2
      have hn := LV.out
      rw [if_neg h1, if_neg h2] at hn
      clear LV h2
      cases bc with
      | true =>
        have hn2 : n = 0 := hn
        clear hn
        subst hn2
        go_enter Tryd.func11, Tryd.ntmps11
        go_wp2_with (rw [hw1])
        refine RC.out.mono ?_
        rintro e w2 ⟨rfl, rfl⟩
        go_wp2_with fail
        go_ret
        exact ⟨rfl, HB.out⟩
      | false =>
        cases ba with
        | true =>
          have hn2 : n = 3 := hn
          clear hn
          subst hn2
          go_enter Tryd.func11, Tryd.ntmps11
          go_wp2_with (rw [hw1])
          refine RC.out.mono ?_
          rintro e w2 ⟨rfl, rfl⟩
          go_wp2_with fail
          refine RA.out.mono ?_
          rintro e w2 ⟨rfl, rfl⟩
          go_wp2_with fail
          go_ret
          exact ⟨rfl, HB.out⟩
        | false =>
          cases bb with
          | true =>
            have hn2 : n = 2 := hn
            clear hn
            subst hn2
            go_enter Tryd.func11, Tryd.ntmps11
            go_wp2_with (rw [hw1])
            refine RC.out.mono ?_
            rintro e w2 ⟨rfl, rfl⟩
            go_wp2_with fail
            refine RA.out.mono ?_
            rintro e w2 ⟨rfl, rfl⟩
            go_wp2_with fail
            refine RB.out.mono ?_
            rintro e w2 ⟨rfl, rfl⟩
            go_wp2_with fail
            go_ret
            exact ⟨rfl, HB.out⟩
          | false =>
            have hn2 : n = 1 := hn
            clear hn
            subst hn2
            go_enter Tryd.func11, Tryd.ntmps11
            go_wp2_with (rw [hw1])
            refine RC.out.mono ?_
            rintro e w2 ⟨rfl, rfl⟩
            go_wp2_with fail
            refine RA.out.mono ?_
            rintro e w2 ⟨rfl, rfl⟩
            go_wp2_with fail
            refine RB.out.mono ?_
            rintro e w2 ⟨rfl, rfl⟩
            go_wp2_with fail
            go_ret
            exact ⟨rfl, HB.out⟩
end Go.Proofs.YtemkhblogmdleaaDoor.ac
