/-
  GoldSums: for every list of ints the law answers true. Conditions: none.
-/
import Derived.Test.YtkmldcichedejaaBase
import Derived.Test.YtkmldcichedejaaGoldD
namespace Go.Proofs.Ytkmldcichedejaa.goldSums
open Go.ChangeShapes Go.WideShapes Go.ChangeAt Go.RowKit
open gold
open base (Nums ret_bool ret_int)
set_option linter.unusedVariables false

def Good (w : World) (e : Ending) (w' : World) : Prop := e = .returned (.bool true) ∧ Below w.heap.size w w'

theorem sum_bad (A : Option Addr) (cap : Nat) (zs : List Int) (w : World) (hbig : zs.length ≤ 9223372036854775807) (hn : Nums .i64 w A zs) (h : zs.all isRight = false) :
    Calls Try.prog 19 #[.slice A zs.length cap] w fun e w' => e = .returned (.tuple #[.int .i64 0, .int .i64 11]) ∧ w = w' :=
  (sum_any A cap zs w hbig hn).mono fun e w' hh => ⟨(sum_of hh).2.1 h, (sum_of hh).1⟩
theorem sum_over (A : Option Addr) (cap : Nat) (zs : List Int) (w : World) (hbig : zs.length ≤ 9223372036854775807) (hn : Nums .i64 w A zs) (h : zs.all isRight = true) (h2 : 1099511627776 < zs.sum) :
    Calls Try.prog 19 #[.slice A zs.length cap] w fun e w' => e = .returned (.tuple #[.int .i64 0, .int .i64 15]) ∧ w = w' :=
  (sum_any A cap zs w hbig hn).mono fun e w' hh => ⟨(sum_of hh).2.2.1 h h2, (sum_of hh).1⟩
theorem sum_ok (A : Option Addr) (n cap : Nat) (zs : List Int) (s : Int) (w : World) (hl : n = zs.length) (hbig : zs.length ≤ 9223372036854775807) (hn : Nums .i64 w A zs) (h : zs.all isRight = true) (h2 : zs.sum ≤ 1099511627776) (hs : s = zs.sum) :
    Calls Try.prog 19 #[.slice A n cap] w fun e w' => e = .returned (.tuple #[.int .i64 s, .int .i64 0]) ∧ w = w' := by
  subst hl hs
  exact (sum_any A cap zs w hbig hn).mono fun e w' hh => ⟨(sum_of hh).2.2.2 h h2, (sum_of hh).1⟩

set_option maxHeartbeats 1000000 in
theorem walk_long (A : Option Addr) (c : Nat) (zs : List Int) (w : World) (h : 200 < zs.length) (hc : zs.length ≤ c) (hm : c ≤ maxLen) :
    Calls Try.prog 7 #[.slice A zs.length c] w (Good w) := by
  unfold maxLen at hm
  go_enter Try.func7, Try.ntmps7
  go_wp2_with (first | (go_at_call 13; refine (awake_any _).mono ?_; rintro e w2 ⟨rfl, hb2⟩))
  go_ret
  exact ⟨rfl, hb2⟩

set_option maxHeartbeats 1000000 in
theorem walk_bad (A : Option Addr) (c : Nat) (zs : List Int) (w : World) (h : zs.length ≤ 200) (hn : Nums .i64 w A zs) (hall : zs.all isRight = false) :
    Calls Try.prog 7 #[.slice A zs.length c] w (Good w) := by
  have N := Lib.hid hn
  have B := Lib.hid hall
  clear hn hall
  go_enter Try.func7, Try.ntmps7
  go_wp2_with (first | (go_at_call 19; refine (sum_bad _ _ _ _ (by omega) N.out B.out).mono ?_; rintro e w1 ⟨rfl, rfl⟩))
  go_loop [5, 6, 8, 24] (fun t o _ i => ∃ (k : Nat) (tt : Int) (oo : Bool), k ≤ zs.length ∧ i = .int .i64 k ∧ t = .int .i64 tt ∧ o = .bool oo ∧ SumAt zs k tt oo) (fun _ _ _ i => zs.length - (intOf i).toNat)
  case atStart => exact ⟨0, 0, false, Nat.zero_le _, rfl, rfl, rfl, by simp [SumAt]⟩
  case round =>
    obtain ⟨k, tt, oo, hk, rfl, rfl, rfl, hs⟩ := hrel
    obtain ⟨ht0, ht1⟩ := hs.bd
    have H := Lib.hid hs
    clear hs
    by_cases hlt : k < zs.length
    · obtain ⟨b, off, rfl, _, hc⟩ := N.out (by omega)
      have hcell := hc k (by omega)
      clear hc
      generalize hy : zs.getD k 0 = y at hcell
      have Y := Lib.hid hy
      clear hy
      cases hr : isRight y
      · go_wp2_with (first | (go_at_call 10; refine (rright_any _ _).mono ?_; rintro e w' ⟨rfl, rfl⟩) | (go_at_call 13; refine (awake_any _).mono ?_; rintro e w2 ⟨rfl, hb2⟩))
        go_ret
        exact ⟨rfl, hb2⟩
      · have R := Lib.hid hr
        have hy2 := right_yes hr
        cases oo
        · by_cases hov : 1099511627776 - tt < y
          · have O := Lib.hid hov
            go_wp2_with (go_at_call 10; refine (rright_any _ _).mono ?_; rintro e w' ⟨rfl, rfl⟩)
            go_round
            case rel => exact ⟨k + 1, tt, true, by omega, by go_num, rfl, rfl, H.out.stay hlt (by rw [Y.out]; exact R.out) (Or.inr (by rw [Y.out]; exact O.out))⟩
            case measure => simp [intOf] <;> omega
          · have O := Lib.hid hov
            have hd : decide (1099511627776 - tt < y) = false := by simpa using hov
            go_wp2_with (go_at_call 10; refine (rright_any _ _).mono ?_; rintro e w' ⟨rfl, rfl⟩)
            go_round
            case rel => exact ⟨k + 1, tt + y, false, by omega, by go_num, rfl, rfl, by have := H.out.go hlt (by rw [Y.out]; exact R.out) (by rw [Y.out]; have := O.out; omega); rwa [Y.out] at this⟩
            case measure => simp [intOf] <;> omega
        · go_wp2_with (go_at_call 10; refine (rright_any _ _).mono ?_; rintro e w' ⟨rfl, rfl⟩)
          go_round
          case rel => exact ⟨k + 1, tt, true, by omega, by go_num, rfl, rfl, H.out.stay hlt (by rw [Y.out]; exact R.out) (Or.inl rfl)⟩
          case measure => simp [intOf] <;> omega
    · obtain rfl : k = zs.length := by omega
      have h1 := H.out.1
      rw [List.take_length, B.out] at h1
      cases h1

/-- All are amounts: the first loop leaves the sum, or says that it is too much. -/
def Fin (zs : List Int) (t : Int) (o : Bool) : Prop := (o = true → 1099511627776 < zs.sum) ∧ (o = false → t = zs.sum ∧ zs.sum ≤ 1099511627776)
theorem fin_of {zs : List Int} {t : Int} {o : Bool} (H : SumAt zs zs.length t o) : Fin zs t o := by
  obtain ⟨_, _, h2, h3, h4⟩ := H
  rw [List.take_length] at h3 h4
  exact ⟨h4, fun h => ⟨h3 h, by rw [← h3 h]; exact h2⟩⟩

set_option maxHeartbeats 1000000 in
theorem walk_over (A : Option Addr) (c : Nat) (zs : List Int) (w : World) (h : zs.length ≤ 200) (hn : Nums .i64 w A zs) (hall : zs.all isRight = true) (ho : 1099511627776 < zs.sum) :
    Calls Try.prog 7 #[.slice A zs.length c] w (Good w) := by
  have N := Lib.hid hn
  have B := Lib.hid hall
  have V := Lib.hid ho
  clear hn hall ho
  go_enter Try.func7, Try.ntmps7
  go_wp2_with (first | (go_at_call 19; refine (sum_over _ _ _ _ (by omega) N.out B.out V.out).mono ?_; rintro e w1 ⟨rfl, rfl⟩))
  go_loop [5, 6, 8, 24] (fun t o _ i => ∃ (k : Nat) (tt : Int) (oo : Bool), k ≤ zs.length ∧ i = .int .i64 k ∧ t = .int .i64 tt ∧ o = .bool oo ∧ SumAt zs k tt oo) (fun _ _ _ i => zs.length - (intOf i).toNat)
  case atStart => exact ⟨0, 0, false, Nat.zero_le _, rfl, rfl, rfl, by simp [SumAt]⟩
  case round =>
    obtain ⟨k, tt, oo, hk, rfl, rfl, rfl, hs⟩ := hrel
    obtain ⟨ht0, ht1⟩ := hs.bd
    have H := Lib.hid hs
    clear hs
    by_cases hlt : k < zs.length
    · obtain ⟨b, off, rfl, _, hc⟩ := N.out (by omega)
      have hcell := hc k (by omega)
      clear hc
      generalize hy : zs.getD k 0 = y at hcell
      have Y := Lib.hid hy
      clear hy
      have hr : isRight y = true := by
        cases hr : isRight y
        · have := SumAt.bad hlt (by rw [Y.out]; exact hr)
          rw [B.out] at this; cases this
        · rfl
      have R := Lib.hid hr
      have hy2 := right_yes hr
      cases oo
      · by_cases hov : 1099511627776 - tt < y
        · have O := Lib.hid hov
          go_wp2_with (go_at_call 10; refine (rright_any _ _).mono ?_; rintro e w' ⟨rfl, rfl⟩)
          go_round
          case rel => exact ⟨k + 1, tt, true, by omega, by go_num, rfl, rfl, H.out.stay hlt (by rw [Y.out]; exact R.out) (Or.inr (by rw [Y.out]; exact O.out))⟩
          case measure => simp [intOf] <;> omega
        · have O := Lib.hid hov
          have hd : decide (1099511627776 - tt < y) = false := by simpa using hov
          go_wp2_with (go_at_call 10; refine (rright_any _ _).mono ?_; rintro e w' ⟨rfl, rfl⟩)
          go_round
          case rel => exact ⟨k + 1, tt + y, false, by omega, by go_num, rfl, rfl, by have := H.out.go hlt (by rw [Y.out]; exact R.out) (by rw [Y.out]; have := O.out; omega); rwa [Y.out] at this⟩
          case measure => simp [intOf] <;> omega
      · go_wp2_with (go_at_call 10; refine (rright_any _ _).mono ?_; rintro e w' ⟨rfl, rfl⟩)
        go_round
        case rel => exact ⟨k + 1, tt, true, by omega, by go_num, rfl, rfl, H.out.stay hlt (by rw [Y.out]; exact R.out) (Or.inl rfl)⟩
        case measure => simp [intOf] <;> omega
    · obtain rfl : k = zs.length := by omega
      have hf := fin_of H.out
      obtain rfl : oo = true := by
        cases oo
        · have := (hf.2 rfl).2; have := V.out; omega
        · rfl
      go_wp2_with (first | (go_at_call 13; refine (awake_any _).mono ?_; rintro e w2 ⟨rfl, hb2⟩))
      go_ret
      exact ⟨rfl, hb2⟩

theorem rev_next {zs : List Int} {i : Nat} (h : i < zs.length) : (zs.drop i).reverse = (zs.drop (i + 1)).reverse ++ [zs.getD i 0] := by
  rw [List.drop_eq_getElem_cons h]; simp [List.getD, List.getElem?_eq_getElem h]
theorem sum_rev (zs : List Int) : zs.reverse.sum = zs.sum := List.sum_reverse zs
theorem all_rev (zs : List Int) : zs.reverse.all isRight = zs.all isRight := List.all_reverse

/-- what the second loop has gathered when i more are to come -/
def Turned (zs : List Int) (i : Nat) (v : Value) (w wr : World) : Prop :=
  wr.ownsRow w.heap.size 3 1 v (zs.length - i) ((zs.drop i).reverse.map (Value.int .i64)) ∧ Below w.heap.size w wr

theorem Turned.next {zs : List Int} {j : Nat} {v v' : Value} {w wr w1 : World} {c : Array Value} (h : Turned zs (j + 1) v w wr) (hj : j + 1 ≤ zs.length)
    (ho : w1.ownsRow w.heap.size 3 1 v' (zs.length - (j + 1) + 1) ((zs.drop (j + 1)).reverse.map (Value.int .i64) ++ [.int .i64 (zs.getD j 0)]))
    (hg : (wr.alloc (.cells c 3)).grownBy w1 v.ownBlock) : Turned zs j v' w w1 := by
  have hn : zs.length - (j + 1) + 1 = zs.length - j := by omega
  refine ⟨?_, ?_⟩
  · rw [rev_next (by omega : j < zs.length), List.map_append]
    rwa [hn] at ho
  · exact (h.2.alloc h.2.size _).grown hg (by have := h.2.size; simp; omega) (fun k hk => (h.1.lt k hk).1)

theorem nums_of_own {w : World} {base : Nat} {v : Value} {xs : List Int} {n : Nat} (h : w.ownsRow base 3 1 v n (xs.map (Value.int .i64))) : ∃ A c, v = .slice A xs.length c ∧ n = xs.length ∧ Nums .i64 w A xs := by
  obtain ⟨h1, h2⟩ := h
  have hn : n = xs.length := by simpa using h1.symm
  subst hn
  rcases h2 with ⟨rfl, h0⟩ | ⟨g, cap, cur, rfl, hb, hg, hnc, hcm, hcs, htake⟩
  · have : xs = [] := List.eq_nil_of_length_eq_zero (by omega)
    subst this
    exact ⟨none, 0, rfl, rfl, fun h => absurd h (by simp)⟩
  · refine ⟨_, _, rfl, rfl, fun _ => ⟨g, 0, rfl, (Array.getElem?_eq_some_iff.1 hg).1, fun j hj => ?_⟩⟩
    rw [Nat.zero_add, cell_of_row w g j cur _ (0, 0) hg]
    have hj2 : (cur.toList.take (xs.length * 1))[j]? = (xs.map (Value.int .i64))[j]? := by rw [htake]
    rw [List.getElem?_take, if_pos (by omega)] at hj2
    simpa [List.getElem?_eq_getElem hj, List.getD] using hj2

set_option maxHeartbeats 2000000 in
theorem walk_ok (A : Option Addr) (c : Nat) (zs : List Int) (w : World) (h : zs.length ≤ 200) (hn : Nums .i64 w A zs) (hall : zs.all isRight = true) (ho : zs.sum ≤ 1099511627776) :
    Calls Try.prog 7 #[.slice A zs.length c] w (Good w) := by
  have N := Lib.hid hn
  have B := Lib.hid hall
  have V := Lib.hid ho
  clear hn hall ho
  obtain ⟨i0, hi, hz0, hz1, hz2⟩ := info_parts gold.info_int
  go_enter Try.func7, Try.ntmps7
  go_wp2_with (first | (go_at_call 19; refine (sum_ok _ _ _ _ _ _ rfl (by omega) N.out B.out V.out rfl).mono ?_; rintro e w1 ⟨rfl, rfl⟩))
  obtain ⟨S, hS⟩ : ∃ S, S = zs.sum := ⟨_, rfl⟩
  rw [← hS]
  have SS := Lib.hid hS
  clear hS
  go_loop [5, 6, 8, 24] (fun t o _ i => ∃ (k : Nat) (tt : Int) (oo : Bool), k ≤ zs.length ∧ i = .int .i64 k ∧ t = .int .i64 tt ∧ o = .bool oo ∧ SumAt zs k tt oo) (fun _ _ _ i => zs.length - (intOf i).toNat)
  case atStart => exact ⟨0, 0, false, Nat.zero_le _, rfl, rfl, rfl, by simp [SumAt]⟩
  case round =>
    obtain ⟨k, tt, oo, hk, rfl, rfl, rfl, hs⟩ := hrel
    obtain ⟨ht0, ht1⟩ := hs.bd
    have H := Lib.hid hs
    clear hs
    by_cases hlt : k < zs.length
    · obtain ⟨b, off, rfl, _, hc⟩ := N.out (by omega)
      have hcell := hc k (by omega)
      clear hc
      generalize hy : zs.getD k 0 = y at hcell
      have Y := Lib.hid hy
      clear hy
      have hr : isRight y = true := by
        cases hr : isRight y
        · have := SumAt.bad hlt (by rw [Y.out]; exact hr)
          rw [B.out] at this; cases this
        · rfl
      have R := Lib.hid hr
      have hy2 := right_yes hr
      cases oo
      · by_cases hov : 1099511627776 - tt < y
        · have O := Lib.hid hov
          go_wp2_with (go_at_call 10; refine (rright_any _ _).mono ?_; rintro e w' ⟨rfl, rfl⟩)
          go_round
          case rel => exact ⟨k + 1, tt, true, by omega, by go_num, rfl, rfl, H.out.stay hlt (by rw [Y.out]; exact R.out) (Or.inr (by rw [Y.out]; exact O.out))⟩
          case measure => simp [intOf] <;> omega
        · have O := Lib.hid hov
          have hd : decide (1099511627776 - tt < y) = false := by simpa using hov
          go_wp2_with (go_at_call 10; refine (rright_any _ _).mono ?_; rintro e w' ⟨rfl, rfl⟩)
          go_round
          case rel => exact ⟨k + 1, tt + y, false, by omega, by go_num, rfl, rfl, by have := H.out.go hlt (by rw [Y.out]; exact R.out) (by rw [Y.out]; have := O.out; omega); rwa [Y.out] at this⟩
          case measure => simp [intOf] <;> omega
      · go_wp2_with (go_at_call 10; refine (rright_any _ _).mono ?_; rintro e w' ⟨rfl, rfl⟩)
        go_round
        case rel => exact ⟨k + 1, tt, true, by omega, by go_num, rfl, rfl, H.out.stay hlt (by rw [Y.out]; exact R.out) (Or.inl rfl)⟩
        case measure => simp [intOf] <;> omega
    · obtain rfl : k = zs.length := by omega
      have hf := fin_of H.out
      obtain rfl : oo = false := by
        cases oo
        · rfl
        · have := hf.1 rfl; have := V.out; omega
      obtain rfl : S = tt := by rw [SS.out, (hf.2 rfl).1]
      clear hf
      clear H
      go_wp2
      go_loopw [9, 10] (fun v x wr => ∃ i : Nat, i ≤ zs.length ∧ x = .int .i64 ((i : Int) - 1) ∧ Turned zs i v w wr) (fun _ x _ => (intOf x + 1).toNat)
      case atStart => exact ⟨zs.length, Nat.le_refl _, rfl, by simpa using World.ownsRow_nil _ _ _ _, Below.refl _ _⟩
      case round =>
        obtain ⟨i, hil, rfl, hT⟩ := hrel
        have T := Lib.hid hT
        clear hT
        by_cases hi0 : i = 0
        · subst hi0
          obtain ⟨A2, c2, rfl, hl2, hN2⟩ := nums_of_own T.out.1
          have N2 := Lib.hid hN2
          clear hN2
          have hb := T.out.2
          go_wp2_with (first | (go_at_call 19; refine (sum_ok _ _ _ zs.reverse S _ (by simp) (by simp; omega) (by simpa using N2.out) (by rw [all_rev]; exact B.out) (by rw [sum_rev]; exact V.out) (by rw [sum_rev]; exact SS.out)).mono ?_; rintro e w1 ⟨rfl, rfl⟩) | (go_at_call 13; refine (awake_any _).mono ?_; rintro e w2 ⟨rfl, hb2⟩))
          go_ret
          exact ⟨rfl, hb.trans (hb2.mono hb.size)⟩
        · obtain ⟨j, rfl⟩ : ∃ j, i = j + 1 := ⟨i - 1, by omega⟩
          obtain ⟨b, off, rfl, hblt, hc⟩ := N.out (by omega)
          have hcell := (T.out.2.cell (p := ⟨b, off + j, none⟩) hblt).trans (hc j (by omega))
          clear hc
          have hsz := T.out.2.size
          have hl2 : zs.length - (j + 1) + 1 ≤ 200 := by omega
          go_wp2_with (at_builtin; refine wpList_append_own _ rfl _ _ 29 rfl w.heap.size 3 i0 (.int .i64 0) 1 8 Try.underlying29 hi hz0 hz1 hz2 rfl (by decide) _ _ _ rfl (T.out.1.alloc _) ⟨_, 0, none⟩ 1 1 [.int .i64 (zs.getD j 0)] rfl rfl ?c1 ?c2 ?c3 ?c4 ?c5 ?_)
          case c1 =>
            intro q u hq
            match q, hq with
            | 0, hq => simp at hq; subst hq; simp [Addr.add]
          case c2 => intro u hu; simp at hu; subst hu; rfl
          case c3 => unfold maxLen; omega
          case c4 => omega
          case c5 => simp; omega
          intro v' w1 hown' hgrow _
          have O' := Lib.hid hown'
          have G' := Lib.hid hgrow
          clear hown' hgrow
          go_wp2
          go_roundw
          case rel => exact ⟨j, by omega, by go_num, T.out.next hil (by simpa using O'.out) G'.out⟩
          case measure => simp [intOf] <;> omega

theorem walk (w : World) (A : Option Addr) (c : Nat) (zs : List Int) (hn : Nums .i64 w A zs) (hc : zs.length ≤ c) (hm : c ≤ maxLen) (hwf : ∀ n ∈ zs, (Lit.int .i64 n).wf = true) :
    Calls Try.prog 7 #[.slice A zs.length c] w fun e w' => e = .returned (.bool true) ∧ Below w.heap.size w w' := by
  by_cases h : zs.length ≤ 200
  · cases hall : zs.all isRight
    · exact walk_bad A c zs w h hn hall
    · by_cases ho : zs.sum ≤ 1099511627776
      · exact walk_ok A c zs w h hn hall ho
      · exact walk_over A c zs w h hn hall (by omega)
  · exact walk_long A c zs w (by omega) hc hm

set_option maxRecDepth 100000 in
theorem lifted (os : Os) (started : os.Started) (H : Type) (enc : TypeId × Value → H) :
    ReturnsInHanded {} Try.checked os 7 .any (Rows.goldSumsSpec.pre6 enc Try.prog Try.f7 Rows.goldSumsRow.domain false) (Rows.goldSumsSpec.post enc Try.prog Try.f7 false true false false) := by
  refine returnsInHanded_of_change (C := Try.checked) base.own started (by kernel_rfl) Try.func7
    (ChangeSpec.witness6 (enc := enc) (C := Try.checked) false ⟨#[], #[.slice none 0 0], []⟩ 8 (by kernel_rfl) (by kernel_rfl) (by kernel_rfl) (by kernel_rfl)) ?_
  intro W bs args ds gs before hval0 hW _ _
  have hval : ∀ (j : Nat) t v, Try.f7.params[j]? = some t → args[j]? = some v → Value.okWide Try.prog W .any bs t v := hval0
  have hW' : DataW.Whole enc Try.prog Try.f7.params.toList Rows.goldSumsSpec.vars false W args.toList ds gs before := hW
  obtain ⟨p, q, hA0, hV, rfl, _, _⟩ := hW
  have hA : DataW.TrodAll enc Try.prog W 0 (fun _ => true) true Try.f7.params.toList args.toList ds p := hA0
  rw [Try.params7] at hA hval
  obtain ⟨v0, vs0, d0, ds0, p0, q0, hargs, rfl, rfl, h0, r0⟩ := trodAll_cons hA
  obtain ⟨rfl, rfl, rfl⟩ := trodAll_nil r0
  obtain rfl : args = #[v0] := by cases args; simp_all
  obtain ⟨rfl, rfl⟩ := trodVars_none hV
  obtain ⟨A0, c0, l0, rfl, b0, m0, n0, w0⟩ := base.open_nums Try.underlying29 Try.underlying3 (by kernel_rfl) (hval 0 29 v0 rfl rfl) h0
  clear hA0 hval0
  refine (walk W A0 c0 l0 n0 b0 m0 w0).mono fun e W' ⟨he, hb⟩ => ?_
  subst he
  exact ⟨_, rfl, base.law_post base.laid (by kernel_rfl) rfl rfl Try.underlying4 hW' rfl rfl rfl hb⟩

theorem over : Rows.goldSumsRow.holds Try.pinned (OpenSpec.ofChange Rows.goldSumsSpec) :=
  OpenClaim.holds_of_wide 7 Try.f7 rfl rfl rfl rfl rfl rfl rfl ⟨rfl, rfl, rfl, rfl, rfl⟩ rfl rfl rfl rfl rfl (by kernel_rfl) Try.func7 (by kernel_rfl)
    (of_decide_eq_true (by kernel_rfl)) (by unfold Func.isWrapper; first | (rw [if_pos (by decide +kernel)]; kernel_rfl) | (rw [if_neg (by decide +kernel)]; exact ⟨rfl, rfl⟩))
    (fun os started H enc _ => lifted os started H enc)

theorem proved : Rows.GoldSumsSaid := over
#print axioms proved
end Go.Proofs.Ytkmldcichedejaa.goldSums
