/-
  Contracts of the reference of slotted: Put, Cut, Bytes; of the law: total.
-/
import Derived.Test.YtikddbaenokdpaaSlI
namespace Go.Proofs.Ytikddbaenokdpaa.pg
open Go.RowKit Go.Shelf
open base (ret_bool ret_int made up Blk Only below_drewN)
open bytes (Small small_app small_take small_drop small_nil By By_len By_append)
open rk
set_option linter.unusedVariables false
set_option linter.unusedSimpArgs false

theorem str_app (a b : List Nat) : bytes.str (a ++ b) = bytes.str a ++ bytes.str b := by
  unfold bytes.str
  apply ByteArray.ext
  simp
theorem str_size (l : List Nat) : (bytes.str l).size = l.length := by
  unfold bytes.str
  simp [ByteArray.size]
theorem str_nil : bytes.str [] = ⟨#[]⟩ := rfl
/-- a list of texts -/
def EL : Enc (List Nat) := ⟨fun l => [.string (bytes.str l)], 1, by decide, fun _ => rfl, by
  intro s v hv
  simp at hv
  rw [hv]
  rfl⟩
theorem T9 : Ty EL Try.prog 27 9 (.string ByteArray.empty) 16 := ⟨Try.underlying27, by kernel_rfl, rfl, by decide⟩
theorem layl {w : World} {A : Option Addr} {L : List (List Nat)} (h : Lay EL w A L) {k : Nat} (hk : k < L.length) : ∃ b off, A = some ⟨b, off, none⟩ ∧ b < w.heap.size ∧ w.cell? ⟨b, off + k, none⟩ = some (.string (bytes.str L[k])) := by
  obtain ⟨b, off, e, hb, hc⟩ := h (by omega)
  refine ⟨b, off, e, hb, ?_⟩
  have := hc k hk 0 (by decide)
  rw [show off + k * EL.k + 0 = off + k from by show off + k * 1 + 0 = off + k; omega] at this
  rw [this]
  rfl
/-- what is told of a text -/
structure Tx (s : ByteArray) (l : List Nat) : Prop where
  eq : s = bytes.str l
theorem Tx.size {s : ByteArray} {l : List Nat} (h : Tx s l) : s.size = l.length := by rw [h.eq, str_size]
theorem toList_empty (s : ByteArray) : s.toList.isEmpty = decide (s.size = 0) := by
  rw [ByteArray.toList_eq]
  cases h : s.data.toList with
  | nil =>
    have : s.size = 0 := by
      have := congrArg List.length h
      simpa using this
    simp [this]
  | cons a b =>
    have : s.size ≠ 0 := by
      have := congrArg List.length h
      simp at this
      omega
    simp [this]
theorem Tx.empty {s : ByteArray} {l : List Nat} (h : Tx s l) : s.toList.isEmpty = decide (l.length = 0) := by rw [toList_empty, h.size]
def putAt (size : Nat) (L : List (List Nat)) (v len : Nat) : Int := if 62 < v ∨ size < (if v < L.length then tot L else tot L + 2) + len then -1 else v
theorem tot_pos (L : List (List Nat)) : 1 ≤ tot L := by unfold tot; omega
theorem tot_take_le (L : List (List Nat)) (k : Nat) : tot (L.take k) ≤ tot L := by
  unfold tot
  have e := List.take_append_drop k L
  have : (L.map fun l => 2 + l.length).sum = ((L.take k).map fun l => 2 + l.length).sum + ((L.drop k).map fun l => 2 + l.length).sum := by
    conv => lhs; rw [← e, List.map_append, sum_app]
  omega
set_option maxRecDepth 100000 in
set_option maxHeartbeats 2000000 in
theorem total_any (A : Option Addr) (c : Nat) (L : List (List Nat)) (w : World) (hA : Lay EL w A L) (hl : L.length ≤ 100) (ht : tot L ≤ 100000) :
    Calls Try.prog 25 #[.slice A L.length c] w fun e w' => e = .returned (.int .i64 (tot L : Nat)) ∧ w' = w := by
  have HA := Lib.hid hA
  have TT := Lib.hid (fun k => Nat.le_trans (tot_take_le L k) ht)
  have TS := Lib.hid (fun k (h : k < L.length) => tot_take L h)
  clear hA
  go_enter Try.func25, Try.ntmps25
  go_wp2_with fail
  go_loop [3, 8] (fun n j => ∃ k : Nat, j = .int .i64 k ∧ n = .int .i64 (tot (L.take k) : Nat) ∧ k ≤ L.length) (fun _ j => L.length - (intOf j).toNat)
  case atStart => exact ⟨0, rfl, rfl, by omega⟩
  case round =>
    obtain ⟨k, rfl, rfl, hk⟩ := hrel
    by_cases hkl : k < L.length
    · obtain ⟨b, off, rfl, -, e1⟩ := layl HA.out hkl
      have SS := Lib.hid (TS.out k hkl)
      have t1 := TT.out (k + 1)
      have htt := TT.out k
      have hs : (bytes.str L[k]).size = (L[k]).length := str_size _
      have hm : (L[k]).length ≤ 100000 := by have := SS.out; omega
      have H9 := Lib.hid (show ((tot (L.take (k + 1)) : Nat) : Int) = (tot (L.take k) : Int) + (2 + ((L[k]).length : Int)) by have := SS.out; omega)
      generalize bytes.str L[k] = s at *
      generalize (L[k]).length = m at *
      clear SS t1
      go_wp2_with fail
      refine ⟨⟨k + 1, by go_num, by rw [H9.out], by omega⟩, by simp [intOf]; omega⟩
    · obtain rfl : k = L.length := by omega
      rw [List.take_length]
      go_wp2_with fail
      go_ret
      exact ⟨rfl, rfl⟩
/-- where the walk stands: the least one ahead of it that has nothing -/
def atK (v k : Nat) : Int := if v < k then v else -1
set_option maxRecDepth 100000 in
set_option maxHeartbeats 4000000 in
theorem rput_any (A : Option Addr) (c : Nat) (L : List (List Nat)) (size : Int) (len : Nat) (w : World) {sz : Nat} (hs : size = sz) (hsz : sz ≤ 100000) (hA : Lay EL w A L) (hl : L.length ≤ 100) (ht : tot L ≤ 100000) (hlen : len ≤ 100000) {v : Nat} (hv : VacIs L v) :
    Calls Try.prog 16 #[.slice A L.length c, .int .i64 sz, .int .i64 len] w fun e w' => e = .returned (.int .i64 (putAt sz L v len)) ∧ w' = w := by
  have HA := Lib.hid hA
  have HV := Lib.hid hv
  have TT := Lib.hid (fun k => Nat.le_trans (tot_take_le L k) ht)
  have TS := Lib.hid (fun k (h : k < L.length) => tot_take L h)
  have PA := Lib.hid (show putAt sz L v len = if 62 < v ∨ sz < (if v < L.length then tot L else tot L + 2) + len then (-1 : Int) else (v : Int) from rfl)
  have VL := hv.le
  generalize putAt sz L v len = r at *
  clear hA hv hs
  go_enter Try.func16, Try.ntmps16
  go_wp2_with fail
  go_loop [7, 8, 9] (fun n a j => ∃ k : Nat, j = .int .i64 k ∧ n = .int .i64 (tot (L.take k) : Nat) ∧ a = .int .i64 (atK v k) ∧ k ≤ L.length) (fun _ _ j => L.length - (intOf j).toNat)
  case atStart => exact ⟨0, rfl, rfl, by unfold atK; rw [if_neg (by omega)], by omega⟩
  case round =>
    obtain ⟨k, rfl, rfl, rfl, hk⟩ := hrel
    by_cases hkl : k < L.length
    · obtain ⟨b, off, rfl, -, e1⟩ := layl HA.out hkl
      have SS := Lib.hid (TS.out k hkl)
      have t1 := TT.out (k + 1)
      have hsz2 : (bytes.str L[k]).size = (L[k]).length := str_size _
      have hemp : (bytes.str L[k]).toList.isEmpty = decide ((L[k]).length = 0) := Tx.empty ⟨rfl⟩
      have VE := Lib.hid (show ((L[k]).length = 0 → ¬ v < k → v = k) ∧ (¬ (L[k]).length = 0 → v ≠ k) from ⟨fun h0 hn => by
          rcases Nat.lt_or_ge k v with q | q
          · exact absurd (List.eq_nil_of_length_eq_zero h0) (HV.out.full k hkl q)
          · omega, fun h0 e => by
          subst e
          exact h0 (by rw [HV.out.none hkl]; rfl)⟩)
      generalize bytes.str L[k] = s at *
      generalize (L[k]).length = m at *
      have htt := TT.out k
      have hm : m ≤ 100000 := by have := SS.out; omega
      have HT := Lib.hid (show ((tot (L.take (k + 1)) : Nat) : Int) = (tot (L.take k) : Int) + 2 + (m : Int) by have := SS.out; omega)
      clear SS t1
      by_cases q : v < k
      · have a1 : atK v k = (v : Int) := by unfold atK; rw [if_pos q]
        have A2 := Lib.hid (show atK v (k + 1) = (v : Int) by unfold atK; rw [if_pos (by omega)])
        have d1 : decide ((v : Int) < 0) = false := decide_eq_false (by omega)
        rw [a1]
        clear a1 hemp
        go_wp2_with fail
        refine ⟨⟨k + 1, by go_num, by rw [HT.out], by rw [A2.out], by omega⟩, by simp [intOf]; omega⟩
      · have a1 : atK v k = -1 := by unfold atK; rw [if_neg q]
        rw [a1]
        by_cases h0 : m = 0
        · obtain rfl := VE.out.1 h0 q
          have A2 := Lib.hid (show atK v (v + 1) = (v : Int) by unfold atK; rw [if_pos (by omega)])
          have hemp2 : s.toList.isEmpty = true := by rw [hemp]; exact decide_eq_true h0
          clear a1 hemp h0
          go_wp2_with fail
          refine ⟨⟨v + 1, by go_num, by rw [HT.out], by rw [A2.out], by omega⟩, by simp [intOf]; omega⟩
        · have A2 := Lib.hid (show atK v (k + 1) = -1 by unfold atK; rw [if_neg (by have := VE.out.2 h0; omega)])
          have hemp2 : s.toList.isEmpty = false := by rw [hemp]; exact decide_eq_false h0
          clear a1 hemp h0
          go_wp2_with fail
          refine ⟨⟨k + 1, by go_num, by rw [HT.out], by rw [A2.out], by omega⟩, by simp [intOf]; omega⟩
    · obtain rfl : k = L.length := by omega
      rw [List.take_length]
      have P0 := PA.out
      have ht2 := ht
      generalize tot L = t at *
      by_cases q : v < L.length
      · have a1 : atK v L.length = (v : Int) := by unfold atK; rw [if_pos q]
        have d1 : decide ((v : Int) < 0) = false := decide_eq_false (by omega)
        rw [a1]
        rw [if_pos q] at P0
        have PP := Lib.hid P0
        clear P0 a1
        by_cases q2 : 62 < v
        · have d2 : decide ((v : Int) > 62) = true := decide_eq_true (by omega)
          have RR := Lib.hid (show r = -1 by rw [PP.out, if_pos (.inl q2)])
          go_wp2_with fail
          go_ret
          exact ⟨by rw [RR.out]; rfl, rfl⟩
        · have d2 : decide ((v : Int) > 62) = false := decide_eq_false (by omega)
          by_cases q3 : sz < t + len
          · have d3 : decide ((t : Int) + (len : Int) > (sz : Int)) = true := decide_eq_true (by omega)
            have RR := Lib.hid (show r = -1 by rw [PP.out, if_pos (.inr q3)])
            go_wp2_with fail
            go_ret
            exact ⟨by rw [RR.out]; rfl, rfl⟩
          · have d3 : decide ((t : Int) + (len : Int) > (sz : Int)) = false := decide_eq_false (by omega)
            have RR := Lib.hid (show r = v by rw [PP.out, if_neg (by omega)])
            go_wp2_with fail
            go_ret
            exact ⟨by rw [RR.out]; rfl, rfl⟩
      · have a1 : atK v L.length = -1 := by unfold atK; rw [if_neg q]
        obtain rfl : v = L.length := by omega
        rw [a1]
        rw [if_neg q] at P0
        have PP := Lib.hid P0
        clear P0 a1
        by_cases q2 : 62 < L.length
        · have d2 : decide ((L.length : Int) > 62) = true := decide_eq_true (by omega)
          have RR := Lib.hid (show r = -1 by rw [PP.out, if_pos (.inl q2)])
          go_wp2_with fail
          go_ret
          exact ⟨by rw [RR.out]; rfl, rfl⟩
        · have d2 : decide ((L.length : Int) > 62) = false := decide_eq_false (by omega)
          by_cases q3 : sz < t + 2 + len
          · have d3 : decide ((t : Int) + 2 + (len : Int) > (sz : Int)) = true := decide_eq_true (by omega)
            have RR := Lib.hid (show r = -1 by rw [PP.out, if_pos (.inr q3)])
            go_wp2_with fail
            go_ret
            exact ⟨by rw [RR.out]; rfl, rfl⟩
          · have d3 : decide ((t : Int) + 2 + (len : Int) > (sz : Int)) = false := decide_eq_false (by omega)
            have RR := Lib.hid (show r = L.length by rw [PP.out, if_neg (by omega)])
            go_wp2_with fail
            go_ret
            exact ⟨by rw [RR.out]; rfl, rfl⟩
theorem Own.nilL (w : World) (b : Nat) : rk.Own EL w b 9 (.slice none 0 0) ([] : List (List Nat)) := rk.Own.nil _ _ _
def NewL (L : List (List Nat)) (w : World) (e : Ending) (w' : World) : Prop := ∃ v, e = .returned v ∧ rk.Own EL w' w.heap.size 9 v L ∧ Below w.heap.size w w'
set_option maxRecDepth 100000 in
set_option maxHeartbeats 4000000 in
theorem cut_any (A : Option Addr) (c : Nat) (M : List (List Nat)) (w : World) (hA : Lay EL w A M) (hl : M.length ≤ 1000) {n0 : Nat} (hn : TrimIs M n0) :
    Calls Try.prog 26 #[.slice A M.length c] w (NewL (M.take n0) w) := by
  have HA := Lib.hid hA
  have HN := Lib.hid hn
  clear hA hn
  go_enter Try.func26, Try.ntmps26
  go_wp2_with fail
  go_loop [3] (fun j => ∃ n : Nat, j = .int .i64 n ∧ n ≤ M.length ∧ ∀ j (h : j < M.length), n ≤ j → M[j] = []) (fun j => (intOf j).toNat)
  case atStart => exact ⟨M.length, rfl, by omega, fun j h hj => absurd h (by omega)⟩
  case round =>
    obtain ⟨n, rfl, hnl, hrest⟩ := hrel
    have RS := Lib.hid hrest
    clear hrest
    have G2 := Lib.hid (fun n' (h : TrimIs M n') => h.unique HN.out)
    have LD := Lib.hid (fun k (h : k < M.length) => layl HA.out h)
    have cutAt : ∀ (c0 : Bool), True := fun _ => trivial
    clear cutAt
    rcases Nat.eq_zero_or_pos n with q0 | q0
    · subst q0
      have e0 := G2.out 0 ⟨by omega, RS.out, fun h => absurd h (by omega)⟩
      subst e0
      go_wp2_with fail
      go_loopw [4, 5] (fun o j wr => ∃ (k : Nat) (W : World), W = wr ∧ j = .int .i64 k ∧ k ≤ 0 ∧ rk.Own EL wr w.heap.size 9 o (M.take k) ∧ Below w.heap.size w wr) (fun _ j _ => 0 - (intOf j).toNat)
      case atStart => exact ⟨0, _, rfl, rfl, Nat.le_refl _, rk.Own.nil _ _ _, Below.refl _ _⟩
      case round =>
      obtain ⟨k, w4, rfl, rfl, hk, hown, hb⟩ := hrel
      obtain rfl : k = 0 := by omega
      have O4 := Lib.hid (And.intro hown hb)
      obtain ⟨Av, cv, rfl, -⟩ := hown.open_
      clear hown hb
      go_wp2_with fail
      go_ret
      exact ⟨_, rfl, O4.out.1, O4.out.2⟩
    · obtain ⟨m1, rfl⟩ : ∃ m1, n = m1 + 1 := ⟨n - 1, by omega⟩
      obtain ⟨b, off, rfl, -, e1⟩ := LD.out m1 (by omega)
      have hemp : (bytes.str (M[m1]'(by omega))).toList.isEmpty = decide ((M[m1]'(by omega)).length = 0) := Tx.empty ⟨rfl⟩
      obtain ⟨s, hs⟩ : ∃ s, s = bytes.str (M[m1]'(by omega)) := ⟨_, rfl⟩
      rw [← hs] at e1 hemp
      clear hs
      by_cases q : (M[m1]'(by omega)).length = 0
      · rw [decide_eq_true q] at hemp
        have E := Lib.hid (List.eq_nil_of_length_eq_zero q)
        clear q
        go_wp2_with fail
        refine ⟨⟨m1, by go_num, by omega, fun j h hj => ?_⟩, by simp [intOf]⟩
        by_cases e : j = m1
        · subst e; exact E.out
        · exact RS.out j h (by omega)
      · rw [decide_eq_false q] at hemp
        have e0 := G2.out (m1 + 1) ⟨by omega, RS.out, fun h => fun e => q (by have e' : M[m1]'(by omega) = [] := e; rw [e']; rfl)⟩
        subst e0
        clear q
        go_wp2_with fail
        clear e1 hemp
        go_loopw [4, 5] (fun o j wr => ∃ (k : Nat) (W : World), W = wr ∧ j = .int .i64 k ∧ k ≤ m1 + 1 ∧ rk.Own EL wr w.heap.size 9 o (M.take k) ∧ Below w.heap.size w wr) (fun _ j _ => m1 + 1 - (intOf j).toNat)
        case atStart => exact ⟨0, _, rfl, rfl, by omega, rk.Own.nil _ _ _, Below.refl _ _⟩
        case round =>
        obtain ⟨k, w4, rfl, rfl, hk, hown, hb⟩ := hrel
        have O4 := Lib.hid hown
        have B4 := Lib.hid hb
        by_cases hkl : k < m1 + 1
        · obtain ⟨b', off', hA', -, e1⟩ := layl (HA.out.below hb) (k := k) (by omega)
          injection hA' with hA'
          injection hA' with hA1 hA2
          subst hA1 hA2
          have m5 := made w4 (.cells #[.string (bytes.str (M[k]'(by omega)))] 9)
          have BB := Lib.hid (Blk.new w4 9 #[.string (bytes.str (M[k]'(by omega)))])
          have LN := Lib.hid (Lay.lit (E := EL) (w4.alloc (.cells #[.string (bytes.str (M[k]'(by omega)))] 9)) (M[k]'(by omega)) 9 w4.heap.size BB.out)
          have O5 := Lib.hid (O4.out.below m5)
          have B5 := Lib.hid (B4.out.trans (m5.mono B4.out.size))
          have TK := Lib.hid (List.take_succ_eq_append_getElem (show k < M.length by omega))
          have KL := Lib.hid (show (M.take k).length + 1 ≤ 100000000 by simp; omega)
          clear hown hb m5
          obtain ⟨l, hl'⟩ : ∃ l, l = M[k]'(by omega) := ⟨_, rfl⟩
          rw [← hl'] at e1 BB LN O5 B5 TK
          clear hl'
          obtain ⟨T, hT⟩ : ∃ T, T = M.take k := ⟨_, rfl⟩
          rw [← hT] at O5 TK KL O4
          clear hT
          go_wp2_with ((with_reducible show wpList _ _ _ (⟨some 31, _, _, _, _, _⟩ :: _) _ _); go_must (refine wp_app T9 (c := 1) (n := 1) rfl _ _ rfl rfl rfl rfl rfl O5.out LN.out (by have := KL.out; simp; omega) B5.out.size ?_))
          intro v6 w6 own6 gr6
          have B6 := Lib.hid (B5.out.trans (gr6.below O5.out B5.out.size))
          have O6 := Lib.hid own6
          obtain ⟨A6, c6, rfl, -⟩ := own6.open_
          clear own6 gr6 e1 LN BB O5 B5
          go_wp2_with fail
          refine ⟨⟨k + 1, _, rfl, by go_num, by omega, by rw [TK.out]; exact O6.out, B6.out⟩, by simp [intOf]; omega⟩
        · obtain rfl : k = m1 + 1 := by omega
          obtain ⟨Av, cv, rfl, -⟩ := hown.open_
          clear hown hb
          go_wp2_with fail
          go_ret
          exact ⟨_, rfl, O4.out, B4.out⟩
end Go.Proofs.Ytikddbaenokdpaa.pg
