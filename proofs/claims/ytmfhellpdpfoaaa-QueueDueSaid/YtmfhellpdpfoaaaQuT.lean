/-
  The queue: what the functions that are ranged over hand out.
-/
import Derived.Test.YtmfhellpdpfoaaaQuL
import Derived.Test.YtmfhellpdpfoaaaQuS
import Derived.Test.YtmfhellpdpfoaaaStillIn
namespace Go.Proofs.Ytmfhellpdpfoaaa.qu
open Go.RowKit Go.Shelf
open base (ret_bool ret_int made up Blk Only)
open rk mk rgm
set_option linter.unusedVariables false
set_option linter.unusedSimpArgs false
attribute [local go_sem] Oper.semAt_some
variable {w w' : World} {q m : Nat} {v : Value} {L M : List It} {ad : Int} {F : Nat → Prop}

theorem own_low {b c k : Nat} {t : TypeId} {A : Option Addr} (h : rk.Own EQ w b t (.slice A k c) L) : ∀ g off, A = some ⟨g, off, none⟩ → b ≤ g := by
  intro g off e
  subst e
  rcases h.2 with ⟨h1, _⟩ | ⟨g', cap, cur, h1, hb, _⟩
  · cases h1
  · injection h1 with h1
    injection h1 with h1
    injection h1 with h1 h2
    rw [h1]; exact hb
set_option maxHeartbeats 1000000 in
theorem sorted_low {Bn c : Nat} {A : Option Addr} (hs : Blk w Bn 53 #[.slice A L.length c]) (hL : Lay EQ w A L) (hM : M.Pairwise lt) (hp : L.Perm M) (hl : L.length ≤ 100000) :
    Calls Try.prog 32 #[.func (.func 40) #[] #[.pointer (some ⟨Bn, 0, none⟩)], .func (.func 34) #[] #[]] w fun e w' => ∃ A' c', e = .returned (.slice A' M.length c') ∧ Lay EQ w' A' M ∧ (∀ g off, A' = some ⟨g, off, none⟩ → w.heap.size ≤ g) ∧ Below w.heap.size w w' := by
  have CO := Lib.hid (collect_any hs hL hl)
  have HM := Lib.hid hM
  have HP := Lib.hid hp
  clear hs hL hM hp
  go_enter Try.func32, Try.ntmps32
  go_wp2_with fail
  refine CO.out.mono ?_
  rintro e w' ⟨v, rfl, ho, hb⟩
  obtain ⟨A', c', rfl, hly, -⟩ := ho.open_
  have SO := Lib.hid (sort_any ho HM.out HP.out hl)
  have HB := Lib.hid hb
  have HO := Lib.hid ho
  have LN := Lib.hid HP.out.length_eq
  clear ho hb CO hly
  go_wp2_with fail
  refine SO.out.mono ?_
  rintro e w2 ⟨rfl, hl2, ho2⟩
  have L2 := Lib.hid hl2
  have B2 := Lib.hid (HB.out.trans (ho2.to_below (fun i hi h => by
    obtain ⟨g, e, rfl⟩ := h
    subst e
    have := (HO.out.lt' i rfl).1
    omega) HB.out.size))
  clear hl2 ho2 SO
  go_wp2_with fail
  (try simp only [Exit.inBlock, Exit.then]); refine bodyPost_ret (results_tmp rfl _ _ _) rfl ?_
  exact ⟨A', c', by rw [← LN.out]; rfl, L2.out, own_low HO.out, B2.out⟩
set_option maxRecDepth 100000 in
set_option maxHeartbeats 4000000 in
/-- all items, in their order -/
theorem all_it (n : Nat) (hn : 1 ≤ n) (l Bn : Nat) (W1 : World) (hB : Blk W1 Bn 23 #[.pointer (some ⟨q, 0, none⟩)]) (H : QS F W1 q M ad) (hl : M.length ≤ 99000)
    (J : Nat → World → Prop) (X : World → Prop) (S : Nat → Prop) (hS : ∀ j, S j → j < W1.heap.size) (h0 : J 0 W1) (hJa : ∀ k W W', J k W → Below W.heap.size W W' → J k W')
    (hY : ∀ k W, k < M.length → J k W → YieldAt Fence.wide (n - 1) Try.prog l #[.int .i64 (at_ M k).1, .string (at_ M k).2.2] W fun e W' => (e = .returned (.bool true) ∧ J (k + 1) W' ∧ Only S W W') ∨ (e = .returned (.bool false) ∧ X W')) :
    CallsIn Fence.wide n Try.prog 31 #[.func (.yield l) #[] #[], .pointer (some ⟨Bn, 0, none⟩)] W1 fun e W' => (∃ v, e = .returned v) ∧ (J M.length W' ∨ X W') := by
  have b0 := hB.cell 0
  have SD := Lib.hid H.sd
  obtain ⟨m, v, L, h1, h2, h3, rfl⟩ := H.ex
  obtain ⟨A, c, rfl, hlay, -, -, c0, -⟩ := h1.open_
  have VM := Lib.hid (values_make A L.length c W1)
  have LY := Lib.hid hlay
  have HP := Lib.hid h2
  have hln : L.length ≤ 99000 := by rw [h2.length_eq]; exact hl
  have HY := Lib.hid hY
  have HJ := Lib.hid hJa
  have H0 := Lib.hid h0
  have HS := Lib.hid hS
  clear hY hJa h0 hB H h1 h2 h3 hlay hS
  refine callsIn_of_wp Try.func31 rfl trivial ?_ rfl
  simp only [Try.ntmps31, List.size_toArray, List.length_cons, List.length_nil, Nat.reduceAdd, Nat.reduceSub, Array.replicate_succ, Array.replicate_zero, List.push_toArray, List.append_toArray, List.nil_append, List.cons_append]
  gi_wp2
  refine ⟨trivial, (callsIn_wide.2 VM.out).mono ?_⟩
  rintro e w2 ⟨rfl, bx2, hb2⟩
  have SO := Lib.hid (sorted_low bx2 (LY.out.below hb2) SD.out HP.out (by omega))
  have B2 := Lib.hid hb2
  clear bx2 hb2 VM b0 c0
  gi_wp2
  refine ⟨trivial, (callsIn_wide.2 SO.out).mono ?_⟩
  rintro e w3 ⟨A', c', rfl, hl3, hlow, hb3⟩
  have L3 := Lib.hid hl3
  have LW := Lib.hid (show ∀ g off, A' = some ⟨g, off, none⟩ → W1.heap.size ≤ g from fun g off e => Nat.le_trans B2.out.size (hlow g off e))
  have J3 := Lib.hid (HJ.out _ _ _ H0.out (up B2.out hb3 B2.out.size))
  clear hl3 hlow hb3 SO
  gi_wp2
  gi_loopw [12] (fun i wr => ∃ (k : Nat) (W' : World), W' = wr ∧ i = .int .i64 k ∧ k ≤ M.length ∧ J k wr ∧ Lay EQ wr A' M) (fun i _ => M.length - (intOf i).toNat)
  case atStart => exact ⟨0, _, rfl, rfl, by omega, J3.out, L3.out⟩
  case round =>
  obtain ⟨k, w4, rfl, rfl, hk, hj, hly⟩ := hrel
  have J4 := Lib.hid hj
  have L4 := Lib.hid hly
  clear hj hly J3 L3
  by_cases hlt : k < M.length
  · obtain ⟨bb, off, e, e0, e1, e2⟩ := layQ L4.out hlt
    subst e
    have hm := made w4 (.cells #[.int .i64 (at_ M k).1, .int .i64 (at_ M k).2.1, .string (at_ M k).2.2] 66)
    have L5 := Lib.hid (L4.out.below hm)
    have R := Lib.hid (HY.out k _ hlt (HJ.out _ _ _ J4.out hm))
    clear hm
    generalize at_ M k = d at *
    obtain ⟨d0, d1, d2⟩ := d
    dsimp only at e0 e1 e2 R L5
    obtain ⟨fn, tmps, assign, body, hy, hR⟩ := R.out
    clear R
    gi_wp2
    refine hR.mono ?_
    rintro e w5 (⟨rfl, hj5, ho5⟩ | ⟨rfl, hx5⟩)
    · have J6 := Lib.hid hj5
      have L6 := Lib.hid (L5.out.keep (w' := w5) (fun b hb h => by
        obtain ⟨off', e⟩ := h
        exact ho5.block b hb (fun hs => by have := HS.out b hs; have := LW.out b off' e; omega)))
      clear hj5 ho5 e0 e1 e2
      gi_wp2
      go_roundw
      case rel => exact ⟨k + 1, _, rfl, by go_num, by omega, J6.out, L6.out⟩
      case measure => simp [intOf]; omega
    · have X5 := Lib.hid hx5
      clear hx5 e0 e1 e2
      gi_wp2
      refine bodyPost_ret (results_none rfl _ _ _) rfl ?_
      exact ⟨⟨_, rfl⟩, .inr X5.out⟩
  · obtain rfl : k = M.length := by omega
    gi_wp2
    go_end0
    exact ⟨⟨_, rfl⟩, .inl J4.out⟩
set_option maxRecDepth 100000 in
set_option maxHeartbeats 4000000 in
/-- all that are due, one by one, whatever the rounds do meanwhile -/
theorem due_it (n : Nat) (hn : 1 ≤ n) (l bq bn : Nat) (now : Int) (W1 : World)
    (J : Nat → (Nat → Prop) → List It → Int → World → Prop) (μ : World → Nat) (X T : World → Prop)
    (hJ : ∀ k F M ad W, J k F M ad W → QS F W q M ad ∧ μ W = k ∧ W.cell? ⟨bq, 0, none⟩ = some (.pointer (some ⟨q, 0, none⟩)) ∧ W.cell? ⟨bn, 0, none⟩ = some (.int .i64 now) ∧ M.length ≤ 99000 ∧ ad ≤ 99000)
    (h0 : ∃ k F M ad, J k F M ad W1)
    (hend : ∀ k F M ad W, J k F M ad W → (∀ x M', M = x :: M' → now < x.2.1) → T W)
    (hY : ∀ k F x M ad W, J k F (x :: M) ad W → ¬ now < x.2.1 → ∀ F' W', QS F' W' q M ad → Mv F F' W W' → YieldAt Fence.wide (n - 1) Try.prog l #[.int .i64 x.1, .string x.2.2] W' fun e W2 => (e = .returned (.bool true) ∧ ∃ k' F2 M2 ad2, k' < k ∧ J k' F2 M2 ad2 W2) ∨ (e = .returned (.bool false) ∧ X W2)) :
    CallsIn Fence.wide n Try.prog 26 #[.func (.yield l) #[] #[], .pointer (some ⟨bq, 0, none⟩), .pointer (some ⟨bn, 0, none⟩)] W1 fun e W' => (∃ v, e = .returned v) ∧ (T W' ∨ X W') := by
  have HJ := Lib.hid hJ
  have H0 := Lib.hid h0
  have HE := Lib.hid hend
  have HY := Lib.hid hY
  clear hJ h0 hend hY
  refine callsIn_of_wp Try.func26 rfl trivial ?_ rfl
  simp only [Try.ntmps26, List.size_toArray, List.length_cons, List.length_nil, Nat.reduceAdd, Nat.reduceSub, Array.replicate_succ, Array.replicate_zero, List.push_toArray, List.append_toArray, List.nil_append, List.cons_append]
  gi_wp2
  gi_loopw [4, 5, 6, 7] (fun _ _ _ _ wr => ∃ (k : Nat) (F : Nat → Prop) (M : List It) (ad : Int) (W' : World), W' = wr ∧ J k F M ad wr) (fun _ _ _ _ wr => μ wr)
  case atStart =>
    obtain ⟨k, F, M, ad, h⟩ := H0.out
    exact ⟨k, F, M, ad, _, rfl, h⟩
  case round =>
  obtain ⟨k, F, M, ad, w2, rfl, hj⟩ := hrel
  obtain ⟨hq, hmu, c0, c1, hm1, hm2⟩ := HJ.out _ _ _ _ _ hj
  have J2 := Lib.hid hj
  have MU := Lib.hid hmu
  have Q2 := Lib.hid hq
  clear hj hmu hq
  cases M with
  | nil =>
    have PO := Lib.hid (qpop_nil Q2.out now)
    have TT := Lib.hid (HE.out _ _ _ _ _ J2.out (fun x M' e => by cases e))
    gi_wp2
    refine ⟨trivial, (callsIn_wide.2 PO.out).mono ?_⟩
    rintro e w3 ⟨rfl, rfl⟩
    gi_wp2
    refine ⟨fun _ h => (by cases h), ?_⟩
    gi_wp2
    refine bodyPost_ret (results_none rfl _ _ _) rfl ?_
    exact ⟨⟨_, rfl⟩, .inl TT.out⟩
  | cons x M' =>
    by_cases hnow : now < x.2.1
    · have PO := Lib.hid (qpop_no Q2.out hnow)
      have TT := Lib.hid (HE.out _ _ _ _ _ J2.out (fun y M2 e => by injection e with e1 e2; rw [← e1]; exact hnow))
      gi_wp2
      refine ⟨trivial, (callsIn_wide.2 PO.out).mono ?_⟩
      rintro e w3 ⟨rfl, rfl⟩
      gi_wp2
      refine ⟨fun _ h => (by cases h), ?_⟩
      gi_wp2
      refine bodyPost_ret (results_none rfl _ _ _) rfl ?_
      exact ⟨⟨_, rfl⟩, .inl TT.out⟩
    · have PO := Lib.hid (qpop Q2.out hnow (by simp at hm1; omega) (by omega))
      have RR := Lib.hid (fun F' W' => HY.out _ _ _ _ _ _ J2.out (by omega) F' W')
      clear hnow
      obtain ⟨x0, x1, x2⟩ := x
      dsimp only at PO RR
      gi_wp2
      refine ⟨trivial, (callsIn_wide.2 PO.out).mono ?_⟩
      rintro e w3 ⟨rfl, F3, h3, m3⟩
      obtain ⟨fn, tmps, assign, body, hy, hR⟩ := RR.out F3 w3 h3 m3
      clear h3 m3 RR PO
      gi_wp2
      refine hR.mono ?_
      rintro e w4 (⟨rfl, k', F2, M2, ad2, hk, hj2⟩ | ⟨rfl, hx⟩)
      · have J4 := Lib.hid hj2
        have M4 := Lib.hid (HJ.out _ _ _ _ _ hj2).2.1
        clear hj2 c0 c1
        gi_wp2
        go_roundw
        case rel => exact ⟨k', F2, M2, ad2, _, rfl, J4.out⟩
        case measure => rw [M4.out, MU.out]; exact hk
      · have X5 := Lib.hid hx
        clear hx
        gi_wp2
        refine bodyPost_ret (results_none rfl _ _ _) rfl ?_
        exact ⟨⟨_, rfl⟩, .inr X5.out⟩
set_option maxHeartbeats 1000000 in
theorem due_make (q : Nat) (now : Int) (w : World) : Calls Try.prog 12 #[.pointer (some ⟨q, 0, none⟩), .int .i64 now] w fun e w' => e = .returned (.func (.func 26) #[] #[.pointer (some ⟨w.heap.size, 0, none⟩), .pointer (some ⟨w.heap.size + 1, 0, none⟩)]) ∧ Blk w' w.heap.size 23 #[.pointer (some ⟨q, 0, none⟩)] ∧ Blk w' (w.heap.size + 1) 3 #[.int .i64 now] ∧ Below w.heap.size w w' := by
  have h1 := made w (.cells #[.pointer (some ⟨q, 0, none⟩)] 23)
  have hm := Lib.hid (up h1 (made _ (.cells #[.int .i64 now] 3)) h1.size)
  have bx := Lib.hid ((Blk.new w 23 #[.pointer (some ⟨q, 0, none⟩)]).alloc (.cells #[.int .i64 now] 3))
  have by_ := Lib.hid (show Blk _ (w.heap.size + 1) _ _ by
    have := Blk.new (w.alloc (.cells #[.pointer (some ⟨q, 0, none⟩)] 23)) 3 #[.int .i64 now]
    rw [asz] at this
    exact this)
  clear h1
  go_enter Try.func12, Try.ntmps12
  go_wp2_with fail
  go_ret
  exact ⟨rfl, bx.out, by_.out, hm.out⟩
end Go.Proofs.Ytmfhellpdpfoaaa.qu
