/-
  The queue: all items, collected and sorted.
-/
import Derived.Test.YtmfhellpdpfoaaaQuK
import Derived.Test.YtmfhellpdpfoaaaRangeM
import Derived.Shelf.Abstract
import Derived.Shelf.RegionOpen
import Derived.OwnWalkIn
import Derived.TacticsInMore
import Derived.LoopNIn
import Derived.LoopIn
namespace Go.Proofs.Ytmfhellpdpfoaaa.qu
open Go.RowKit Go.Shelf
open base (ret_bool ret_int made up Blk Only)
open rk mk rgm
set_option linter.unusedVariables false
set_option linter.unusedSimpArgs false
attribute [local go_sem] Oper.semAt_some
variable {w w' : World} {q m : Nat} {v : Value} {L M : List It} {ad : Int} {F : Nat → Prop}

abbrev encA (d : It) : Value := .agg #[.int .i64 d.1, .int .i64 d.2.1, .string d.2.2]
theorem wp_app_in {α : Type} {E : Enc α} {F : Fence} {N : Nat} {P : Program} {ts t : TypeId} {z : Value} {by_ : Nat} (T : Ty E P ts t z by_) {w : World} {ops : Array Oper} {rest : List Oper} {o : Oper} {a : Act} {Q : Exit → Act → World → Prop} (hgd : o.guard = none) (s x : Operand)
    (ho : o.op = .call { callee := .builtin .append, args := #[s, x], argTypes := #[ts, ts] }) (hty : o.type = ts)
    {b c n : Nat} {v : Value} {A : Option Addr} {L M : List α} (h1 : a.eval s = v) (h2 : a.eval x = .slice A n c) (hnm : n = M.length)
    (h : rk.Own E w b t v L) (hm : Lay E w A M) (hs : L.length + M.length ≤ 100000000) (hb : b ≤ w.heap.size)
    (k : ∀ v' w', rk.Own E w' b t v' (L ++ M) → Grew w w' v v' → wpListIn F N P ops Q rest (a.put o.dst v') w') : wpListIn F N P ops Q (o :: rest) a w := by
  subst hnm
  obtain ⟨v', w', hr, h3, h4⟩ := app_run (c := c) T h hm (fun _ => by cases A <;> simp) hs hb
  refine wpListIn_plain hgd fun K hK => ?_
  unfold Oper.wpIn
  refine ⟨?_, ?_⟩
  · simp [Oper.about, ho, resolve, Target.leads, Sem.run_pure]
  · rw [Oper.semAt_plain F _ _ (by rw [ho]; intro c hc'; cases hc')]
    simp [execOp, ho, resolve, invoke, builtin, h1, h2, hty, hr, Result.andThen]
    exact hK _ _ (k v' w' h3 h4)

set_option maxRecDepth 100000 in
set_option maxHeartbeats 4000000 in
/-- the function that is ranged over tells the items of a row, one by one -/
theorem values_it (n : Nat) (hn : 1 ≤ n) (l Bn c : Nat) (A : Option Addr) (L : List It) (W1 : World) (hB : Blk W1 Bn 53 #[.slice A L.length c]) (hl : L.length ≤ 100000)
    (J : Nat → World → Prop) (X : World → Prop) (h0 : J 0 W1) (hJa : ∀ k W o, J k W → J k (W.alloc o)) (hJl : ∀ k W, J k W → Lay EQ W A L)
    (hY : ∀ k W, k < L.length → J k W → YieldAt Fence.wide (n - 1) Try.prog l #[encA (at_ L k)] W fun e W' => (e = .returned (.bool true) ∧ J (k + 1) W') ∨ (e = .returned (.bool false) ∧ X W')) :
    CallsIn Fence.wide n Try.prog 40 #[.func (.yield l) #[] #[], .pointer (some ⟨Bn, 0, none⟩)] W1 fun e W' => (∃ v, e = .returned v) ∧ (J L.length W' ∨ X W') := by
  have c1 := hB.cell 0
  have HY := Lib.hid hY
  have HJ := Lib.hid hJa
  have HL := Lib.hid hJl
  have H0 := Lib.hid h0
  clear hY hJa hJl h0 hB
  refine callsIn_of_wp Try.func40 rfl trivial ?_ rfl
  simp only [Try.ntmps40, List.size_toArray, List.length_cons, List.length_nil, Nat.reduceAdd, Nat.reduceSub, Array.replicate_succ, Array.replicate_zero, List.push_toArray, List.append_toArray, List.nil_append, List.cons_append]
  gi_wp2
  gi_loopw [7] (fun i wr => ∃ (k : Nat) (W' : World), W' = wr ∧ i = .int .i64 k ∧ k ≤ L.length ∧ J k wr) (fun i _ => L.length - (intOf i).toNat)
  case atStart => exact ⟨0, _, rfl, rfl, by omega, H0.out⟩
  case round =>
  obtain ⟨k, w2, rfl, rfl, hk, hj⟩ := hrel
  have J2 := Lib.hid hj
  have LL := Lib.hid (HL.out _ _ hj)
  clear hj c1
  by_cases hlt : k < L.length
  · obtain ⟨bb, off, rfl, -, hc⟩ := LL.out (by omega)
    have x0 := hc k hlt 0 (by decide)
    have x1 := hc k hlt 1 (by decide)
    have x2 := hc k hlt 2 (by decide)
    rw [← at_eq hlt] at x0 x1 x2
    clear hc
    have R := Lib.hid (HY.out k (w2.alloc (.cells #[.int .i64 (at_ L k).1, .int .i64 (at_ L k).2.1, .string (at_ L k).2.2] 66)) hlt (HJ.out _ _ _ J2.out))
    generalize at_ L k = d at *
    obtain ⟨d0, d1, d2⟩ := d
    have e0 : w2.cell? ⟨bb, off + k * 3, none⟩ = some (.int .i64 d0) := x0
    have e1 : w2.cell? ⟨bb, off + k * 3 + 1, none⟩ = some (.int .i64 d1) := x1
    have e2 : w2.cell? ⟨bb, off + k * 3 + 2, none⟩ = some (.string d2) := x2
    obtain ⟨fn, tmps, assign, body, hy, hR⟩ := R.out
    dsimp only [encA] at hy
    clear x0 x1 x2 R
    gi_wp2
    refine hR.mono ?_
    rintro e w3 (⟨rfl, hj3⟩ | ⟨rfl, hx3⟩)
    · have J4 := Lib.hid hj3
      clear hj3 e0 e1 e2
      gi_wp2
      go_roundw
      case rel => exact ⟨k + 1, _, rfl, by go_num, by omega, J4.out⟩
      case measure => simp [intOf]; omega
    · have X3 := Lib.hid hx3
      clear hx3 e0 e1 e2
      gi_wp2
      refine bodyPost_ret (results_none rfl _ _ _) rfl ?_
      exact ⟨⟨_, rfl⟩, .inr X3.out⟩
  · obtain rfl : k = L.length := by omega
    gi_wp2
    go_end0
    exact ⟨⟨_, rfl⟩, .inl J2.out⟩
/-- items that were collected: the box, the row -/
def Co (w : World) (L : List It) (k : Nat) (W : World) : Prop := ∃ v, Blk W w.heap.size 53 #[v] ∧ rk.Own EQ W (w.heap.size + 3) 66 v (L.take k) ∧ Below w.heap.size w W ∧ w.heap.size + 3 ≤ W.heap.size
theorem Co.alloc {k : Nat} {W : World} (h : Co w L k W) (o : Obj) : Co w L k (W.alloc o) := by
  obtain ⟨v, h1, h2, h3, h4⟩ := h
  exact ⟨v, h1.alloc o, h2.below (made W o), h3.trans ((made W o).mono h3.size), by rw [asz]; omega⟩
theorem Co.only {k : Nat} {W W' : World} (h : Co w L k W) (ho : Only (fun j => j = w.heap.size + 1 + 1) W W') : Co w L k W' := by
  obtain ⟨v, h1, h2, h3, h4⟩ := h
  exact ⟨v, h1.only ho (by omega), h2.only ho (fun g hg e => by have := (h2.lt' g hg).1; omega), h3.trans (ho.to_below (fun i hi e => by omega) h3.size), Nat.le_trans h4 ho.size⟩
theorem Co.step {k : Nat} {Wc W3 : World} {v v' : Value} {o : Obj} (hv : Blk Wc w.heap.size 53 #[v]) (hown : rk.Own EQ Wc (w.heap.size + 3) 66 v (L.take k)) (hb : Below w.heap.size w Wc) (hz : w.heap.size + 3 ≤ Wc.heap.size)
    (h3 : rk.Own EQ W3 (w.heap.size + 3) 66 v' (L.take (k + 1))) (hg : Grew (Wc.alloc o) W3 v v') : Blk W3 w.heap.size 53 #[v] ∧ Kept (w.heap.size + 1) Wc (W3.setCell ⟨w.heap.size, 0, none⟩ v') ∧ Co w L (k + 1) (W3.setCell ⟨w.heap.size, 0, none⟩ v') := by
  have nb : ∀ j, j < w.heap.size + 3 → v.ownBlock ≠ some j := fun j hj e => by have := (hown.lt' j e).1; omega
  have same : ∀ j, j < w.heap.size + 3 → W3.heap[j]? = Wc.heap[j]? := fun j hj =>
    (hg.grown.block j (by rw [asz]; omega) (fun e => nb j hj e.symm)).trans (Below.heap_alloc Wc o j (by omega))
  have hv3 : Blk W3 w.heap.size 53 #[v] := (same _ (by omega)).trans hv
  have hz3 : w.heap.size + 3 ≤ W3.heap.size := by have := hg.grown.size; rw [asz] at this; omega
  have hb3 : Below w.heap.size w W3 := (hb.trans ((made Wc o).mono hb.size)).trans ((Below.refl _ _).grown hg.grown (by rw [asz]; omega) (fun k hk => by have := (hown.lt' k hk).1; omega))
  refine ⟨hv3, ⟨(Below.heap_setCell W3 _ _ _ (by show w.heap.size + 1 ≠ w.heap.size; omega)).trans (same _ (by omega)), (Below.heap_setCell W3 _ _ _ (by show w.heap.size + 1 + 1 ≠ w.heap.size; omega)).trans (same _ (by omega))⟩,
    ⟨v', hv3.put 0 v', h3.keep (fun g hg' => Below.heap_setCell W3 _ _ _ (by have := (h3.lt' g hg').1; show g ≠ w.heap.size; omega)), hb3.setCell (p := ⟨w.heap.size, 0, none⟩) (Nat.le_refl _) _, by simpa [World.setCell] using hz3⟩⟩
set_option maxRecDepth 100000 in
set_option maxHeartbeats 4000000 in
theorem append_seq {Bn c : Nat} {A : Option Addr} (hs : Blk w Bn 53 #[.slice A L.length c]) (hL : Lay EQ w A L) (hl : L.length ≤ 100000) :
    Calls Try.prog 42 #[.slice none 0 0, .func (.func 40) #[] #[.pointer (some ⟨Bn, 0, none⟩)]] w fun e w' => ∃ v, e = .returned v ∧ rk.Own EQ w' w.heap.size 66 v L ∧ Below w.heap.size w w' := by
  have K1 := Lib.hid (Blk.new w 53 #[.slice none 0 0])
  have M1 := Lib.hid (made w (.cells #[.slice none 0 0] 53))
  have Z1 := Lib.hid (asz w (.cells #[.slice none 0 0] 53))
  have HS := Lib.hid hs
  have HL := Lib.hid hL
  clear hs hL
  refine (callsIn_wide (n := 3)).1 ?_
  refine callsIn_of_wp_marks Try.func42 rfl trivial ?_ rfl
  simp only [Try.ntmps42, List.size_toArray, List.length_cons, List.length_nil, Nat.reduceAdd, Nat.reduceSub, Array.replicate_succ, Array.replicate_zero, List.push_toArray, List.append_toArray, List.nil_append, List.cons_append]
  refine wpIn_wide.2 (calm_wp ?_)
  go_wp2_with fail
  generalize w.alloc (.cells #[.slice none 0 0] 53) = w1 at *
  refine (wpIn_wide (n := 3)).1 ?_
  refine wpIn_rangeFunc_free (α := Nat) rfl (by omega) (gf := 40) (lb := #[.pointer (some ⟨Bn, 0, none⟩)]) rfl trivial (enters_of Try.func40 (by kernel_rfl) rfl)
    (encs := fun k => #[encA (at_ L k)]) (fun _ => rfl)
    (fun k W => k < L.length ∧ Co w L k W) (fun k _ W' => Co w L (k + 1) W') (fun _ _ => False) (fun W => Co w L L.length W)
    (fun k a' W Wb => a' = { tmps := #[.slice none 0 0, .func (.func 40) #[] #[.pointer (some ⟨Bn, 0, none⟩)], .pointer (some ⟨w.heap.size, 0, none⟩), undef, .slice none 0 0, .pointer (some ⟨W.heap.size, 0, none⟩), .func (.func 40) #[] #[.pointer (some ⟨Bn, 0, none⟩)], encA (at_ L k), undef, undef, undef, undef, undef], defers := [] } ∧ Wb = W.alloc (.cells #[.int .i64 (at_ L k).1, .int .i64 (at_ L k).2.1, .string (at_ L k).2.2] 66))
    ?iter ?assign ?body ?done ?stop
  case iter =>
    intro W1 Bk Bx hb1 hz1 hbk hBk hBx hY
    have hwW : Below w.heap.size w W1 := up M1.out hb1 M1.out.size
    refine (values_it (3 - 1) (by omega) (w1.heap.size + 1) Bn c A L W1 (HS.out.below hwW HS.out.lt) hl (fun k W => Bk W ∧ Co w L k W) (fun _ => False) ⟨hbk, ?_⟩ (fun k W o h => ⟨hBk _ _ h.1 (Kept.of_below (made W o) (by have := h.2; obtain ⟨v, _, _, _, h4⟩ := this; have := Z1.out; omega)), h.2.alloc o⟩) (fun k W h => ?_) (fun k W hk h => ?_)).mono ?_
    · exact ⟨_, (K1.out.below hb1 K1.out.lt), Own.nil _ _ _, hwW, by rw [hz1, Z1.out]; omega⟩
    · obtain ⟨_, v, _, _, h3, _⟩ := h
      exact HL.out.below h3
    · refine (hY k W h.1 ⟨hk, h.2⟩).mono ?_
      rintro e W' (⟨rfl, h1, h2⟩ | ⟨rfl, c', h1, h2⟩)
      · exact .inl ⟨rfl, h1, h2⟩
      · exact h2.elim
    · rintro e W' ⟨h1, (h2 | h2)⟩
      · exact ⟨h1, .inl h2⟩
      · exact h2.elim
  case assign =>
    rintro k W K ⟨hk, hco⟩ hlt hK
    have HK := Lib.hid (hK _ _ (Kept.of_below (made W (.cells #[.int .i64 (at_ L k).1, .int .i64 (at_ L k).2.1, .string (at_ L k).2.2] 66)) hlt) ⟨rfl, rfl⟩)
    clear hK hco
    generalize at_ L k = d at *
    obtain ⟨d0, d1, d2⟩ := d
    simp only [encA, List.zip_toArray, List.zip_cons_cons, List.zip_nil_right, List.foldl_toArray, List.foldl_cons, List.foldl_nil, List.setIfInBounds_toArray, List.set_cons_succ, List.set_cons_zero]
    gi_wp2
    exact HK.out
  case body =>
    rintro k a' W Wb Wc ⟨hk, hco⟩ ⟨rfl, rfl⟩ hO - hlt
    have hsz := hO.size
    rw [asz] at hsz
    have qx := (Blk.new W 66 #[.int .i64 (at_ L k).1, .int .i64 (at_ L k).2.1, .string (at_ L k).2.2]).only hO (by
      obtain ⟨v, _, _, _, h4⟩ := hco
      have := Z1.out
      omega)
    obtain ⟨v, hv, hown, hbw, hs3⟩ := (hco.alloc (.cells #[.int .i64 (at_ L k).1, .int .i64 (at_ L k).2.1, .string (at_ L k).2.2] 66)).only (by rw [← Z1.out]; exact hO)
    have TK := Lib.hid (show L.take (k + 1) = L.take k ++ [at_ L k] by rw [at_eq hk]; exact List.take_succ_eq_append_getElem hk)
    have LK := Lib.hid (show (L.take k).length = k by rw [List.length_take]; omega)
    have v0 := hv.cell 0
    have x0 := qx.cell 0
    have x1 := qx.cell 1
    have x2 := qx.cell 2
    have HV := Lib.hid hv
    have HO := Lib.hid hown
    have HB := Lib.hid hbw
    have HZ := Lib.hid hs3
    generalize at_ L k = d at *
    obtain ⟨d0, d1, d2⟩ := d
    dsimp only at x0 x1 x2 ⊢
    have M2 := Lib.hid (made Wc (.cells #[.int .i64 d0, .int .i64 d1, .string d2] 66))
    have KL := Lib.hid (Blk.new Wc 66 #[.int .i64 d0, .int .i64 d1, .string d2])
    clear hv hown hbw hs3 hO hco qx
    gi_wp2_with (gi_at_builtin; refine wp_app_in TQ rfl _ _ rfl rfl rfl rfl rfl (HO.out.below M2.out) (Lay.lit (E := EQ) _ (d0, d1, d2) 66 Wc.heap.size KL.out) (by rw [LK.out]; simp; omega) (by have := HZ.out; rw [asz]; omega) ?_)
    intro v' W3 own3 grew3
    obtain ⟨A3, c3, rfl, -⟩ := own3.open_
    generalize (List.take k L ++ [(d0, d1, d2)]).length = nn at *
    obtain ⟨kv, kk, kc⟩ := Co.step HV.out HO.out HB.out HZ.out (by rw [TK.out]; exact own3) grew3
    have KK := Lib.hid kk
    have KC := Lib.hid kc
    have y0 := kv.cell 0
    have y1 := kv.free 0
    clear kk kc own3 grew3
    gi_wp2
    exact ⟨by rw [Z1.out]; exact KK.out, fun W2 h2 => KC.out.only (by rw [← Z1.out]; exact h2)⟩
  case done =>
    rintro W0 W ⟨v, hv, hown, hbw, hs3⟩ hO hK
    rw [List.take_length] at hown
    have hv2 := hv.only hO (by rw [Z1.out]; omega)
    have c0 := hv2.cell 0
    have KK := Lib.hid hK
    go_wp2_with fail
    obtain ⟨A3, c3, rfl, -⟩ := hown.open_
    have own2 := hown.only hO (fun g hg e => by have := (hown.lt' g hg).1; have := Z1.out; omega)
    have bw2 := hbw.trans (hO.to_below (fun i hi e => by have := Z1.out; omega) hbw.size)
    refine ⟨by simp, .inl ⟨_, _, rfl, run_takeDeferred KK.out, ?_⟩⟩
    refine ⟨_, results_tmp rfl _ _ _, _, rfl, (own2.keep (fun g hg => World.putObj_heap_other (by have := (own2.lt' g hg).1; have := Z1.out; omega))).mono (by omega), bw2.trans (belowK_b (w := w) (Nat.le_refl _) _ _ _ _ (by rw [Z1.out]; omega) KK.out rfl rfl)⟩
  case stop =>
    intro c' W0 W h
    exact h.elim
set_option maxHeartbeats 1000000 in
theorem collect_any {Bn c : Nat} {A : Option Addr} (hs : Blk w Bn 53 #[.slice A L.length c]) (hL : Lay EQ w A L) (hl : L.length ≤ 100000) :
    Calls Try.prog 38 #[.func (.func 40) #[] #[.pointer (some ⟨Bn, 0, none⟩)]] w fun e w' => ∃ v, e = .returned v ∧ rk.Own EQ w' w.heap.size 66 v L ∧ Below w.heap.size w w' := by
  have AS := Lib.hid (append_seq hs hL hl)
  clear hs hL
  go_enter Try.func38, Try.ntmps38
  go_wp2_with fail
  refine AS.out.mono ?_
  rintro e w' ⟨v, rfl, ho, hb⟩
  have HO := Lib.hid ho
  have HB := Lib.hid hb
  clear ho hb AS
  go_wp2_with fail
  (try simp only [Exit.inBlock, Exit.then]); refine bodyPost_ret (results_tmp rfl _ _ _) rfl ?_
  exact ⟨v, rfl, HO.out, HB.out⟩
set_option maxHeartbeats 1000000 in
theorem sorted_any {Bn c : Nat} {A : Option Addr} (hs : Blk w Bn 53 #[.slice A L.length c]) (hL : Lay EQ w A L) (hM : M.Pairwise lt) (hp : L.Perm M) (hl : L.length ≤ 100000) :
    Calls Try.prog 32 #[.func (.func 40) #[] #[.pointer (some ⟨Bn, 0, none⟩)], .func (.func 34) #[] #[]] w fun e w' => ∃ A' c', e = .returned (.slice A' M.length c') ∧ Lay EQ w' A' M ∧ Below w.heap.size w w' := by
  have CO := Lib.hid (collect_any hs hL hl)
  have HM := Lib.hid hM
  have HP := Lib.hid hp
  clear hs hL hM hp
  go_enter Try.func32, Try.ntmps32
  go_wp2_with fail
  refine CO.out.mono ?_
  rintro e w' ⟨v, rfl, ho, hb⟩
  obtain ⟨A', c', rfl, hly, -⟩ := ho.open_
  have SO := Lib.hid (sort_any ho HM.out HP.out hl)
  have HB := Lib.hid hb
  have HO := Lib.hid ho
  have LN := Lib.hid HP.out.length_eq
  clear ho hb CO hly
  go_wp2_with fail
  refine SO.out.mono ?_
  rintro e w2 ⟨rfl, hl2, ho2⟩
  have L2 := Lib.hid hl2
  have B2 := Lib.hid (HB.out.trans (ho2.to_below (fun i hi h => by
    obtain ⟨g, e, rfl⟩ := h
    subst e
    have := (HO.out.lt' i rfl).1
    omega) HB.out.size))
  clear hl2 ho2 SO
  go_wp2_with fail
  (try simp only [Exit.inBlock, Exit.then]); refine bodyPost_ret (results_tmp rfl _ _ _) rfl ?_
  exact ⟨A', c', by rw [← LN.out]; rfl, L2.out, B2.out⟩
set_option maxHeartbeats 1000000 in
theorem values_make (A : Option Addr) (k c : Nat) (w : World) : Calls Try.prog 33 #[.slice A k c] w fun e w' => e = .returned (.func (.func 40) #[] #[.pointer (some ⟨w.heap.size, 0, none⟩)]) ∧ Blk w' w.heap.size 53 #[.slice A k c] ∧ Below w.heap.size w w' := by
  have hm := Lib.hid (made w (.cells #[.slice A k c] 53))
  have bx := Lib.hid (Blk.new w 53 #[.slice A k c])
  go_enter Try.func33, Try.ntmps33
  go_wp2_with fail
  go_ret
  exact ⟨rfl, bx.out, hm.out⟩
set_option maxHeartbeats 1000000 in
theorem all_make (q : Nat) (w : World) : Calls Try.prog 24 #[.pointer (some ⟨q, 0, none⟩)] w fun e w' => e = .returned (.func (.func 31) #[] #[.pointer (some ⟨w.heap.size, 0, none⟩)]) ∧ Blk w' w.heap.size 23 #[.pointer (some ⟨q, 0, none⟩)] ∧ Below w.heap.size w w' := by
  have hm := Lib.hid (made w (.cells #[.pointer (some ⟨q, 0, none⟩)] 23))
  have bx := Lib.hid (Blk.new w 23 #[.pointer (some ⟨q, 0, none⟩)])
  go_enter Try.func24, Try.ntmps24
  go_wp2_with fail
  go_ret
  exact ⟨rfl, bx.out, hm.out⟩
end Go.Proofs.Ytmfhellpdpfoaaa.qu
