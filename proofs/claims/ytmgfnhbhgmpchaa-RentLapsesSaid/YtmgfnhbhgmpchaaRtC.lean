/-
  Rents: Rows, the queue of them, First; the reference's First.
-/
import Derived.Test.YtmgfnhbhgmpchaaRtB
import Derived.LoopTactic
namespace Go.Proofs.Ytmgfnhbhgmpchaa.rn
open Go.RowKit
open base (ret_bool ret_int made up Blk Only)
open rk mk
set_option linter.unusedVariables false
set_option linter.unusedSimpArgs false

theorem TW : Ty E3 Try.prog 50 38 (.agg #[.int .i64 0, .int .i64 0, .int .i64 0]) 24 := ⟨Try.underlying50, by kernel_rfl, rfl, by decide⟩
theorem own_lay' {w : World} {B c : Nat} {t : TypeId} {A : Option Addr} {L : List R3} (h : rk.Own E3 w B t (.slice A L.length c) L) : Lay E3 w A L := by
  obtain ⟨A', c', e, h2, _⟩ := h.open_
  injection e with e1 e2 e3
  subst e1
  exact h2
/-- the keys of the map are the list's houses -/
theorem keys_eq {L : List R3} {ss : List Int} (hs : Sd L) (hw : Wk L) (h : Keys (gv (look L)) ss) : ss = L.map (·.1) := by
  refine rise_uniq h.lt (rise_map hs) (fun x => ?_)
  have e : (gv (look L) x).isSome = (look L x).isSome := by unfold gv; cases look L x <;> rfl
  constructor
  · intro hx
    have := (h.mem x hx).1
    rw [e] at this
    exact (look_isSome x).1 this
  · intro hx
    obtain ⟨d, hd, rfl⟩ := List.mem_map.1 hx
    refine h.all _ (hw d hd) ?_
    rw [e]
    exact (look_isSome _).2 hx
set_option maxRecDepth 100000 in
set_option maxHeartbeats 8000000 in
theorem rows_any {g b cn : Nat} {L : List R3} {w : World} (hr : RAt w g b (look L) cn) (hs : Sd L) (hk : Wk L) (hc : cn ≤ 90000) :
    Calls Try.prog 29 #[.pointer (some ⟨g, 0, none⟩)] w fun e w' => ∃ v, e = .returned v ∧ (∃ A c, v = .slice A L.length c ∧ Lay E3 w' A L ∧ (∀ p off, A = some ⟨p, off, none⟩ → w.heap.size ≤ p) ∧ Below w.heap.size w w') ∧ cn = L.length := by
  have R := Lib.hid hr
  have HS := Lib.hid hs
  have HK := Lib.hid hk
  have KA := Lib.hid (keysI_any (some b) w)
  have SO := Lib.hid (sortedI_any hr.map (by omega))
  have c0 := hr.blk.cell 0
  clear hr hs hk
  go_enter Try.func29, Try.ntmps29
  go_wp2_with fail
  refine KA.out.mono ?_
  rintro e w1 ⟨rfl, rfl⟩
  go_wp2_with fail
  refine SO.out.mono ?_
  rintro e w2 ⟨v, ss, rfl, hks, hln, ho, hb⟩
  have SE := Lib.hid (keys_eq HS.out HK.out hks)
  have LN := Lib.hid (show cn = L.length by rw [← hln, SE.out, List.length_map])
  have R2 := Lib.hid (R.out.below hb)
  have B2 := Lib.hid hb
  have hll : L.length ≤ 90000 := by have := LN.out; omega
  rw [SE.out] at ho
  obtain ⟨Ak, ck, rfl, hlk, -⟩ := ho.open_
  have LK := Lib.hid hlk
  have LM := Lib.hid (show (L.map (·.1)).length = L.length from List.length_map _)
  clear ho hb hks hln hlk KA SO c0
  rw [LM.out]
  go_wp2_with fail
  go_loopw [3, 5, 13] (fun o x i wr => ∃ (k : Nat) (W : World), W = wr ∧ k ≤ L.length ∧ i = .int .i64 k ∧ rk.Own E3 wr w2.heap.size 38 o (L.take k) ∧ Below w2.heap.size w2 wr) (fun _ _ i _ => L.length - (intOf i).toNat)
  case atStart => exact ⟨0, _, rfl, by omega, rfl, rk.Own.nil _ _ _, Below.refl _ _⟩
  case round =>
  obtain ⟨k, w3, rfl, hk, rfl, ho, hb⟩ := hrel
  have O3 := Lib.hid ho
  have B3 := Lib.hid hb
  have R3' := Lib.hid (R2.out.below hb)
  clear ho
  by_cases hlt : k < L.length
  · obtain ⟨bb, off, rfl, hbb, hc'⟩ := (LK.out.below hb) (by rw [LM.out]; omega)
    have x0 := hc' k (by rw [LM.out]; exact hlt) 0 (by decide)
    have e0 : w3.cell? ⟨bb, off + k, none⟩ = some (.int .i64 L[k].1) := by
      have : (E1.enc ((L.map (·.1))[k]'(by rw [LM.out]; exact hlt)))[0]? = some (.int .i64 L[k].1) := by simp [E1]
      rw [← this, ← x0]
      show _ = w3.cell? ⟨bb, off + k * 1 + 0, none⟩
      rw [Nat.mul_one, Nat.add_zero]
    have LA := Lib.hid (look_at HS.out hlt)
    have WF := Lib.hid (HK.out _ (List.getElem_mem hlt))
    have TK := Lib.hid (List.take_succ_eq_append_getElem hlt)
    have HT := Lib.hid (show (L.take k).length + 1 ≤ 100000000 by rw [List.length_take]; omega)
    have tl : decide (k < L.length) = true := decide_eq_true hlt
    have c0 := R3'.out.blk.cell 0
    clear hb hc' x0
    generalize L[k] = d at *
    obtain ⟨d0, d1, d2⟩ := d
    dsimp only at e0 LA WF
    have lk : (Instr.lookup 56 (.map (some b)) (.int .i64 d0) false).run Try.prog w3 = .ok (.agg #[.int .i64 d0, .int .i64 d1, .int .i64 d2]) w3 := by
      rw [IMap.look R3'.out.map Try.underlying3 Try.underlying56 (zrow w3) WF.out]
      show Result.ok (((look L d0).map row).getD _) w3 = _
      rw [LA.out]
      rfl
    have OA := Lib.hid (O3.out.below (made w3 (.cells #[.int .i64 d0, .int .i64 d1, .int .i64 d2] 38)))
    have LY := Lib.hid (Lay.lit (E := E3) (w3.alloc (.cells #[.int .i64 d0, .int .i64 d1, .int .i64 d2] 38)) (d0, d1, d2) 38 w3.heap.size (Blk.new _ _ _))
    have BA := Lib.hid (up B3.out (made w3 (.cells #[.int .i64 d0, .int .i64 d1, .int .i64 d2] 38)) B3.out.size)
    go_wp2_with ((with_reducible show wpList _ _ _ (⟨some 25, _, _, _, _, _⟩ :: _) _ _); go_must (refine wp_app TW (c := 1) (n := 1) rfl _ _ rfl rfl rfl rfl rfl OA.out LY.out HT.out BA.out.size ?_))
    intro v7 w7 own7 gr7
    have B7 := Lib.hid (BA.out.trans (gr7.below OA.out BA.out.size))
    rw [← TK.out] at own7
    have O7 := Lib.hid own7
    obtain ⟨nn, A7, c7, rfl⟩ : ∃ n A c, v7 = .slice A n c := by obtain ⟨A, c, e, -⟩ := own7.open_; exact ⟨_, A, c, e⟩
    clear own7 gr7 OA LY BA lk e0 c0
    go_wp2_with fail
    refine ⟨⟨k + 1, _, rfl, by omega, by go_num, O7.out, B7.out⟩, by simp [intOf]; omega⟩
  · obtain rfl : k = L.length := by omega
    rw [List.take_length] at O3
    obtain ⟨A3, c3, rfl, hl3, -⟩ := O3.out.open_
    have L3 := Lib.hid hl3
    have LO := Lib.hid (show ∀ p off, A3 = some ⟨p, off, none⟩ → w2.heap.size ≤ p from fun p off e => by
      subst e
      rcases O3.out.2 with ⟨h1, _⟩ | ⟨g', cap, cur, h1, hb', _⟩
      · cases h1
      · injection h1 with h1
        injection h1 with h1
        injection h1 with h1 h2
        rw [h1]; exact hb')
    clear hb hl3
    go_wp2_with fail
    (try simp only [Exit.inBlock, Exit.then]); refine bodyPost_ret (results_tmp rfl _ _ _) rfl ?_
    exact ⟨_, rfl, ⟨A3, c3, rfl, L3.out, fun p off e => Nat.le_trans B2.out.size (LO.out p off e), B2.out.trans (B3.out.mono B2.out.size)⟩, LN.out⟩
set_option maxRecDepth 100000 in
set_option maxHeartbeats 8000000 in
theorem queue_any {g b cn : Nat} {L : List R3} {w : World} (hr : RAt w g b (look L) cn) (hs : Sd L) (hk : Wk L) (hc : cn ≤ 90000) :
    Calls Try.prog 34 #[.pointer (some ⟨g, 0, none⟩)] w fun e w' => ∃ v, e = .returned v ∧ ∃ q F M, v = .pointer (some ⟨q, 0, none⟩) ∧ qu.QS F w' q M L.length ∧ InR L L.length M ∧ (∀ j, F j → w.heap.size ≤ j) ∧ Below w.heap.size w w' := by
  have N := Lib.hid (qu.qnew w)
  have HR := Lib.hid hr
  have HS := Lib.hid hs
  have HK := Lib.hid hk
  clear hr hs hk
  go_enter Try.func34, Try.ntmps34
  go_wp2_with fail
  refine N.out.mono ?_
  rintro e w1 ⟨q, F, rfl, h1, b1, f1⟩
  have H1 := Lib.hid h1
  have B1 := Lib.hid b1
  have F1 := Lib.hid f1
  have RW := Lib.hid (rows_any (HR.out.below b1) HS.out HK.out hc)
  clear h1 b1 f1 N
  go_wp2_with fail
  refine RW.out.mono ?_
  rintro e w2 ⟨v, rfl, ⟨A, c, rfl, hly, hlo, hb2⟩, hcn⟩
  have H2 := Lib.hid (H1.out.below hb2)
  have B2 := Lib.hid (up B1.out hb2 B1.out.size)
  have LY := Lib.hid hly
  have LO := Lib.hid hlo
  have hll : L.length ≤ 90000 := by omega
  have F2 := Lib.hid (show ∀ j, F j → j < w1.heap.size from fun j hj => H1.out.lt hj)
  have Z2 := Lib.hid hb2.size
  clear hly hlo hb2 RW H1 hcn
  go_wp2_with fail
  go_loopw [10] (fun i wr => ∃ (k : Nat) (W : World) (F : Nat → Prop) (M : List qu.It), W = wr ∧ k ≤ L.length ∧ i = .int .i64 k ∧ qu.QS F wr q M k ∧ InR L k M ∧ Below w.heap.size w wr ∧ (∀ j, F j → w.heap.size ≤ j) ∧ Lay E3 wr A L ∧ (∀ j, F j → ∀ off, A ≠ some ⟨j, off, none⟩)) (fun i _ => L.length - (intOf i).toNat)
  case atStart => exact ⟨0, _, F, [], rfl, by omega, rfl, H2.out, InR.zero L, B2.out, F1.out, LY.out, fun j hj off e => by have := LO.out j off e; have := F2.out j hj; omega⟩
  case round =>
  obtain ⟨k, w3, F3, M, rfl, hk, rfl, hq, hin, hb, hf, hl3, hap⟩ := hrel
  have Q3 := Lib.hid hq
  have IN := Lib.hid hin
  have B3 := Lib.hid hb
  have F3_ := Lib.hid hf
  have L3 := Lib.hid hl3
  have AP := Lib.hid hap
  clear hq hin hb hf hl3 hap
  by_cases hlt : k < L.length
  · obtain ⟨bb, off, rfl, e0, e1, e2⟩ := lay3 L3.out hlt
    have IA := Lib.hid (IN.out.add hlt)
    have hM := IN.out.len
    have tl : decide (k < L.length) = true := decide_eq_true hlt
    generalize L[k] = d at *
    obtain ⟨d0, d1, d2⟩ := d
    dsimp only at e0 e1 e2 IA
    have KX := Lib.hid (Blk.new w3 38 #[.int .i64 d0, .int .i64 d1, .int .i64 d2])
    have MX := made w3 (.cells #[.int .i64 d0, .int .i64 d1, .int .i64 d2] 38)
    have Q4 := Lib.hid (Q3.out.below MX)
    have B4 := Lib.hid (up B3.out MX B3.out.size)
    have L4 := Lib.hid (L3.out.below MX)
    have AD := Lib.hid (qu.qadd Q4.out (by omega) (by omega) d2 d0)
    clear MX
    go_upto_region 5 with fail
    generalize w3.alloc (.cells #[.int .i64 d0, .int .i64 d1, .int .i64 d2] 38) = w4 at *
    have x0 := KX.out.cell 0
    have x2 := KX.out.cell 2
    clear e0 e1 e2
    go_wp2_with fail
    refine AD.out.mono ?_
    rintro e w5 ⟨rfl, F5, h5, m5⟩
    have D5 := Lib.hid (qu.Mv.to m5 B4.out.size F3_.out)
    have H5 := Lib.hid (show qu.QS F5 w5 q _ ((k + 1 : Nat) : Int) from h5)
    have L5 := Lib.hid (L4.out.keep (w' := w5) (fun j hj h => by
      obtain ⟨off', e⟩ := h
      injection e with e
      injection e with e1 e2
      subst e1
      exact m5.1.block _ hj (fun hf => AP.out _ hf _ rfl)))
    have A5 := Lib.hid (show ∀ j, F5 j → ∀ off', (some ⟨bb, off, none⟩ : Option Addr) ≠ some ⟨j, off', none⟩ from fun j hj off' e => by
      injection e with e
      injection e with e1 e2
      subst e1
      rcases m5.2 _ hj with g | g
      · exact AP.out _ g _ rfl
      · obtain ⟨b', o', e', hlt', _⟩ := L4.out (by omega)
        injection e' with e'
        injection e' with e1 e2
        omega)
    have B5 := Lib.hid (B4.out.trans D5.out.1)
    clear h5 m5 AD x0 x2
    go_wp2_with fail
    refine ⟨⟨k + 1, _, F5, _, rfl, by omega, by go_num, H5.out, IA.out, B5.out, D5.out.2, L5.out, A5.out⟩, by simp [intOf]; omega⟩
  · obtain rfl : k = L.length := by omega
    go_wp2_with fail
    go_ret
    exact ⟨_, rfl, q, F3, M, rfl, Q3.out, IN.out, F3_.out, B3.out⟩
theorem results_tmp3' {fn : Func} {t u v : Tmp} (h : fn.results = #[.tmp t, .tmp u, .tmp v]) (tmps : Array Value) (P : Program) (w : World) :
    (results fn tmps).run P w = .ok (.tuple #[tmps.getD t undef, tmps.getD u undef, tmps.getD v undef]) w := by
  simp [results, h, Sem.run_bind, Sem.run_pure, Result.andThen]
/-- what First tells -/
def FirstV (L : List R3) (a t : Int) (ok : Bool) : Prop := (L = [] ∧ a = 0 ∧ t = 0 ∧ ok = false) ∨ ∃ i, ∃ h : FirstIs L i, a = (L[i]'h.lt).1 ∧ t = (L[i]'h.lt).2.2 + 41 ∧ ok = true
set_option maxRecDepth 100000 in
set_option maxHeartbeats 4000000 in
theorem first_any {g b cn : Nat} {L : List R3} {w : World} (hr : RAt w g b (look L) cn) (hs : Sd L) (hk : Wk L) (hg : Gd L) (hc : cn ≤ 90000) :
    Calls Try.prog 30 #[.pointer (some ⟨g, 0, none⟩)] w fun e w' => ∃ v, e = .returned v ∧ (∃ a t ok, v = .tuple #[.int .i64 a, .int .i64 t, .bool ok] ∧ FirstV L a t ok) ∧ Below w.heap.size w w' := by
  have QA := Lib.hid (queue_any hr hs hk hc)
  have HG := Lib.hid hg
  clear hr hs hk hg
  go_enter Try.func30, Try.ntmps30
  go_wp2_with fail
  refine QA.out.mono ?_
  rintro e w1 ⟨v, rfl, q, F, M, rfl, hq, hin, hf, hb⟩
  have Q1 := Lib.hid hq
  have IN := Lib.hid hin
  have B1 := Lib.hid hb
  clear hq hin hf hb QA
  cases M with
  | nil =>
    have FN := Lib.hid (show L = [] from List.eq_nil_of_length_eq_zero IN.out.len.symm)
    have FI := Lib.hid (qu.qfirst_nil Q1.out)
    go_wp2_with fail
    refine FI.out.mono ?_
    rintro e w2 ⟨rfl, rfl⟩
    go_wp2_with fail
    (try simp only [Exit.inBlock, Exit.then]); refine bodyPost_ret (results_tmp3' rfl _ _ _) rfl ?_
    exact ⟨_, rfl, ⟨0, 0, false, rfl, .inl ⟨FN.out, rfl, rfl, rfl⟩⟩, B1.out⟩
  | cons x M' =>
    obtain ⟨i, hi, ex⟩ := IN.out.head Q1.out.sd
    have HI := Lib.hid hi
    have hd := (HG.out _ (List.getElem_mem hi.lt)).2
    have FI := Lib.hid (qu.qfirst Q1.out)
    rw [ex] at FI
    have RR := Lib.hid (show FirstV L (L[i]'hi.lt).1 ((L[i]'hi.lt).2.2 + 41) true from .inr ⟨i, hi, rfl, rfl, rfl⟩)
    generalize (L[i]'hi.lt) = d at *
    obtain ⟨d0, d1, d2⟩ := d
    dsimp only at hd FI RR
    have w1_ : IntKind.i64.wrap (d2 + 40) = d2 + 40 := IntWalk.i64_in _ (by omega)
    have w2_ : IntKind.i64.wrap (d2 + 40 + 1) = d2 + 41 := by rw [show d2 + 40 + 1 = d2 + 41 by omega]; exact IntWalk.i64_in _ (by omega)
    clear hi
    go_wp2_with fail
    refine FI.out.mono ?_
    rintro e w2 ⟨rfl, hb2⟩
    have B2 := Lib.hid (up B1.out hb2 B1.out.size)
    clear hb2
    go_wp2_with fail
    (try simp only [Exit.inBlock, Exit.then]); refine bodyPost_ret (results_tmp3' rfl _ _ _) rfl ?_
    exact ⟨_, rfl, ⟨d0, d2 + 41, true, rfl, RR.out⟩, B2.out⟩
/-- the place so far -/
def FirstK (L : List R3) (k : Nat) (r : Int) : Prop := (k = 0 ∧ r = -1) ∨ ∃ i : Nat, r = i ∧ i < k ∧ ∃ h : i < L.length, (∀ j (hj : j < L.length), j < k → L[i].2.2 ≤ L[j].2.2) ∧ ∀ j (hj : j < L.length), j < i → L[i].2.2 < L[j].2.2
def FirstR (L : List R3) (r : Int) : Prop := (L = [] ∧ r = -1) ∨ ∃ i : Nat, r = i ∧ FirstIs L i
theorem FirstK.done {L : List R3} {r : Int} (h : FirstK L L.length r) : FirstR L r := by
  rcases h with ⟨h1, h2⟩ | ⟨i, h1, h2, h3, h4, h5⟩
  · exact .inl ⟨List.eq_nil_of_length_eq_zero h1, h2⟩
  · exact .inr ⟨i, h1, ⟨h3, fun j hj => h4 j hj hj, h5⟩⟩
theorem FirstK.start {L : List R3} (h : 0 < L.length) : FirstK L 1 ((0 : Nat) : Int) := .inr ⟨0, rfl, Nat.one_pos, h, ⟨fun j hj hk => (by have e : j = 0 := Nat.lt_one_iff.1 hk; subst e; exact Int.le_refl _), fun j hj hk => absurd hk (Nat.not_lt_zero _)⟩⟩
theorem FirstK.take {L : List R3} {k i : Nat} (h : FirstK L k (i : Int)) (hk : k < L.length) (hi : i < L.length) (hl : L[k].2.2 < L[i].2.2) : FirstK L (k + 1) (k : Int) := by
  rcases h with ⟨h1, h2⟩ | ⟨i', h1, h2, h3, h4, h5⟩
  · omega
  · obtain rfl : i' = i := by omega
    refine .inr ⟨k, rfl, by omega, hk, fun j hj hjk => ?_, fun j hj hjk => ?_⟩
    · by_cases e : j = k
      · subst e; exact Int.le_refl _
      · have := h4 j hj (by omega); omega
    · have := h4 j hj (by omega); omega
theorem FirstK.leave {L : List R3} {k i : Nat} (h : FirstK L k (i : Int)) (hk : k < L.length) (hi : i < L.length) (hl : ¬ L[k].2.2 < L[i].2.2) : FirstK L (k + 1) (i : Int) := by
  rcases h with ⟨h1, h2⟩ | ⟨i', h1, h2, h3, h4, h5⟩
  · omega
  · obtain rfl : i' = i := by omega
    refine .inr ⟨i', rfl, by omega, hi, fun j hj hjk => ?_, h5⟩
    by_cases e : j = k
    · subst e; omega
    · exact h4 j hj (by omega)
set_option maxRecDepth 100000 in
set_option maxHeartbeats 4000000 in
theorem rfirst_any (A : Option Addr) (c : Nat) (L : List R3) (w : World) (hA : Lay E3 w A L) (hl : L.length ≤ 100000) :
    Calls Try.prog 19 #[.slice A L.length c] w fun e w' => ∃ v, e = .returned v ∧ (∃ r, v = .int .i64 r ∧ FirstR L r) ∧ Below w.heap.size w w' := by
  have HA := Lib.hid hA
  clear hA
  go_enter Try.func19, Try.ntmps19
  go_wp2_with fail
  go_loopw [3, 4] (fun bv i wr => ∃ (k : Nat) (W : World) (r : Int), W = wr ∧ k ≤ L.length ∧ i = .int .i64 k ∧ bv = .int .i64 r ∧ FirstK L k r ∧ Below w.heap.size w wr) (fun _ i _ => L.length - (intOf i).toNat)
  case atStart => exact ⟨0, _, -1, rfl, by omega, rfl, rfl, .inl ⟨rfl, rfl⟩, Below.refl _ _⟩
  case round =>
  obtain ⟨k, w2, r, rfl, hk, rfl, rfl, hf, hb⟩ := hrel
  have FK := Lib.hid hf
  have B2 := Lib.hid hb
  clear hf
  by_cases hlt : k < L.length
  · have tl : decide (k < L.length) = true := decide_eq_true hlt
    have tlk : ((L.length : Int) ≤ (k : Int)) = False := by simp; omega
    rcases FK.out with ⟨hk0, hr⟩ | ⟨i, hr, hik, hil, -, -⟩
    · subst hk0 hr
      have F1 := Lib.hid (FirstK.start (L := L) hlt)
      clear hb FK
      go_upto_region 5 with fail
      go_quiet (fail)
      go_wp2_with fail
      refine ⟨⟨1, _, _, rfl, by omega, by go_num, rfl, F1.out, base.below_drewN B2.out _⟩, by simp [intOf]; omega⟩
    · subst hr
      have ti : decide ((i : Int) < 0) = false := decide_eq_false (by omega)
      have tli : decide (i < L.length) = true := decide_eq_true hil
      have tlik : ((L.length : Int) ≤ (i : Int)) = False := by simp; omega
      obtain ⟨bb, off, rfl, -, -, e2⟩ := lay3 (HA.out.below hb) hlt
      obtain ⟨bb', off', e, -, -, f2⟩ := lay3 (HA.out.below hb) hil
      injection e with e
      injection e with ea eb
      subst ea eb
      have FT := Lib.hid (fun h => FK.out.take hlt hil h)
      have FL := Lib.hid (fun h => FK.out.leave hlt hil h)
      generalize L[k].2.2 = dk at *
      generalize L[i].2.2 = di at *
      clear hb FK
      by_cases q : dk < di
      · have t1 : decide (dk < di) = true := decide_eq_true q
        have F1 := Lib.hid (FT.out q)
        clear q FT FL
        go_upto_region 5 with fail
        go_quiet (fail)
        go_wp2_with fail
        refine ⟨⟨k + 1, _, _, rfl, by omega, by go_num, rfl, F1.out, base.below_drewN B2.out _⟩, by simp [intOf]; omega⟩
      · have t1 : decide (dk < di) = false := decide_eq_false q
        have F1 := Lib.hid (FL.out q)
        clear q FT FL
        go_upto_region 5 with fail
        go_quiet (fail)
        go_wp2_with fail
        refine ⟨⟨k + 1, _, _, rfl, by omega, by go_num, rfl, F1.out, base.below_drewN B2.out _⟩, by simp [intOf]; omega⟩
  · obtain rfl : k = L.length := by omega
    have FR := Lib.hid FK.out.done
    clear hb FK
    go_wp2_with fail
    go_ret
    exact ⟨_, rfl, ⟨r, rfl, FR.out⟩, B2.out⟩
end Go.Proofs.Ytmgfnhbhgmpchaa.rn
