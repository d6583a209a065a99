/-
  The queue: Cancel, Move, Get.
-/
import Derived.Test.YtmfhellpdpfoaaaQuJ
namespace Go.Proofs.Ytmfhellpdpfoaaa.qu
open Go.RowKit
open base (ret_bool ret_int made up Blk Only)
open rk mk
set_option linter.unusedVariables false
set_option linter.unusedSimpArgs false
variable {w w' : World} {q m : Nat} {v : Value} {L M : List It} {ad : Int} {F : Nat → Prop}

/-- what a look-up of a number tells -/
theorem QAt.find (H : QAt w q m v L ad) (n : Int) (hw : (Lit.int .i64 n).wf = true) (hl : L.length ≤ 100000) :
    (∃ i, i < L.length ∧ (at_ L i).1 = n ∧ (Instr.lookup 52 (.map (some m)) (.int .i64 n) true).run Try.prog w = .ok (.tuple #[.int .i64 i, .bool true]) w) ∨
    ((∀ x ∈ L, x.1 ≠ n) ∧ (Instr.lookup 52 (.map (some m)) (.int .i64 n) true).run Try.prog w = .ok (.tuple #[.int .i64 0, .bool false]) w) := by
  obtain ⟨F, hF, hM⟩ := H.map
  have h := IMap.look_ok hF Try.underlying3 Try.underlying52 (zint w) hw
  cases hn : F n with
  | none =>
    refine .inr ⟨fun x hx e => ?_, by rw [h, hn]; rfl⟩
    obtain ⟨k, hk, ek⟩ := mem_at hx
    have := hM.fwd k hk
    rw [ek, e, hn] at this
    cases this
  | some u =>
    obtain ⟨i, hi, e⟩ := hM.back n u hn
    have hf := hM.fwd i hi
    rw [e] at hf
    refine .inl ⟨i, hi, e, ?_⟩
    rw [h, hf]
    rfl
theorem nodup_ms {F : Int → Option Value} (h : MapOk F L) : (L.map (·.1)).Nodup := by
  rw [List.nodup_iff_pairwise_ne, List.pairwise_iff_getElem]
  intro i j hi hj hij e
  have hi' : i < L.length := by simpa using hi
  have hj' : j < L.length := by simpa using hj
  simp only [List.getElem_map] at e
  have := h.inj hi' hj' (by rw [at_eq hi', at_eq hj', e])
  omega
theorem QS.nodup (h : QS F w q M ad) : (M.map (·.1)).Nodup := by
  obtain ⟨m, v, L, h1, h2, h3, rfl⟩ := h.ex
  obtain ⟨F, hF, hM⟩ := h1.map
  exact (h2.map (·.1)).nodup_iff.1 (nodup_ms hM)
theorem one_of {x y : It} (h : (M.map (·.1)).Nodup) (hx : x ∈ M) (hy : y ∈ M) (e : x.1 = y.1) : x = y := by
  obtain ⟨i, hi, ei⟩ := mem_at hx
  obtain ⟨j, hj, ej⟩ := mem_at hy
  have hij : i = j := by
    have := (List.nodup_iff_pairwise_ne.1 h)
    rw [List.pairwise_iff_getElem] at this
    rcases Nat.lt_trichotomy i j with q | q | q
    · have := this i j (by simpa using hi) (by simpa using hj) q
      simp only [List.getElem_map] at this
      rw [← at_eq hi, ← at_eq hj, ei, ej] at this
      exact absurd e this
    · exact q
    · have := this j i (by simpa using hj) (by simpa using hi) q
      simp only [List.getElem_map] at this
      rw [← at_eq hi, ← at_eq hj, ei, ej] at this
      exact absurd e.symm this
  rw [← ei, ← ej, hij]
theorem cons_erase : ∀ (M : List It) (k : Nat) (hk : k < M.length), (M[k] :: M.eraseIdx k).Perm M
  | [], k, h => absurd h (by simp)
  | x :: M, 0, _ => List.Perm.refl _
  | x :: M, k + 1, h => (List.Perm.swap _ _ _).trans (List.Perm.cons x (cons_erase M k (by simpa using h)))
theorem set_erase (y : It) : ∀ (M : List It) (k : Nat) (hk : k < M.length), (M.set k y).Perm (y :: M.eraseIdx k)
  | [], k, h => absurd h (by simp)
  | x :: M, 0, _ => List.Perm.refl _
  | x :: M, k + 1, h => (List.Perm.cons x (set_erase y M k (by simpa using h))).trans (List.Perm.swap _ _ _)
theorem erase_perm {k : Nat} (hk : k < M.length) : (at_ M k :: M.eraseIdx k).Perm M := by
  rw [at_eq hk]
  exact cons_erase M k hk
theorem erase_sd {k : Nat} (h : M.Pairwise lt) : (M.eraseIdx k).Pairwise lt := h.sublist (List.eraseIdx_sublist _ _)
set_option maxHeartbeats 2000000 in
theorem cancel_no (H : QS F w q M ad) {n : Int} (hw : (Lit.int .i64 n).wf = true) (hl : M.length ≤ 100000) (hn : ∀ x ∈ M, x.1 ≠ n) : Calls Try.prog 21 #[.pointer (some ⟨q, 0, none⟩), .int .i64 n] w fun e w' => e = .returned (.int .i64 14) ∧ w = w' := by
  obtain ⟨m, v, L, h1, h2, h3, rfl⟩ := H.ex
  rcases h1.find n hw (by rw [h2.length_eq]; exact hl) with ⟨i, hi, e, -⟩ | ⟨-, hr⟩
  · exact absurd e (hn _ (h2.mem_iff.1 (at_mem hi)))
  · have c1 := h1.blk.cell 1
    clear h1 h2 h3 H hn
    go_enter Try.func21, Try.ntmps21
    go_wp2_with fail
    go_ret
    exact ⟨rfl, rfl⟩
set_option maxHeartbeats 4000000 in
theorem cancel_yes (H : QS F w q M ad) {k : Nat} (hk : k < M.length) (hw : (Lit.int .i64 (at_ M k).1).wf = true) (hl : M.length ≤ 100000) (had : ad ≤ 100000) :
    Calls Try.prog 21 #[.pointer (some ⟨q, 0, none⟩), .int .i64 (at_ M k).1] w fun e w' => e = .returned (.int .i64 0) ∧ ∃ F', QS F' w' q (M.eraseIdx k) ad ∧ Mv F F' w w' := by
  have ND := H.nodup
  have SD := Lib.hid H.sd
  have A0 := Lib.hid H.ad0
  obtain ⟨m, v, L, h1, h2, h3, rfl⟩ := H.ex
  rcases h1.find (at_ M k).1 hw (by rw [h2.length_eq]; exact hl) with ⟨i, hi, e, hr⟩ | ⟨hn, -⟩
  · have c1 := h1.blk.cell 1
    have RM := Lib.hid (remove_any h1 h3 hi (by rw [h2.length_eq]; exact hl) had)
    have EP := Lib.hid (show at_ L i = at_ M k from one_of ND (h2.mem_iff.1 (at_mem hi)) (at_mem hk) e)
    have P2 := Lib.hid (h2.trans (erase_perm hk).symm)
    clear ND h1 h2 h3 H e
    generalize (at_ M k).1 = n at *
    go_enter Try.func21, Try.ntmps21
    go_wp2_with fail
    refine RM.out.mono ?_
    rintro e w2 ⟨rfl, v', L', p, hh, hq, ho, hf⟩
    have FIN := Lib.hid (show ∃ F', QS F' w2 q (M.eraseIdx k) ad ∧ Mv (Foot q m v) F' w w2 from ⟨_, ⟨⟨m, v', L', hq, (p.trans P2.out |> fun h => by rw [EP.out] at h; exact h.cons_inv), hh, rfl⟩, erase_sd SD.out, A0.out⟩, ho, fun j hj => .inl (hf j hj)⟩)
    clear p hh hq ho hf RM
    go_wp2_with fail
    go_ret
    exact ⟨rfl, FIN.out⟩
  · exact absurd rfl (hn _ (h2.mem_iff.2 (at_mem hk)))
set_option maxHeartbeats 2000000 in
theorem get_no (H : QS F w q M ad) {n : Int} (hw : (Lit.int .i64 n).wf = true) (hl : M.length ≤ 100000) (hn : ∀ x ∈ M, x.1 ≠ n) : Calls Try.prog 23 #[.pointer (some ⟨q, 0, none⟩), .int .i64 n] w fun e w' => e = .returned (.tuple #[.int .i64 0, .string ⟨#[]⟩, .int .i64 14]) ∧ w = w' := by
  obtain ⟨m, v, L, h1, h2, h3, rfl⟩ := H.ex
  rcases h1.find n hw (by rw [h2.length_eq]; exact hl) with ⟨i, hi, e, -⟩ | ⟨-, hr⟩
  · exact absurd e (hn _ (h2.mem_iff.1 (at_mem hi)))
  · have c1 := h1.blk.cell 1
    clear h1 h2 h3 H hn
    go_enter Try.func23, Try.ntmps23
    go_wp2_with fail
    (try simp only [Exit.inBlock, Exit.then]); refine bodyPost_ret (results_tmp3 rfl _ _ _) rfl ?_
    exact ⟨rfl, rfl⟩
set_option maxHeartbeats 4000000 in
theorem get_yes (H : QS F w q M ad) {k : Nat} (hk : k < M.length) (hw : (Lit.int .i64 (at_ M k).1).wf = true) (hl : M.length ≤ 100000) :
    Calls Try.prog 23 #[.pointer (some ⟨q, 0, none⟩), .int .i64 (at_ M k).1] w fun e w' => e = .returned (.tuple #[.int .i64 (at_ M k).2.1, .string (at_ M k).2.2, .int .i64 0]) ∧ Below w.heap.size w w' := by
  have ND := H.nodup
  obtain ⟨m, v, L, h1, h2, h3, rfl⟩ := H.ex
  rcases h1.find (at_ M k).1 hw (by rw [h2.length_eq]; exact hl) with ⟨i, hi, e, hr⟩ | ⟨hn, -⟩
  · have c1 := h1.blk.cell 1
    have EP := (show at_ L i = at_ M k from one_of ND (h2.mem_iff.1 (at_mem hi)) (at_mem hk) e)
    obtain ⟨g, c, rfl, -, -, -, cel⟩ := h1.full (by omega)
    obtain ⟨x0, x1, x2⟩ := cel i hi
    have c0 := h1.blk.cell 0
    rw [EP] at x0 x1 x2
    have hlen : L.length ≤ 100000 := by rw [h2.length_eq]; exact hl
    have ti : decide (i < L.length) = true := decide_eq_true hi
    clear ND h1 h2 h3 H e cel EP
    generalize at_ M k = x at *
    obtain ⟨n, d, s⟩ := x
    dsimp only at *
    go_enter Try.func23, Try.ntmps23
    go_upto_region 5 with fail
    go_quiet (fail)
    go_wp2_with fail
    (try simp only [Exit.inBlock, Exit.then]); refine bodyPost_ret (results_tmp3 rfl _ _ _) rfl ?_
    exact ⟨rfl, base.below_drewN (Below.refl _ _) _⟩
  · exact absurd rfl (hn _ (h2.mem_iff.2 (at_mem hk)))
set_option maxHeartbeats 2000000 in
theorem move_no (H : QS F w q M ad) {n : Int} (due : Int) (hw : (Lit.int .i64 n).wf = true) (hl : M.length ≤ 100000) (hn : ∀ x ∈ M, x.1 ≠ n) : Calls Try.prog 22 #[.pointer (some ⟨q, 0, none⟩), .int .i64 n, .int .i64 due] w fun e w' => e = .returned (.int .i64 14) ∧ w = w' := by
  obtain ⟨m, v, L, h1, h2, h3, rfl⟩ := H.ex
  rcases h1.find n hw (by rw [h2.length_eq]; exact hl) with ⟨i, hi, e, -⟩ | ⟨-, hr⟩
  · exact absurd e (hn _ (h2.mem_iff.1 (at_mem hi)))
  · have c1 := h1.blk.cell 1
    clear h1 h2 h3 H hn
    go_enter Try.func22, Try.ntmps22
    go_wp2_with fail
    go_ret
    exact ⟨rfl, rfl⟩
/-- one item's time is set -/
theorem redue {g c n : Nat} (H : QAt w q m (.slice (some ⟨g, 0, none⟩) n c) L ad) {i : Nat} (hi : i < L.length) (due : Int) :
    QAt (w.setCell ⟨g, i * 3 + 1, none⟩ (.int .i64 due)) q m (.slice (some ⟨g, 0, none⟩) n c) (L.set i ((at_ L i).1, due, (at_ L i).2.2)) ad ∧ Only (Foot q m (.slice (some ⟨g, 0, none⟩) n c)) w (w.setCell ⟨g, i * 3 + 1, none⟩ (.int .i64 due)) := by
  obtain ⟨F, hF, hM⟩ := H.map
  obtain ⟨_, _, cs, hg⟩ := H.own.lt' g rfl
  have hmg : m ≠ g := MapIs.ne hF hg
  have hqg : q ≠ g := ty_ne H.blk hg (by decide)
  have ho := Own.put H.own (i := i) (j := 1) hi (by decide) (u := .int .i64 due) (x := ((at_ L i).1, due, (at_ L i).2.2)) (by rw [at_eq hi]; rfl)
  refine ⟨⟨H.blk.far hqg _, ho, ⟨F, by rw [List.length_set]; exact MapIs.far hF (p := ⟨g, _, none⟩) hmg _, hM.put hi rfl⟩, fun x hx => ?_⟩, (Only.refl _ _).setCell (.inl (.inr (.inr rfl))) _⟩
  rcases List.mem_or_eq_of_mem_set hx with h | rfl
  · exact H.nums x h
  · exact (H.nums _ (at_mem hi) :)
set_option maxRecDepth 100000 in
set_option maxHeartbeats 4000000 in
theorem move_yes (H : QS F w q M ad) {k : Nat} (due : Int) (hk : k < M.length) (hw : (Lit.int .i64 (at_ M k).1).wf = true) (hl : M.length ≤ 100000) (had : ad ≤ 100000) :
    Calls Try.prog 22 #[.pointer (some ⟨q, 0, none⟩), .int .i64 (at_ M k).1, .int .i64 due] w fun e w' => e = .returned (.int .i64 0) ∧ ∃ F', QS F' w' q (ins ((at_ M k).1, due, (at_ M k).2.2) (M.eraseIdx k)) ad ∧ Mv F F' w w' := by
  have ND := H.nodup
  have SD := Lib.hid H.sd
  have A0 := Lib.hid H.ad0
  obtain ⟨m, v, L, h1, h2, h3, rfl⟩ := H.ex
  rcases h1.find (at_ M k).1 hw (by rw [h2.length_eq]; exact hl) with ⟨i, hi, e, hr⟩ | ⟨hn, -⟩
  · have c1 := h1.blk.cell 1
    have EP := (show at_ L i = at_ M k from one_of ND (h2.mem_iff.1 (at_mem hi)) (at_mem hk) e)
    obtain ⟨g, c, rfl, -, -, fr, cel⟩ := h1.full (by omega)
    obtain ⟨x0, x1, x2⟩ := cel i hi
    have c0 := h1.blk.cell 0
    have hlen : L.length ≤ 100000 := by rw [h2.length_eq]; exact hl
    have ti : decide (i < L.length) = true := decide_eq_true hi
    obtain ⟨r1, r2⟩ := redue h1 hi due
    rw [EP] at r1
    have ST := Lib.hid (settle_any r1 (h3.put hi _) (by rw [List.length_set]; exact hlen) had)
    have O1 := Lib.hid r2
    have FIN := Lib.hid (fun (w2 : World) (L2 : List It) (p : L2.Perm (L.set i ((at_ M k).1, due, (at_ M k).2.2))) (hh : Heap L2) (hq : QAt w2 q m (.slice (some ⟨g, 0, none⟩) L.length c) L2 ad) (ho : Only (Foot q m (.slice (some ⟨g, 0, none⟩) L.length c)) (w.setCell ⟨g, i * 3 + 1, none⟩ (.int .i64 due)) w2) =>
      (show ∃ F', QS F' w2 q (ins ((at_ M k).1, due, (at_ M k).2.2) (M.eraseIdx k)) ad ∧ Mv (Foot q m (.slice (some ⟨g, 0, none⟩) L.length c)) F' w w2 from ⟨_, ⟨⟨m, _, L2, hq, by
        have e1 := set_erase ((at_ M k).1, due, (at_ M k).2.2) L i hi
        have e2 : (L.eraseIdx i).Perm (M.eraseIdx k) := by
          have := ((erase_perm hi).trans h2).trans (erase_perm hk).symm
          rw [EP] at this
          exact this.cons_inv
        exact (p.trans (e1.trans (List.Perm.cons _ e2))).trans (ins_perm _ _).symm, hh, rfl⟩, ins_sd (erase_sd SD.out) (fun y hy e => by
          have hp := (erase_perm hk).map (·.1)
          have hnd := hp.nodup_iff.2 ND
          rw [List.map_cons, List.nodup_cons] at hnd
          exact hnd.1 (List.mem_map.2 ⟨y, hy, e⟩)), A0.out⟩, O1.out.trans ho (fun _ _ h => h), fun j hj => .inl hj⟩))
    clear ND h1 h2 h3 H e cel EP r1 r2
    generalize (at_ M k).1 = n at *
    go_enter Try.func22, Try.ntmps22
    go_wp2_with fail
    refine ST.out.mono ?_
    rintro e w2 ⟨rfl, L2, p, hh, hq, ho⟩
    have FF := Lib.hid (FIN.out w2 L2 p hh hq ho)
    clear p hh hq ho FIN ST
    go_wp2_with fail
    go_ret
    exact ⟨rfl, FF.out⟩
  · exact absurd rfl (hn _ (h2.mem_iff.2 (at_mem hk)))
end Go.Proofs.Ytmfhellpdpfoaaa.qu
