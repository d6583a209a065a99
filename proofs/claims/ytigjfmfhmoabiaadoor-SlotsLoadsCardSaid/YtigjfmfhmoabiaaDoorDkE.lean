/-
  Contracts of package disk: Crash (written by tools/dke.py).
-/
import Derived.Test.YtigjfmfhmoabiaaDoorDkD
namespace Go.Proofs.YtigjfmfhmoabiaaDoor.dk
open Go.RowKit
open base (ret_bool ret_int made up Blk Only)
open mk
open rk (Enc)
open bytes (Small small_app small_take small_drop By)
set_option linter.unusedVariables false
set_option linter.unusedSimpArgs false
variable {U : Nat → Prop} {w w' : World} {B g s m c : Nat} {d : DD}

def E1 : Enc Int := ⟨fun d => [.int .i64 d], 1, by decide, fun _ => rfl, by
  intro x v hv
  simp at hv
  subst hv
  rfl⟩
theorem lay1 {w : World} {A : Option Addr} {L : List Int} (h : rk.Lay E1 w A L) {k : Nat} (hk : k < L.length) : ∃ b off, A = some ⟨b, off, none⟩ ∧ w.cell? ⟨b, off + k, none⟩ = some (.int .i64 L[k]) := by
  obtain ⟨b, off, e, _, hc⟩ := h (by omega)
  refine ⟨b, off, e, ?_⟩
  have := hc k hk 0 (by decide)
  rw [show off + k * E1.k + 0 = off + k by show off + k * 1 + 0 = _; omega] at this
  exact this
def DD.one (d : DD) (i : Int) : DD := match d.cache i with | some b => d.put i b | none => d
def DD.kept (d : DD) (L : List Int) : DD := L.foldl DD.one d
theorem kept_snoc (d : DD) (L : List Int) {k : Nat} (hk : k < L.length) : d.kept (L.take (k + 1)) = (d.kept (L.take k)).one L[k] := by
  unfold DD.kept
  rw [List.take_succ_eq_append_getElem hk, List.foldl_append]
  rfl
def mix (k : Nat) (a b : List Nat) : List Nat := a.take k ++ b.drop k
def DD.cut (d : DD) (z : Int) : Nat := (min (max z 0) d.size).toNat
def DD.torn (d : DD) (t z : Int) : DD := match d.cache t with | some b => d.put t (mix (d.cut z) b (d.sec t)) | none => d
def DD.fresh (d : DD) : DD := { d with cache := fun _ => none, left := -1, down := false }
def DD.crash (d : DD) (L : List Int) (t z : Int) : DD := ((d.torn t z).kept L).fresh
theorem one_cache (d : DD) (i : Int) : (d.one i).cache = d.cache ∧ (d.one i).n = d.n ∧ (d.one i).size = d.size ∧ (d.one i).done = d.done := by
  unfold DD.one
  split <;> exact ⟨rfl, rfl, rfl, rfl⟩
theorem kept_cache : ∀ (L : List Int) (d : DD), (d.kept L).cache = d.cache ∧ (d.kept L).n = d.n ∧ (d.kept L).size = d.size ∧ (d.kept L).done = d.done
  | [], d => ⟨rfl, rfl, rfl, rfl⟩
  | i :: L, d => by
    obtain ⟨a1, a2, a3, a4⟩ := one_cache d i
    obtain ⟨b1, b2, b3, b4⟩ := kept_cache L (d.one i)
    exact ⟨b1.trans a1, b2.trans a2, b3.trans a3, b4.trans a4⟩
theorem one_sec (d : DD) (i j : Int) : (d.one i).sec j = if j = i then (d.cache j).getD (d.sec j) else d.sec j := by
  unfold DD.one
  cases q : d.cache i with
  | none =>
    show d.sec j = _
    by_cases e : j = i
    · subst e; rw [if_pos rfl, q]; rfl
    · rw [if_neg e]
  | some b =>
    show pt d.sec i b j = _
    by_cases e : j = i
    · subst e; rw [if_pos rfl, pt_same, q]; rfl
    · rw [if_neg e, pt_other _ _ e]
theorem kept_sec : ∀ (L : List Int) (d : DD) (j : Int), (d.kept L).sec j = if j ∈ L then (d.cache j).getD (d.sec j) else d.sec j
  | [], d, j => by rw [if_neg (by simp)]; rfl
  | i :: L, d, j => by
    show ((d.one i).kept L).sec j = _
    rw [kept_sec L (d.one i) j, (one_cache d i).1, one_sec]
    by_cases e : j = i
    · subst e
      rw [if_pos rfl, if_pos (show j ∈ j :: L by simp)]
      split
      · cases d.cache j <;> rfl
      · rfl
    · rw [if_neg e]
      by_cases q : j ∈ L
      · rw [if_pos q, if_pos (by simp [q])]
      · rw [if_neg q, if_neg (by simp [q, e])]
theorem mix_len {k n : Nat} {a b : List Nat} (ha : a.length = n) (hb : b.length = n) (hk : k ≤ n) : (mix k a b).length = n := by
  unfold mix
  rw [List.length_append, List.length_take, List.length_drop]
  omega
theorem drop_lay {w : World} {b o c k : Nat} {l : List Nat} (h : bytes.Lay w (some ⟨b, o, none⟩) l) (hc : l.length ≤ c) : bytes.Lay w (if c = k then some ⟨b, o, none⟩ else some ⟨b, o + k, none⟩) (l.drop k) := by
  split
  · rw [List.drop_of_length_le (by omega)]
    exact bytes.Lay.nil _ _
  · have := h.part k (l.length - k)
    rwa [List.take_of_length_le (by simp)] at this
def CrashP (U : Nat → Prop) (B g s m : Nat) (d : DD) (L : List Int) (t z : Int) (w : World) (e : Ending) (w' : World) : Prop := e = .returned (.tuple #[]) ∧ (∃ c', DU U w' B g s m (d.crash L t z) c' ∧ c' ≤ 0) ∧ Chg g s m w w'
set_option maxRecDepth 100000 in
set_option maxHeartbeats 16000000 in
theorem crash_any (H : DU U w B g s m d c) (A : Option Addr) (ck : Nat) (L : List Int) (t z : Int) (hA : rk.Lay E1 w A L) (hAB : ∀ ad, A = some ad → 0 < L.length → ad.block < B) (hL : L.length ≤ 100000) (hwL : ∀ x ∈ L, (Lit.int .i64 x).wf = true) (ht : (Lit.int .i64 t).wf = true) :
    Calls Tryd.prog 19 #[.pointer (some ⟨g, 0, none⟩), .agg #[.slice A L.length ck, .int .i64 t, .int .i64 z]] w (CrashP U B g s m d L t z w) := by
  have LK := Lib.hid (fun W (hc : Chg g s m w W) => show rk.Lay E1 W A L from fun h0 => (hA.keep (fun b hlt ⟨off, e⟩ => hc.block b hlt (fun q => by
    have := hAB _ e h0
    have q1 := H.gb
    have q2 := H.sb
    have q3 := H.mb
    rcases q with q | q | q <;> (simp only at this; omega)))) h0)
  have WF := Lib.hid hwL
  have b1 := made w (.cells #[.slice A L.length ck, .int .i64 t, .int .i64 z] 49)
  have k1 := Blk.new w 49 #[.slice A L.length ck, .int .i64 t, .int .i64 z]
  have h1 := H.below b1
  have GS := Lib.hid H.gd.size
  have GD := Lib.hid H.gd
  have hd4 := (Below.refl (w.alloc (.cells #[.slice A L.length ck, .int .i64 t, .int .i64 z] 49)).heap.size (w.alloc (.cells #[.slice A L.length ck, .int .i64 t, .int .i64 z] 49))).drew
  have D4 := Lib.hid (Chg.of_below (g := g) (s := s) (m := m) (up b1 hd4 b1.size))
  have LB := Lib.hid (k1.below hd4 k1.lt)
  have h4 := h1.below hd4
  clear hA hAB hwL H h1 k1 b1 hd4
  go_enter Tryd.func19, Tryd.ntmps19
  go_upto_region 1 with fail
  generalize (w.alloc (.cells #[.slice A L.length ck, .int .i64 t, .int .i64 z] 49)) = w1 at *
  generalize w.heap.size = lb at *
  obtain ⟨kk, hkk, hkk2, g0, g1, g2, g3, g4, g5, fr⟩ := h4.six
  have l1 := LB.out.cell 1
  rcases h4.look ht with ⟨q, lk⟩ | ⟨l, b, off, cc, q, lk, hs, hc1, hc2⟩
  · have CR := Lib.hid (show d.crash L t z = (d.kept L).fresh by unfold DD.crash DD.torn; rw [q])
    refine wp_region_held_drew (S := fun W => W.cell? ⟨g, 2, none⟩ = some (.map (some m)) ∧ W.cell? ⟨lb, 1, none⟩ = some (.int .i64 t) ∧ (Instr.lookup 75 (.map (some m)) (.int .i64 t) true).run Tryd.prog W = .ok (.tuple #[.slice none 0 0, .bool false]) W) (by kernel_rfl) ⟨g2, l1, lk⟩ (fun hHeld => ?_)
    have H7 := Lib.hid h4
    have C7 := D4
    clear h4 fr lk q g0 g1 g2 g3 g4 g5 l1 hkk hkk2
    generalize w1.drew = w4 at *
    refine wpAnyH_take (i := 0) (v := ?_) rfl (by kernel_rfl) (by kernel_rfl) (by kernel_rfl) (fun _ _ _ h => h) (Or.inl ⟨by rfl, ?_⟩) (by assumption) ?_
    rotate_left
    · (intro w hSw; (try dsimp only at hSw); first | (go_simp; done) | (go_simp; with_reducible rfl))
    simp only [Act.put, List.getElem_toArray, List.getElem_cons_zero, List.getElem_cons_succ, List.setIfInBounds_toArray, List.set_cons_zero, List.set_cons_succ]
    refine wpAnyH_take (i := 1) (v := ?_) rfl (by kernel_rfl) (by kernel_rfl) (by kernel_rfl) (fun _ _ _ h => h) (Or.inl ⟨by rfl, ?_⟩) (by assumption) ?_
    rotate_left
    · (intro w hSw; (try dsimp only at hSw); first | (go_simp; done) | (go_simp; with_reducible rfl))
    simp only [Act.put, List.getElem_toArray, List.getElem_cons_zero, List.getElem_cons_succ, List.setIfInBounds_toArray, List.set_cons_zero, List.set_cons_succ]
    refine wpAnyH_take (i := 2) (v := ?_) rfl (by kernel_rfl) (by kernel_rfl) (by kernel_rfl) (fun _ _ _ h => h) (Or.inl ⟨by rfl, ?_⟩) (by assumption) ?_
    rotate_left
    · (intro w hSw; (try dsimp only at hSw); first | (go_simp; done) | (go_simp; with_reducible rfl))
    simp only [Act.put, List.getElem_toArray, List.getElem_cons_zero, List.getElem_cons_succ, List.setIfInBounds_toArray, List.set_cons_zero, List.set_cons_succ]
    refine wpAnyH_take (i := 3) (v := ?_) rfl (by kernel_rfl) (by kernel_rfl) (by kernel_rfl) (fun _ _ _ h => h) (Or.inl ⟨by rfl, ?_⟩) (by assumption) ?_
    rotate_left
    · (intro w hSw; (try dsimp only at hSw); first | (go_simp; done) | (go_simp; with_reducible rfl))
    simp only [Act.put, List.getElem_toArray, List.getElem_cons_zero, List.getElem_cons_succ, List.setIfInBounds_toArray, List.set_cons_zero, List.set_cons_succ]
    refine wpAnyH_take (i := 4) (v := ?_) rfl (by kernel_rfl) (by kernel_rfl) (by kernel_rfl) (fun _ _ _ h => h) (Or.inl ⟨by rfl, ?_⟩) (by assumption) ?_
    rotate_left
    · (intro w hSw; (try dsimp only at hSw); first | (go_simp; done) | (go_simp; with_reducible rfl))
    simp only [Act.put, List.getElem_toArray, List.getElem_cons_zero, List.getElem_cons_succ, List.setIfInBounds_toArray, List.set_cons_zero, List.set_cons_succ]
    refine wpAnyH_take (i := 5) (v := ?_) rfl (by kernel_rfl) (by kernel_rfl) (by kernel_rfl) (fun _ _ _ h => h) (Or.inl ⟨by rfl, ?_⟩) (by assumption) ?_
    rotate_left
    · (intro w hSw; (try dsimp only at hSw); first | (go_simp; done) | (go_simp; with_reducible rfl))
    simp only [Act.put, List.getElem_toArray, List.getElem_cons_zero, List.getElem_cons_succ, List.setIfInBounds_toArray, List.set_cons_zero, List.set_cons_succ]
    refine wpAnyH_take (i := 6) (v := ?_) rfl (by kernel_rfl) (by kernel_rfl) (by kernel_rfl) (fun _ _ _ h => h) (Or.inl ⟨by rfl, ?_⟩) (by assumption) ?_
    rotate_left
    · (intro w hSw; (try dsimp only at hSw); first | (go_simp; done) | (go_simp; with_reducible rfl))
    simp only [Act.put, List.getElem_toArray, List.getElem_cons_zero, List.getElem_cons_succ, List.setIfInBounds_toArray, List.set_cons_zero, List.set_cons_succ]
    refine wpAnyH_take (i := 7) (v := ?_) rfl (by kernel_rfl) (by kernel_rfl) (by kernel_rfl) (fun _ _ _ h => h) (Or.inl ⟨by rfl, ?_⟩) (by assumption) ?_
    rotate_left
    · (intro w hSw; (try dsimp only at hSw); first | (go_simp; done) | (go_simp; with_reducible rfl))
    simp only [Act.put, List.getElem_toArray, List.getElem_cons_zero, List.getElem_cons_succ, List.setIfInBounds_toArray, List.set_cons_zero, List.set_cons_succ]
    refine wpAnyH_take (i := 8) (v := ?_) rfl (by kernel_rfl) (by kernel_rfl) (by kernel_rfl) (fun _ _ _ h => h) (Or.inl ⟨by rfl, ?_⟩) (by assumption) ?_
    rotate_left
    · (intro w hSw; (try dsimp only at hSw); first | (go_simp; done) | (go_simp; with_reducible rfl))
    simp only [Act.put, List.getElem_toArray, List.getElem_cons_zero, List.getElem_cons_succ, List.setIfInBounds_toArray, List.set_cons_zero, List.set_cons_succ]
    refine wpAnyH_take (i := 9) (v := ?_) rfl (by kernel_rfl) (by kernel_rfl) (by kernel_rfl) (fun _ _ _ h => h) (Or.inl ⟨by rfl, ?_⟩) (by assumption) ?_
    rotate_left
    · (intro w hSw; (try dsimp only at hSw); first | (go_simp; done) | (go_simp; with_reducible rfl))
    simp only [Act.put, List.getElem_toArray, List.getElem_cons_zero, List.getElem_cons_succ, List.setIfInBounds_toArray, List.set_cons_zero, List.set_cons_succ]
    refine wpAnyH_take (i := 10) (v := ?_) rfl (by kernel_rfl) (by kernel_rfl) (by kernel_rfl) (fun _ _ _ h => h) (Or.inl ⟨by rfl, ?_⟩) (by assumption) ?_
    rotate_left
    · (intro w hSw; (try dsimp only at hSw); first | (go_simp; done) | (go_simp; with_reducible rfl))
    simp only [Act.put, List.getElem_toArray, List.getElem_cons_zero, List.getElem_cons_succ, List.setIfInBounds_toArray, List.set_cons_zero, List.set_cons_succ]
    refine wpAnyH_take (i := 11) (v := ?_) rfl (by kernel_rfl) (by kernel_rfl) (by kernel_rfl) (fun _ _ _ h => h) (Or.inl ⟨by rfl, ?_⟩) (by assumption) ?_
    rotate_left
    · (intro w hSw; (try dsimp only at hSw); first | (go_simp; done) | (go_simp; with_reducible rfl))
    simp only [Act.put, List.getElem_toArray, List.getElem_cons_zero, List.getElem_cons_succ, List.setIfInBounds_toArray, List.set_cons_zero, List.set_cons_succ]
    refine wpAnyH_done (by kernel_rfl) ?_ _
    clear hHeld D4
    have C0 := LB.out.cell 0
    clear LB
    go_wp2_with fail
    go_loopw [55] (fun i wr => ∃ (k : Nat) (W : World), W = wr ∧ k ≤ L.length ∧ i = .int .i64 k ∧ DU U wr B g s m (d.kept (L.take k)) c ∧ Chg g s m w wr) (fun i _ => L.length - (intOf i).toNat)
    case atStart => exact ⟨0, _, rfl, by omega, rfl, H7.out, C7.out⟩
    case round =>
    clear H7 C7 C0
    obtain ⟨k, w8, rfl, hk, rfl, h8, c8⟩ := hrel
    have H8 := Lib.hid h8
    have C8 := Lib.hid c8
    obtain ⟨kc, -, -, -, d1c, d2c, -, -, -, fr⟩ := h8.six
    by_cases hkl : k < L.length
    · have TK := Lib.hid (kept_snoc d L hkl)
      obtain ⟨bb, off, rfl, e0⟩ := lay1 (LK.out _ c8) hkl
      have hwf := WF.out L[k] (List.getElem_mem hkl)
      generalize L[k] = x at *
      rcases h8.look hwf with ⟨q, lk⟩ | ⟨l, b, o2, cc, q, lk, hs, -, -⟩
      · have O1 := Lib.hid (show (d.kept (L.take k)).one x = d.kept (L.take k) by unfold DD.one; rw [q])
        clear h8 c8 fr q hwf
        go_wp2_with fail
        refine ⟨⟨k + 1, _, rfl, by omega, by go_num, by rw [TK.out, O1.out]; exact H8.out, C8.out⟩, by simp [intOf]; omega⟩
      · have O1 := Lib.hid (show (d.kept (L.take k)).one x = (d.kept (L.take k)).put x l by unfold DD.one; rw [q])
        obtain ⟨x0, x1, x2⟩ := h8.gd.cac x l q
        obtain ⟨j, rfl⟩ := Int.eq_ofNat_of_zero_le x0
        have hj : j < (d.kept (L.take k)).n := by omega
        have S9 := Lib.hid (h8.set hj hs x2)
        obtain ⟨bz, oz, cz, cl, -⟩ := h8.at_ hj
        obtain ⟨csz, kz⟩ := h8.sblk
        have fz := kz.free j
        clear h8 c8 fr q hwf hs x0 x1 x2 kz
        generalize (d.kept (L.take k)).n = nn at *
        generalize l.length = ll at *
        go_wp2_with fail
        refine ⟨⟨k + 1, _, rfl, by omega, by go_num, by rw [TK.out, O1.out]; exact S9.out, Only.setCell C8.out (.inl (.inr (.inl rfl))) _⟩, by simp [intOf]; omega⟩
    · obtain rfl : k = L.length := by omega
      rw [List.take_length] at H8 h8
      obtain ⟨w9, r9, h9, o9⟩ := h8.mclear
      have H9 := Lib.hid h9
      have O9 := Lib.hid o9
      obtain ⟨kc9, -, -, -, -, -, c93, -, c95, fr9⟩ := h9.six
      have f93 := fr9 3
      have f95 := fr9 5
      have A1 := h9.gset 3 (.int .i64 (-1)) (d' := { d.kept L |>.bare with left := -1 }) (fun k => rfl) rfl rfl rfl ⟨h9.gd.size, h9.gd.n, h9.gd.sec, h9.gd.cac, by show -1 ≤ (-1 : Int) ∧ (-1 : Int) ≤ 9223372036854775807; omega⟩
      have A2 := Lib.hid (A1.gset 5 (.bool false) (d' := (d.kept L).fresh) (fun k => rfl) rfl rfl rfl ⟨A1.gd.size, A1.gd.n, A1.gd.sec, A1.gd.cac, A1.gd.left⟩)
      clear h8 c8 h9 o9 fr fr9 A1 d1c
      go_wp2_with fail
      go_end0
      exact ⟨rfl, by rw [CR.out]; exact ⟨0, A2.out, by omega⟩, Only.setCell (Only.setCell (Chg.trans C8.out (O9.out.mono (fun _ _ q => Or.inr (Or.inr q)))) (.inl (.inl rfl)) _) (.inl (.inl rfl)) _⟩
  · have CR := Lib.hid (show d.crash L t z = ((d.put t (mix (d.cut z) l (d.sec t))).kept L).fresh by unfold DD.crash DD.torn; rw [q])
    have H4 := Lib.hid h4
    obtain ⟨t0, t1, hll⟩ := h4.gd.cac t l q
    obtain ⟨j, rfl⟩ := Int.eq_ofNat_of_zero_le t0
    have hj : j < d.n := by omega
    obtain ⟨bz, oz, cz, cl, hsz, hz1, hz2⟩ := h4.at_ hj
    have hlz := h4.gd.sec j (Nat.zero_le _) hj
    rw [hll] at lk hs hc1
    rw [hlz] at cl hsz hz1
    refine wp_region_held_drew (S := fun W => W.cell? ⟨g, 2, none⟩ = some (.map (some m)) ∧ W.cell? ⟨lb, 1, none⟩ = some (.int .i64 (j : Nat)) ∧ (Instr.lookup 75 (.map (some m)) (.int .i64 (j : Nat)) true).run Tryd.prog W = .ok (.tuple #[.slice (some ⟨b, off, none⟩) d.size cc, .bool true]) W) (by kernel_rfl) ⟨g2, l1, lk⟩ (fun hHeld => ?_)
    have hcut : min (max z 0) (d.size : Int) = (d.cut z : Nat) := by unfold DD.cut; omega
    have hcle : d.cut z ≤ d.size := by unfold DD.cut; omega
    have hkc : d.cut z ≤ cc := by omega
    have XL := Lib.hid (fun W (h : bytes.Lay W (some ⟨bz, oz, none⟩) (d.sec j)) => show bytes.Lay W (if cz = d.cut z then some ⟨bz, oz, none⟩ else some ⟨bz, oz + d.cut z, none⟩) ((d.sec j).drop (d.cut z)) from drop_lay h (by omega))
    have L1 := Lib.hid (hs.lay)
    have L2 := Lib.hid (hsz.lay)
    have SM := Lib.hid (show Small (mix (d.cut z) l (d.sec j)) from small_app (small_take hs.small _) (small_drop hsz.small _))
    have TL := Lib.hid (show (l.take (d.cut z)).length = d.cut z by rw [List.length_take]; omega)
    have DL := Lib.hid (show ((d.sec j).drop (d.cut z)).length = d.size - d.cut z by rw [List.length_drop]; omega)
    have SZ := Lib.hid h4.gd.size
    have MX := Lib.hid (mix_len (k := d.cut z) hll hlz hcle)
    have HL := Lib.hid hll
    have HZ := Lib.hid hlz
    have l2 := LB.out.cell 2
    have cl' := cl
    generalize hq : d.size = sz at *
    have ZS := Lib.hid hq
    clear hq
    generalize d.cut z = kz at *
    clear lk q t0 t1 hll hlz
    generalize w1.drew = w4 at *
    refine wpAnyH_take (i := 0) (v := ?_) rfl (by kernel_rfl) (by kernel_rfl) (by kernel_rfl) (fun _ _ _ h => h) (Or.inl ⟨by rfl, ?_⟩) (by assumption) ?_
    rotate_left
    · (intro w hSw; (try dsimp only at hSw); first | (go_simp; done) | (go_simp; with_reducible rfl))
    simp only [Act.put, List.getElem_toArray, List.getElem_cons_zero, List.getElem_cons_succ, List.setIfInBounds_toArray, List.set_cons_zero, List.set_cons_succ]
    refine wpAnyH_take (i := 1) (v := ?_) rfl (by kernel_rfl) (by kernel_rfl) (by kernel_rfl) (fun _ _ _ h => h) (Or.inl ⟨by rfl, ?_⟩) (by assumption) ?_
    rotate_left
    · (intro w hSw; (try dsimp only at hSw); first | (go_simp; done) | (go_simp; with_reducible rfl))
    simp only [Act.put, List.getElem_toArray, List.getElem_cons_zero, List.getElem_cons_succ, List.setIfInBounds_toArray, List.set_cons_zero, List.set_cons_succ]
    refine wpAnyH_take (i := 2) (v := ?_) rfl (by kernel_rfl) (by kernel_rfl) (by kernel_rfl) (fun _ _ _ h => h) (Or.inl ⟨by rfl, ?_⟩) (by assumption) ?_
    rotate_left
    · (intro w hSw; (try dsimp only at hSw); first | (go_simp; done) | (go_simp; with_reducible rfl))
    simp only [Act.put, List.getElem_toArray, List.getElem_cons_zero, List.getElem_cons_succ, List.setIfInBounds_toArray, List.set_cons_zero, List.set_cons_succ]
    refine wpAnyH_take (i := 3) (v := ?_) rfl (by kernel_rfl) (by kernel_rfl) (by kernel_rfl) (fun _ _ _ h => h) (Or.inl ⟨by rfl, ?_⟩) (by assumption) ?_
    rotate_left
    · (intro w hSw; (try dsimp only at hSw); first | (go_simp; done) | (go_simp; with_reducible rfl))
    simp only [Act.put, List.getElem_toArray, List.getElem_cons_zero, List.getElem_cons_succ, List.setIfInBounds_toArray, List.set_cons_zero, List.set_cons_succ]
    refine wpAnyH_take (i := 4) (v := ?_) rfl (by kernel_rfl) (by kernel_rfl) (by kernel_rfl) (fun _ _ _ h => h) (Or.inl ⟨by rfl, ?_⟩) (by assumption) ?_
    rotate_left
    · (intro w hSw; (try dsimp only at hSw); first | (go_simp; done) | (go_simp; with_reducible rfl))
    simp only [Act.put, List.getElem_toArray, List.getElem_cons_zero, List.getElem_cons_succ, List.setIfInBounds_toArray, List.set_cons_zero, List.set_cons_succ]
    refine wpAnyH_take (i := 5) (v := ?_) rfl (by kernel_rfl) (by kernel_rfl) (by kernel_rfl) (fun _ _ _ h => h) (Or.inl ⟨by rfl, ?_⟩) (by assumption) ?_
    rotate_left
    · (intro w hSw; (try dsimp only at hSw); first | (go_simp; done) | (go_simp; with_reducible rfl))
    simp only [Act.put, List.getElem_toArray, List.getElem_cons_zero, List.getElem_cons_succ, List.setIfInBounds_toArray, List.set_cons_zero, List.set_cons_succ]
    refine wpAnyH_take (i := 6) (v := ?_) rfl (by kernel_rfl) (by kernel_rfl) (by kernel_rfl) (fun _ _ _ h => h) (Or.inl ⟨by rfl, ?_⟩) (by assumption) ?_
    rotate_left
    · (intro w hSw; (try dsimp only at hSw); first | (go_simp; done) | (go_simp; with_reducible rfl))
    simp only [Act.put, List.getElem_toArray, List.getElem_cons_zero, List.getElem_cons_succ, List.setIfInBounds_toArray, List.set_cons_zero, List.set_cons_succ]
    refine wpAnyH_take (i := 7) (v := ?_) rfl (by kernel_rfl) (by kernel_rfl) (by kernel_rfl) (fun _ _ _ h => h) (Or.inl ⟨by rfl, ?_⟩) (by assumption) ?_
    rotate_left
    · (intro w hSw; (try dsimp only at hSw); first | (go_simp; done) | (go_simp; with_reducible rfl))
    simp only [Act.put, List.getElem_toArray, List.getElem_cons_zero, List.getElem_cons_succ, List.setIfInBounds_toArray, List.set_cons_zero, List.set_cons_succ]
    refine wpAnyH_take (i := 8) (v := ?_) rfl (by kernel_rfl) (by kernel_rfl) (by kernel_rfl) (fun _ _ _ h => h) (Or.inl ⟨by rfl, ?_⟩) (by assumption) ?_
    rotate_left
    · (intro w hSw; (try dsimp only at hSw); first | (go_simp; done) | (go_simp; with_reducible rfl))
    simp only [Act.put, List.getElem_toArray, List.getElem_cons_zero, List.getElem_cons_succ, List.setIfInBounds_toArray, List.set_cons_zero, List.set_cons_succ]
    refine wpAnyH_take (i := 9) (v := ?_) rfl (by kernel_rfl) (by kernel_rfl) (by kernel_rfl) (fun _ _ _ h => h) (Or.inl ⟨by rfl, ?_⟩) (by assumption) ?_
    rotate_left
    · (intro w hSw; (try dsimp only at hSw); first | (go_simp; done) | (go_simp; with_reducible rfl))
    simp only [Act.put, List.getElem_toArray, List.getElem_cons_zero, List.getElem_cons_succ, List.setIfInBounds_toArray, List.set_cons_zero, List.set_cons_succ]
    refine wpAnyH_take (i := 10) (v := ?_) rfl (by kernel_rfl) (by kernel_rfl) (by kernel_rfl) (fun _ _ _ h => h) (Or.inl ⟨by rfl, ?_⟩) (by assumption) ?_
    rotate_left
    · (intro w hSw; (try dsimp only at hSw); first | (go_simp; done) | (go_simp; with_reducible rfl))
    simp only [Act.put, List.getElem_toArray, List.getElem_cons_zero, List.getElem_cons_succ, List.setIfInBounds_toArray, List.set_cons_zero, List.set_cons_succ]
    refine wpAnyH_take (i := 11) (v := ?_) rfl (by kernel_rfl) (by kernel_rfl) (by kernel_rfl) (fun _ _ _ h => h) (Or.inl ⟨by rfl, ?_⟩) (by assumption) ?_
    rotate_left
    · (intro w hSw; (try dsimp only at hSw); first | (go_simp; done) | (go_simp; with_reducible rfl))
    simp only [Act.put, List.getElem_toArray, List.getElem_cons_zero, List.getElem_cons_succ, List.setIfInBounds_toArray, List.set_cons_zero, List.set_cons_succ]
    refine wpAnyH_done (by kernel_rfl) ?_ _
    clear hHeld
    go_upto_region 3 with fail
    refine wp_region_held_drew (S := fun W => W.cell? ⟨g, 0, none⟩ = some (.int .i64 sz) ∧ W.cell? ⟨lb, 2, none⟩ = some (.int .i64 z)) (by kernel_rfl) ⟨g0, l2⟩ (fun hHeld => ?_)
    refine wpAnyH_take (i := 0) (v := ?_) rfl (by kernel_rfl) (by kernel_rfl) (by kernel_rfl) (fun _ _ _ h => h) (Or.inl ⟨by rfl, ?_⟩) (by assumption) ?_
    rotate_left
    · (intro w hSw; (try dsimp only at hSw); first | (go_simp; done) | (go_simp; with_reducible rfl))
    simp only [Act.put, List.getElem_toArray, List.getElem_cons_zero, List.getElem_cons_succ, List.setIfInBounds_toArray, List.set_cons_zero, List.set_cons_succ]
    refine wpAnyH_take (i := 1) (v := ?_) rfl (by kernel_rfl) (by kernel_rfl) (by kernel_rfl) (fun _ _ _ h => h) (Or.inl ⟨by rfl, ?_⟩) (by assumption) ?_
    rotate_left
    · (intro w hSw; (try dsimp only at hSw); first | (go_simp; done) | (go_simp; with_reducible rfl))
    simp only [Act.put, List.getElem_toArray, List.getElem_cons_zero, List.getElem_cons_succ, List.setIfInBounds_toArray, List.set_cons_zero, List.set_cons_succ]
    refine wpAnyH_take (i := 2) (v := ?_) rfl (by kernel_rfl) (by kernel_rfl) (by kernel_rfl) (fun _ _ _ h => h) (Or.inl ⟨by rfl, ?_⟩) (by assumption) ?_
    rotate_left
    · (intro w hSw; (try dsimp only at hSw); first | (go_simp; done) | (go_simp; with_reducible rfl))
    simp only [Act.put, List.getElem_toArray, List.getElem_cons_zero, List.getElem_cons_succ, List.setIfInBounds_toArray, List.set_cons_zero, List.set_cons_succ]
    refine wpAnyH_take (i := 3) (v := ?_) rfl (by kernel_rfl) (by kernel_rfl) (by kernel_rfl) (fun _ _ _ h => h) (Or.inl ⟨by rfl, ?_⟩) (by assumption) ?_
    rotate_left
    · (intro w hSw; (try dsimp only at hSw); first | (go_simp; done) | (go_simp; with_reducible rfl))
    simp only [Act.put, List.getElem_toArray, List.getElem_cons_zero, List.getElem_cons_succ, List.setIfInBounds_toArray, List.set_cons_zero, List.set_cons_succ]
    refine wpAnyH_take (i := 4) (v := ?_) rfl (by kernel_rfl) (by kernel_rfl) (by kernel_rfl) (fun _ _ _ h => h) (Or.inl ⟨by rfl, ?_⟩) (by assumption) ?_
    rotate_left
    · (intro w hSw; (try dsimp only at hSw); first | (go_simp; done) | (go_simp; with_reducible rfl))
    simp only [Act.put, List.getElem_toArray, List.getElem_cons_zero, List.getElem_cons_succ, List.setIfInBounds_toArray, List.set_cons_zero, List.set_cons_succ]
    refine wpAnyH_take (i := 5) (v := ?_) rfl (by kernel_rfl) (by kernel_rfl) (by kernel_rfl) (fun _ _ _ h => h) (Or.inl ⟨by rfl, ?_⟩) (by assumption) ?_
    rotate_left
    · (intro w hSw; (try dsimp only at hSw); first | (go_simp; done) | (go_simp; with_reducible rfl))
    simp only [Act.put, List.getElem_toArray, List.getElem_cons_zero, List.getElem_cons_succ, List.setIfInBounds_toArray, List.set_cons_zero, List.set_cons_succ]
    refine wpAnyH_take (i := 6) (v := ?_) rfl (by kernel_rfl) (by kernel_rfl) (by kernel_rfl) (fun _ _ _ h => h) (Or.inl ⟨by rfl, ?_⟩) (by assumption) ?_
    rotate_left
    · (intro w hSw; (try dsimp only at hSw); first | (go_simp; done) | (go_simp; with_reducible rfl))
    simp only [Act.put, List.getElem_toArray, List.getElem_cons_zero, List.getElem_cons_succ, List.setIfInBounds_toArray, List.set_cons_zero, List.set_cons_succ]
    refine wpAnyH_take (i := 7) (v := ?_) rfl (by kernel_rfl) (by kernel_rfl) (by kernel_rfl) (fun _ _ _ h => h) (Or.inl ⟨by rfl, ?_⟩) (by assumption) ?_
    rotate_left
    · (intro w hSw; (try dsimp only at hSw); first | (go_simp; done) | (go_simp; with_reducible rfl))
    simp only [Act.put, List.getElem_toArray, List.getElem_cons_zero, List.getElem_cons_succ, List.setIfInBounds_toArray, List.set_cons_zero, List.set_cons_succ]
    refine wpAnyH_take (i := 8) (v := ?_) rfl (by kernel_rfl) (by kernel_rfl) (by kernel_rfl) (fun _ _ _ h => h) (Or.inl ⟨by rfl, ?_⟩) (by assumption) ?_
    rotate_left
    · (intro w hSw; (try dsimp only at hSw); first | (go_simp; done) | (go_simp; with_reducible rfl))
    simp only [Act.put, List.getElem_toArray, List.getElem_cons_zero, List.getElem_cons_succ, List.setIfInBounds_toArray, List.set_cons_zero, List.set_cons_succ]
    refine wpAnyH_done (by kernel_rfl) ?_ _
    clear hHeld
    clear hcut
    go_upto_region 4 with fail
    refine wp_region_held_drew (S := fun W => W.cell? ⟨g, 1, none⟩ = some (.slice (some ⟨s, 0, none⟩) d.n kk) ∧ W.cell? ⟨lb, 1, none⟩ = some (.int .i64 (j : Nat))) (by kernel_rfl) ⟨g1, l1⟩ (fun hHeld => ?_)
    refine wpAnyH_take (i := 0) (v := ?_) rfl (by kernel_rfl) (by kernel_rfl) (by kernel_rfl) (fun _ _ _ h => h) (Or.inl ⟨by rfl, ?_⟩) (by assumption) ?_
    rotate_left
    · (intro w hSw; (try dsimp only at hSw); first | (go_simp; done) | (go_simp; with_reducible rfl))
    simp only [Act.put, List.getElem_toArray, List.getElem_cons_zero, List.getElem_cons_succ, List.setIfInBounds_toArray, List.set_cons_zero, List.set_cons_succ]
    refine wpAnyH_take (i := 1) (v := ?_) rfl (by kernel_rfl) (by kernel_rfl) (by kernel_rfl) (fun _ _ _ h => h) (Or.inl ⟨by rfl, ?_⟩) (by assumption) ?_
    rotate_left
    · (intro w hSw; (try dsimp only at hSw); first | (go_simp; done) | (go_simp; with_reducible rfl))
    simp only [Act.put, List.getElem_toArray, List.getElem_cons_zero, List.getElem_cons_succ, List.setIfInBounds_toArray, List.set_cons_zero, List.set_cons_succ]
    refine wpAnyH_take (i := 2) (v := ?_) rfl (by kernel_rfl) (by kernel_rfl) (by kernel_rfl) (fun _ _ _ h => h) (Or.inl ⟨by rfl, ?_⟩) (by assumption) ?_
    rotate_left
    · (intro w hSw; (try dsimp only at hSw); first | (go_simp; done) | (go_simp; with_reducible rfl))
    simp only [Act.put, List.getElem_toArray, List.getElem_cons_zero, List.getElem_cons_succ, List.setIfInBounds_toArray, List.set_cons_zero, List.set_cons_succ]
    refine wpAnyH_take (i := 3) (v := ?_) rfl (by kernel_rfl) (by kernel_rfl) (by kernel_rfl) (fun _ _ _ h => h) (Or.inl ⟨by rfl, ?_⟩) (by assumption) ?_
    rotate_left
    · (intro w hSw; (try dsimp only at hSw); first | (go_simp; done) | (go_simp; with_reducible rfl))
    simp only [Act.put, List.getElem_toArray, List.getElem_cons_zero, List.getElem_cons_succ, List.setIfInBounds_toArray, List.set_cons_zero, List.set_cons_succ]
    refine wpAnyH_take (i := 4) (v := ?_) rfl (by kernel_rfl) (by kernel_rfl) (by kernel_rfl) (fun _ _ _ h => h) (Or.inl ⟨by rfl, ?_⟩) (by assumption) ?_
    rotate_left
    · (intro w hSw; (try dsimp only at hSw); first | (go_simp; done) | (go_simp; with_reducible rfl))
    simp only [Act.put, List.getElem_toArray, List.getElem_cons_zero, List.getElem_cons_succ, List.setIfInBounds_toArray, List.set_cons_zero, List.set_cons_succ]
    refine wpAnyH_take (i := 5) (v := ?_) rfl (by kernel_rfl) (by kernel_rfl) (by kernel_rfl) (fun _ _ _ h => h) (Or.inl ⟨by rfl, ?_⟩) (by assumption) ?_
    rotate_left
    · (intro w hSw; (try dsimp only at hSw); first | (go_simp; done) | (go_simp; with_reducible rfl))
    simp only [Act.put, List.getElem_toArray, List.getElem_cons_zero, List.getElem_cons_succ, List.setIfInBounds_toArray, List.set_cons_zero, List.set_cons_succ]
    refine wpAnyH_take (i := 6) (v := ?_) rfl (by kernel_rfl) (by kernel_rfl) (by kernel_rfl) (fun _ _ _ h => h) (Or.inl ⟨by rfl, ?_⟩) (by assumption) ?_
    rotate_left
    · (intro w hSw; (try dsimp only at hSw); first | (go_simp; done) | (go_simp; with_reducible rfl))
    simp only [Act.put, List.getElem_toArray, List.getElem_cons_zero, List.getElem_cons_succ, List.setIfInBounds_toArray, List.set_cons_zero, List.set_cons_succ]
    refine wpAnyH_take (i := 7) (v := ?_) rfl (by kernel_rfl) (by kernel_rfl) (by kernel_rfl) (fun _ _ _ h => h) (Or.inl ⟨by rfl, ?_⟩) (by assumption) ?_
    rotate_left
    · (intro w hSw; (try dsimp only at hSw); first | (go_simp; done) | (go_simp; with_reducible rfl))
    simp only [Act.put, List.getElem_toArray, List.getElem_cons_zero, List.getElem_cons_succ, List.setIfInBounds_toArray, List.set_cons_zero, List.set_cons_succ]
    refine wpAnyH_take (i := 8) (v := ?_) rfl (by kernel_rfl) (by kernel_rfl) (by kernel_rfl) (fun _ _ _ h => h) (Or.inl ⟨by rfl, ?_⟩) (by assumption) ?_
    rotate_left
    · (intro w hSw; (try dsimp only at hSw); first | (go_simp; done) | (go_simp; with_reducible rfl))
    simp only [Act.put, List.getElem_toArray, List.getElem_cons_zero, List.getElem_cons_succ, List.setIfInBounds_toArray, List.set_cons_zero, List.set_cons_succ]
    refine wpAnyH_take (i := 9) (v := ?_) rfl (by kernel_rfl) (by kernel_rfl) (by kernel_rfl) (fun _ _ _ h => h) (Or.inl ⟨by rfl, ?_⟩) (by assumption) ?_
    rotate_left
    · (intro w hSw; (try dsimp only at hSw); first | (go_simp; done) | (go_simp; with_reducible rfl))
    simp only [Act.put, List.getElem_toArray, List.getElem_cons_zero, List.getElem_cons_succ, List.setIfInBounds_toArray, List.set_cons_zero, List.set_cons_succ]
    refine wpAnyH_take (i := 10) (v := ?_) rfl (by kernel_rfl) (by kernel_rfl) (by kernel_rfl) (fun _ _ _ h => h) (Or.inl ⟨by rfl, ?_⟩) (by assumption) ?_
    rotate_left
    · (intro w hSw; (try dsimp only at hSw); first | (go_simp; done) | (go_simp; with_reducible rfl))
    simp only [Act.put, List.getElem_toArray, List.getElem_cons_zero, List.getElem_cons_succ, List.setIfInBounds_toArray, List.set_cons_zero, List.set_cons_succ]
    refine wpAnyH_take (i := 11) (v := ?_) rfl (by kernel_rfl) (by kernel_rfl) (by kernel_rfl) (fun _ _ _ h => h) (Or.inl ⟨by rfl, ?_⟩) (by assumption) ?_
    rotate_left
    · (intro w hSw; (try dsimp only at hSw); first | (go_simp; done) | (go_simp; with_reducible rfl))
    simp only [Act.put, List.getElem_toArray, List.getElem_cons_zero, List.getElem_cons_succ, List.setIfInBounds_toArray, List.set_cons_zero, List.set_cons_succ]
    refine wpAnyH_take (i := 12) (v := ?_) rfl (by kernel_rfl) (by kernel_rfl) (by kernel_rfl) (fun _ _ _ h => h) (Or.inl ⟨by rfl, ?_⟩) (by assumption) ?_
    rotate_left
    · (intro w hSw; (try dsimp only at hSw); first | (go_simp; done) | (go_simp; with_reducible rfl))
    simp only [Act.put, List.getElem_toArray, List.getElem_cons_zero, List.getElem_cons_succ, List.setIfInBounds_toArray, List.set_cons_zero, List.set_cons_succ]
    refine wpAnyH_take (i := 13) (v := ?_) rfl (by kernel_rfl) (by kernel_rfl) (by kernel_rfl) (fun _ _ _ h => h) (Or.inl ⟨by rfl, ?_⟩) (by assumption) ?_
    rotate_left
    · (intro w hSw; (try dsimp only at hSw); first | (go_simp; done) | (go_simp; with_reducible rfl))
    simp only [Act.put, List.getElem_toArray, List.getElem_cons_zero, List.getElem_cons_succ, List.setIfInBounds_toArray, List.set_cons_zero, List.set_cons_succ]
    refine wpAnyH_take (i := 14) (v := ?_) rfl (by kernel_rfl) (by kernel_rfl) (by kernel_rfl) (fun _ _ _ h => h) (Or.inl ⟨by rfl, ?_⟩) (by assumption) ?_
    rotate_left
    · (intro w hSw; (try dsimp only at hSw); first | (go_simp; done) | (go_simp; with_reducible rfl))
    simp only [Act.put, List.getElem_toArray, List.getElem_cons_zero, List.getElem_cons_succ, List.setIfInBounds_toArray, List.set_cons_zero, List.set_cons_succ]
    refine wpAnyH_take (i := 15) (v := ?_) rfl (by kernel_rfl) (by kernel_rfl) (by kernel_rfl) (fun _ _ _ h => h) (Or.inl ⟨by rfl, ?_⟩) (by assumption) ?_
    rotate_left
    · (intro w hSw; (try dsimp only at hSw); first | (go_simp; done) | (go_simp; with_reducible rfl))
    simp only [Act.put, List.getElem_toArray, List.getElem_cons_zero, List.getElem_cons_succ, List.setIfInBounds_toArray, List.set_cons_zero, List.set_cons_succ]
    refine wpAnyH_take (i := 17) (v := ?_) rfl (by kernel_rfl) (by kernel_rfl) (by kernel_rfl) (fun _ _ _ h => h) (Or.inl ⟨by rfl, ?_⟩) (by assumption) ?_
    rotate_left
    · (intro w hSw; (try dsimp only at hSw); first | (go_simp; done) | (go_simp; with_reducible rfl))
    simp only [Act.put, List.getElem_toArray, List.getElem_cons_zero, List.getElem_cons_succ, List.setIfInBounds_toArray, List.set_cons_zero, List.set_cons_succ]
    refine wpAnyH_ready (rs := [16]) (by kernel_rfl) (by simp) ?_
    refine AllReadyH.cons rfl (fun K hK => ?_) AllReadyH.nil
    go_simp
    refine hK.out _ _ ⟨g1, l1⟩ (fun hHeld2 => ?_)
    clear hK K hHeld
    refine wpAnyH_take (i := 18) (v := ?_) rfl (by kernel_rfl) (by kernel_rfl) (by kernel_rfl) (fun _ _ _ h => h) (Or.inl ⟨by rfl, ?_⟩) (by assumption) ?_
    rotate_left
    · (intro w hSw; (try dsimp only at hSw); first | (go_simp; done) | (go_simp; with_reducible rfl))
    simp only [Act.put, List.getElem_toArray, List.getElem_cons_zero, List.getElem_cons_succ, List.setIfInBounds_toArray, List.set_cons_zero, List.set_cons_succ]
    refine wpAnyH_ready (rs := [19]) (by kernel_rfl) (by simp) ?_
    refine AllReadyH.cons rfl (fun K hK => ?_) AllReadyH.nil
    go_simp
    have H4' := H4
    have m5 := (made w4 (.cells #[.slice (some ⟨b, off, none⟩) kz cc, .slice (if cz = kz then some ⟨bz, oz, none⟩ else some ⟨bz, oz + kz, none⟩) (sz - kz) (cz - kz)] 27)).drew.drew
    have k5 := (Blk.new w4 27 #[.slice (some ⟨b, off, none⟩) kz cc, .slice (if cz = kz then some ⟨bz, oz, none⟩ else some ⟨bz, oz + kz, none⟩) (sz - kz) (cz - kz)]).drewN 2
    have B5 := Lib.hid m5
    have K5 := Lib.hid (show Blk (w4.alloc (.cells #[.slice (some ⟨b, off, none⟩) kz cc, .slice (if cz = kz then some ⟨bz, oz, none⟩ else some ⟨bz, oz + kz, none⟩) (sz - kz) (cz - kz)] 27)).drew.drew w4.heap.size 27 #[.slice (some ⟨b, off, none⟩) kz cc, .slice (if cz = kz then some ⟨bz, oz, none⟩ else some ⟨bz, oz + kz, none⟩) (sz - kz) (cz - kz)] from k5)
    clear m5 k5
    generalize (w4.alloc (.cells #[.slice (some ⟨b, off, none⟩) kz cc, .slice (if cz = kz then some ⟨bz, oz, none⟩ else some ⟨bz, oz + kz, none⟩) (sz - kz) (cz - kz)] 27)).drew.drew = w5 at *
    generalize (if cz = kz then some (⟨bz, oz, none⟩ : Addr) else some ⟨bz, oz + kz, none⟩) = AX at *
    have SF := Lib.hid (fun W (h : Below w4.heap.size w4 W) => show W.cell? ⟨g, 1, none⟩ = some (.slice (some ⟨s, 0, none⟩) d.n kk) ∧ W.cell? ⟨lb, 1, none⟩ = some (.int .i64 (j : Nat)) from by
      refine ⟨?_, ?_⟩
      · rw [h.cell (p := ⟨g, 1, none⟩) H4.out.lt.1]; exact g1
      · rw [h.cell (p := ⟨lb, 1, none⟩) LB.out.lt]; exact l1)
    refine hK.out _ _ (SF.out _ B5.out) (fun hHeld => ?_)
    clear hK K hHeld2
    refine wpAnyH_ready (rs := [20]) (by kernel_rfl) (by simp) ?_
    refine AllReadyH.cons rfl (fun K hK => ?_) AllReadyH.nil
    go_simp
    refine (concat_any w4.heap.size (some ⟨b, off, none⟩) AX cc (cz - kz) (l.take kz) ((d.sec j).drop kz) w5 (by rw [TL.out, DL.out]; exact K5.out) ((L1.out.below B5.out).front kz) (XL.out _ (L2.out.below B5.out)) (by rw [TL.out, DL.out]; have := SZ.out; omega) (by rw [TL.out, DL.out]; have := SZ.out; omega)).mono ?_
    rintro e w6 ⟨v6, rfl, ho6, hb6⟩
    have B6 := Lib.hid (up B5.out hb6 B5.out.size)
    have S6 := Lib.hid (Sec.of_own ho6 (fun k hk => H4.out.fresh k (Nat.le_trans B5.out.size hk)) SM.out (by show 0 < (mix kz l (d.sec j)).length; rw [MX.out]; have := SZ.out; omega))
    have H6 := Lib.hid (H4.out.below B6.out)
    have LB6 := Lib.hid (LB.out.below B6.out LB.out.lt)
    have D6 := Lib.hid (D4.out.then_ B6.out)
    have cz6 : w6.cell? ⟨s, j, none⟩ = some (.slice (some ⟨bz, oz, none⟩) sz cz) := by rw [B6.out.cell (p := ⟨s, j, none⟩) H4.out.lt.2.1]; exact cl
    obtain ⟨csz, kz6⟩ := H6.out.sblk
    have fz6 := kz6.free j
    obtain ⟨A6, c6, ev6, -⟩ := ho6.lay
    rw [show (List.take kz l ++ List.drop kz (d.sec j)).length = sz from MX.out] at ev6
    subst ev6
    refine hK.out _ _ (SF.out _ B6.out) (fun hHeld3 => ?_)
    have NE := Lib.hid H6.out.ne
    have SF6 := Lib.hid (SF.out _ B6.out)
    clear hK K hHeld ho6 hb6 kz6
    refine wpAnyH_take (i := 21) (v := ?_) rfl (by kernel_rfl) (by kernel_rfl) (by kernel_rfl) (fun _ _ _ h => h) (Or.inl ⟨by rfl, ?_⟩) (by assumption) ?_
    rotate_left
    · (intro w hSw; (try dsimp only at hSw); first | (go_simp; done) | (go_simp; with_reducible rfl))
    simp only [Act.put, List.getElem_toArray, List.getElem_cons_zero, List.getElem_cons_succ, List.setIfInBounds_toArray, List.set_cons_zero, List.set_cons_succ]
    refine wpAnyH_ready (rs := [22]) (by kernel_rfl) (by simp) ?_
    refine AllReadyH.cons rfl (fun K hK => ?_) AllReadyH.nil
    go_simp
    have hlne := ty_ne LB6.out (H6.out.sblk).choose_spec (by decide)
    have h7 := H6.out.set hj (l := mix kz l (d.sec j)) S6.out (by show (mix kz l (d.sec j)).length = _; rw [MX.out]; exact ZS.out.symm)
    have LB7 := Lib.hid (LB6.out.far (p := ⟨s, j, none⟩) hlne (.slice A6 sz c6))
    have C7 := Lib.hid (Only.setCell D6.out (p := ⟨s, j, none⟩) (.inl (.inr (.inl rfl))) (.slice A6 sz c6))
    have H7 := Lib.hid h7
    have SF7 := And.intro ((World.cell?_of_block (w := w6) (w' := w6.setCell ⟨s, j, none⟩ (.slice A6 sz c6)) (a := ⟨g, 1, none⟩) (Below.heap_setCell w6 ⟨s, j, none⟩ _ g NE.out.1)).trans SF6.out.1) ((World.cell?_of_block (w := w6) (w' := w6.setCell ⟨s, j, none⟩ (.slice A6 sz c6)) (a := ⟨lb, 1, none⟩) (Below.heap_setCell w6 ⟨s, j, none⟩ _ lb hlne)).trans SF6.out.2)
    clear h7 hlne H6 LB6 D6 LB S6 B6 SF B5 K5 H4' H4 D4 XL L1 L2
    generalize w6.setCell ⟨s, j, none⟩ (.slice A6 sz c6) = w7 at *
    refine hK.out _ _ SF7 (fun hHeld => ?_)
    clear SF7
    clear hK K hHeld3
    refine wpAnyH_done (by kernel_rfl) ?_ _
    have LB := LB7
    clear LB7 hHeld
    clear MX SM ZS HL HZ TL DL SF6
    generalize (d.put (j : Nat) (mix kz l (d.sec (j : Nat)))) = d1 at *
    have C0 := LB.out.cell 0
    clear LB
    go_wp2_with fail
    go_loopw [55] (fun i wr => ∃ (k : Nat) (W : World), W = wr ∧ k ≤ L.length ∧ i = .int .i64 k ∧ DU U wr B g s m (d1.kept (L.take k)) c ∧ Chg g s m w wr) (fun i _ => L.length - (intOf i).toNat)
    case atStart => exact ⟨0, _, rfl, by omega, rfl, H7.out, C7.out⟩
    case round =>
    clear H7 C7 C0
    obtain ⟨k, w8, rfl, hk, rfl, h8, c8⟩ := hrel
    have H8 := Lib.hid h8
    have C8 := Lib.hid c8
    obtain ⟨kc, -, -, -, d1c, d2c, -, -, -, fr⟩ := h8.six
    by_cases hkl : k < L.length
    · have TK := Lib.hid (kept_snoc d1 L hkl)
      obtain ⟨bb, off, rfl, e0⟩ := lay1 (LK.out _ c8) hkl
      have hwf := WF.out L[k] (List.getElem_mem hkl)
      generalize L[k] = x at *
      rcases h8.look hwf with ⟨q, lk⟩ | ⟨l, b, o2, cc, q, lk, hs, -, -⟩
      · have O1 := Lib.hid (show (d1.kept (L.take k)).one x = d1.kept (L.take k) by unfold DD.one; rw [q])
        clear h8 c8 fr q hwf
        go_wp2_with fail
        refine ⟨⟨k + 1, _, rfl, by omega, by go_num, by rw [TK.out, O1.out]; exact H8.out, C8.out⟩, by simp [intOf]; omega⟩
      · have O1 := Lib.hid (show (d1.kept (L.take k)).one x = (d1.kept (L.take k)).put x l by unfold DD.one; rw [q])
        obtain ⟨x0, x1, x2⟩ := h8.gd.cac x l q
        obtain ⟨j, rfl⟩ := Int.eq_ofNat_of_zero_le x0
        have hj : j < (d1.kept (L.take k)).n := by omega
        have S9 := Lib.hid (h8.set hj hs x2)
        obtain ⟨bz, oz, cz, cl, -⟩ := h8.at_ hj
        obtain ⟨csz, kz⟩ := h8.sblk
        have fz := kz.free j
        clear h8 c8 fr q hwf hs x0 x1 x2 kz
        generalize (d1.kept (L.take k)).n = nn at *
        generalize l.length = ll at *
        go_wp2_with fail
        refine ⟨⟨k + 1, _, rfl, by omega, by go_num, by rw [TK.out, O1.out]; exact S9.out, Only.setCell C8.out (.inl (.inr (.inl rfl))) _⟩, by simp [intOf]; omega⟩
    · obtain rfl : k = L.length := by omega
      rw [List.take_length] at H8 h8
      obtain ⟨w9, r9, h9, o9⟩ := h8.mclear
      have H9 := Lib.hid h9
      have O9 := Lib.hid o9
      obtain ⟨kc9, -, -, -, -, -, c93, -, c95, fr9⟩ := h9.six
      have f93 := fr9 3
      have f95 := fr9 5
      have A1 := h9.gset 3 (.int .i64 (-1)) (d' := { d1.kept L |>.bare with left := -1 }) (fun k => rfl) rfl rfl rfl ⟨h9.gd.size, h9.gd.n, h9.gd.sec, h9.gd.cac, by show -1 ≤ (-1 : Int) ∧ (-1 : Int) ≤ 9223372036854775807; omega⟩
      have A2 := Lib.hid (A1.gset 5 (.bool false) (d' := (d1.kept L).fresh) (fun k => rfl) rfl rfl rfl ⟨A1.gd.size, A1.gd.n, A1.gd.sec, A1.gd.cac, A1.gd.left⟩)
      clear h8 c8 h9 o9 fr fr9 A1 d1c
      go_wp2_with fail
      go_end0
      exact ⟨rfl, by rw [CR.out]; exact ⟨0, A2.out, by omega⟩, Only.setCell (Only.setCell (Chg.trans C8.out (O9.out.mono (fun _ _ q => Or.inr (Or.inr q)))) (.inl (.inl rfl)) _) (.inl (.inl rfl)) _⟩
end Go.Proofs.YtigjfmfhmoabiaaDoor.dk
