/-
  Contract of package slotted: Bytes.
-/
import Derived.Test.YtikddbaenokdpaaSlG
namespace Go.Proofs.Ytikddbaenokdpaa.pg
open Go.RowKit Go.Shelf
open base (ret_bool ret_int made up Blk Only below_drewN)
open bytes (Small small_app small_take small_drop small_nil By By_len By_append)
open rk rgm
set_option linter.unusedVariables false
set_option linter.unusedSimpArgs false
attribute [local go_sem] Oper.semAt_some
variable {U : Nat → Prop} {w w' : World} {B g size : Nat} {v : Value} {u : Int} {V : List S1} {L : List (List Nat)}

def BytesP (l : List Nat) (w : World) (e : Ending) (w' : World) : Prop := e = .returned (.slice (some ⟨w.heap.size, 0, none⟩) l.length l.length) ∧ Blk w' w.heap.size 5 (By l).toArray ∧ Below w.heap.size w w'
set_option maxRecDepth 100000 in
set_option maxHeartbeats 8000000 in
theorem bytes_any (h : Pg U w B g size L) : Calls Try.prog 14 #[.pointer (some ⟨g, 0, none⟩)] w (BytesP (pb size L) w) := by
  obtain ⟨v, V, p⟩ := h.ex
  have G := h.gd
  have hl := G.ln
  have GT := G.tt
  have GS := G.sz
  have hlen : ∀ i (h : i < L.length), (L[i]).length ≤ 100000 := fun i hi => by have := len_le_tot hi; omega
  have tf := tot_flat L
  have pbl : (pb size L).length = size := by rw [← buf_end]; exact buf_len (Nat.le_refl _) GT
  obtain ⟨S0, c0, rfl, -⟩ := p.open_
  obtain ⟨y0, y1, y2, -⟩ := p.three
  have hmb := fun W => run_make_row' (P := Try.prog) 28 5 (.int .u8 0) 1 Try.underlying28 bytes.info_u8 rfl .i64 .i64 size (by omega) (by omega) W
  have b1 : Blk (w.alloc (.cells (madeCells #[.int .u8 0] size) 5)) w.heap.size 5 (By (List.replicate size 0)).toArray := by rw [← mcells_u8]; exact Blk.new _ _ _
  have s1 := asz w (.cells (madeCells #[.int .u8 0] size) 5)
  have m1 := made w (.cells (madeCells #[.int .u8 0] size) 5)
  have P1 := Lib.hid (p.below m1)
  have B1 := Lib.hid b1
  have M1 := Lib.hid m1
  have S1 := Lib.hid s1
  have AM := Lib.hid (fun ws => all_make (g := g) ws)
  have PP := Lib.hid p
  have HLN := Lib.hid (And.intro hl hlen)
  have NU := Lib.hid (And.intro GT (And.intro GS tf))
  have PBL := Lib.hid pbl
  clear h p G hlen b1 s1 m1 pbl
  refine (callsIn_wide (n := 3)).1 ?_
  refine callsIn_of_wp_marks Try.func14 rfl trivial ?_ rfl
  simp only [Try.ntmps14, List.size_toArray, List.length_cons, List.length_nil, Nat.reduceAdd, Nat.reduceSub, Array.replicate_succ, Array.replicate_zero, List.push_toArray, List.append_toArray, List.nil_append, List.cons_append]
  refine wpIn_wide.2 (calm_wp ?_)
  go_upto_region 2 with fail
  have b3 : Blk ((w.alloc (.cells (madeCells #[.int .u8 0] size) 5)).alloc (.cells #[.slice (some ⟨w.heap.size, 0, none⟩) size size] 28)) (w.heap.size + 1) 28 #[.slice (some ⟨w.heap.size, 0, none⟩) size size] := by
    have := Blk.new (w.alloc (.cells (madeCells #[.int .u8 0] size) 5)) 28 #[.slice (some ⟨w.heap.size, 0, none⟩) size size]
    rw [S1.out] at this
    exact this
  have m3 := made (w.alloc (.cells (madeCells #[.int .u8 0] size) 5)) (.cells #[.slice (some ⟨w.heap.size, 0, none⟩) size size] 28)
  have B3 := Lib.hid b3
  have R3 := Lib.hid (B1.out.below m3 B1.out.lt)
  have P3 := Lib.hid (P1.out.below m3)
  have M3 := Lib.hid (M1.out.trans (m3.mono M1.out.size))
  have Z3 := Lib.hid (show ((w.alloc (.cells (madeCells #[.int .u8 0] size) 5)).alloc (.cells #[.slice (some ⟨w.heap.size, 0, none⟩) size size] 28)).heap.size = w.heap.size + 2 by rw [asz, S1.out])
  clear b3 m3 y0 y1 y2 hmb P1 B1 M1 S1
  generalize (w.alloc (.cells (madeCells #[.int .u8 0] size) 5)).alloc (.cells #[.slice (some ⟨w.heap.size, 0, none⟩) size size] 28) = w3 at *
  have hcv : IntKind.u8.wrap (L.length : Int) = (L.length : Int) := by
    have : (IntKind.u8).wrap (L.length : Int) = (L.length : Int) % 256 := by first | rfl | simp [IntKind.wrap]
    omega
  have KS := Lib.hid (fun ws (hb : Below w3.heap.size w3 ws) => (show ws.cell? ⟨w.heap.size + 1, 0, none⟩ = some (.slice (some ⟨w.heap.size, 0, none⟩) size size) ∧ ws.cell? ⟨g, 1, none⟩ = some (.slice S0 L.length c0) from ⟨(B3.out.below hb B3.out.lt).cell 0, (P3.out.below hb).blk.cell 1⟩))
  have BV := Lib.hid (Below.refl w3.heap.size w3).drew
  refine wp_region_held_drew (S := fun ws => ws.cell? ⟨w.heap.size + 1, 0, none⟩ = some (.slice (some ⟨w.heap.size, 0, none⟩) size size) ∧ ws.cell? ⟨g, 1, none⟩ = some (.slice S0 L.length c0)) (by kernel_rfl) (KS.out _ BV.out) (fun hHeld => ?_)
  have R4 := Lib.hid (show Blk w3.drew w.heap.size 5 (By (List.replicate size 0)).toArray from R3.out)
  have B4 := Lib.hid (show Blk w3.drew (w.heap.size + 1) 28 #[.slice (some ⟨w.heap.size, 0, none⟩) size size] from B3.out)
  have P4 := Lib.hid (P3.out.below BV.out)
  have M4 := Lib.hid (M3.out.trans (BV.out.mono M3.out.size))
  have Z4 := Lib.hid (show w3.drew.heap.size = w.heap.size + 2 from Z3.out)
  have c4 := R4.out.cell 0
  rw [by_get (by simp; omega)] at c4
  simp only [List.getElem_replicate] at c4
  have f4 := R4.out.free 0
  generalize w3.drew = w4 at *
  clear KS BV R3 B3 P3 M3 Z3
  have hs0 : (0 < size) = True := by simp; omega
  refine wpAnyH_take (i := 0) (v := ?_) rfl (by kernel_rfl) (by kernel_rfl) (by kernel_rfl) (fun _ _ _ h => h) (Or.inl ⟨by rfl, ?_⟩) (by assumption) ?_
  rotate_left
  · (intro w hSw; (try dsimp only at hSw); first | (go_simp; done) | (go_simp; with_reducible rfl))
  simp only [Act.put, List.getElem_toArray, List.getElem_cons_zero, List.getElem_cons_succ, List.setIfInBounds_toArray, List.set_cons_zero, List.set_cons_succ]
  refine wpAnyH_take (i := 1) (v := ?_) rfl (by kernel_rfl) (by kernel_rfl) (by kernel_rfl) (fun _ _ _ h => h) (Or.inl ⟨by rfl, ?_⟩) (by assumption) ?_
  rotate_left
  · (intro w hSw; (try dsimp only at hSw); first | (go_simp; done) | (go_simp; with_reducible rfl))
  simp only [Act.put, List.getElem_toArray, List.getElem_cons_zero, List.getElem_cons_succ, List.setIfInBounds_toArray, List.set_cons_zero, List.set_cons_succ]
  refine wpAnyH_take (i := 2) (v := ?_) rfl (by kernel_rfl) (by kernel_rfl) (by kernel_rfl) (fun _ _ _ h => h) (Or.inl ⟨by rfl, ?_⟩) (by assumption) ?_
  rotate_left
  · (intro w hSw; (try dsimp only at hSw); first | (go_simp; done) | (go_simp; with_reducible rfl))
  simp only [Act.put, List.getElem_toArray, List.getElem_cons_zero, List.getElem_cons_succ, List.setIfInBounds_toArray, List.set_cons_zero, List.set_cons_succ]
  refine wpAnyH_take (i := 3) (v := ?_) rfl (by kernel_rfl) (by kernel_rfl) (by kernel_rfl) (fun _ _ _ h => h) (Or.inl ⟨by rfl, ?_⟩) (by assumption) ?_
  rotate_left
  · (intro w hSw; (try dsimp only at hSw); first | (go_simp; done) | (go_simp; with_reducible rfl))
  simp only [Act.put, List.getElem_toArray, List.getElem_cons_zero, List.getElem_cons_succ, List.setIfInBounds_toArray, List.set_cons_zero, List.set_cons_succ]
  refine wpAnyH_take (i := 4) (v := ?_) rfl (by kernel_rfl) (by kernel_rfl) (by kernel_rfl) (fun _ _ _ h => h) (Or.inl ⟨by rfl, ?_⟩) (by assumption) ?_
  rotate_left
  · (intro w hSw; (try dsimp only at hSw); first | (go_simp; done) | (go_simp; with_reducible rfl))
  simp only [Act.put, List.getElem_toArray, List.getElem_cons_zero, List.getElem_cons_succ, List.setIfInBounds_toArray, List.set_cons_zero, List.set_cons_succ]
  refine wpAnyH_take (i := 5) (v := ?_) rfl (by kernel_rfl) (by kernel_rfl) (by kernel_rfl) (fun _ _ _ h => h) (Or.inl ⟨by rfl, ?_⟩) (by assumption) ?_
  rotate_left
  · (intro w hSw; (try dsimp only at hSw); first | (go_simp; done) | (go_simp; with_reducible rfl))
  simp only [Act.put, List.getElem_toArray, List.getElem_cons_zero, List.getElem_cons_succ, List.setIfInBounds_toArray, List.set_cons_zero, List.set_cons_succ]
  refine wpAnyH_take (i := 6) (v := ?_) rfl (by kernel_rfl) (by kernel_rfl) (by kernel_rfl) (fun _ _ _ h => h) (Or.inl ⟨by rfl, ?_⟩) (by assumption) ?_
  rotate_left
  · (intro w hSw; (try dsimp only at hSw); first | (go_simp; done) | (go_simp; with_reducible rfl))
  simp only [Act.put, List.getElem_toArray, List.getElem_cons_zero, List.getElem_cons_succ, List.setIfInBounds_toArray, List.set_cons_zero, List.set_cons_succ]
  refine wpAnyH_take (i := 7) (v := ?_) rfl (by kernel_rfl) (by kernel_rfl) (by kernel_rfl) (fun _ _ _ h => h) (Or.inl ⟨by rfl, ?_⟩) (by assumption) ?_
  rotate_left
  · (intro w hSw; (try dsimp only at hSw); first | (go_simp; done) | (go_simp; with_reducible rfl))
  simp only [Act.put, List.getElem_toArray, List.getElem_cons_zero, List.getElem_cons_succ, List.setIfInBounds_toArray, List.set_cons_zero, List.set_cons_succ]
  have R5 := Lib.hid (show Blk (w4.setCell ⟨w.heap.size, 0, none⟩ (.int .u8 (L.length : Nat))) w.heap.size 5 (By (buf size L 0)).toArray from by
    have := R4.out.put 0 (.int .u8 (L.length : Nat))
    rw [by_set, buf_zero (by omega)] at this
    exact this)
  have B5 := Lib.hid (B4.out.far (p := ⟨w.heap.size, 0, none⟩) (show w.heap.size + 1 ≠ w.heap.size by omega) (.int .u8 (L.length : Nat)))
  have M5 := Lib.hid (M4.out.setCell (p := ⟨w.heap.size, 0, none⟩) (Nat.le_refl _) (.int .u8 (L.length : Nat)))
  have k5 : (w4.setCell ⟨w.heap.size, 0, none⟩ (.int .u8 (L.length : Nat))).cell? ⟨g, 1, none⟩ = some (.slice S0 L.length c0) := (PP.out.below M5.out).blk.cell 1
  refine wpAnyH_ready (rs := [8]) (by kernel_rfl) (by simp) ?_
  refine AllReadyH.cons rfl (fun K hK => ?_) AllReadyH.nil
  go_simp
  refine hK.out _ _ ⟨B5.out.cell 0, k5⟩ (fun hH1 => ?_)
  clear hK K hHeld
  refine wpAnyH_done (by kernel_rfl) ?_ _
  clear hH1
  have Z5 := Lib.hid (show (w4.setCell ⟨w.heap.size, 0, none⟩ (.int .u8 (L.length : Nat))).heap.size = w.heap.size + 2 by have := Z4.out; simpa [World.setCell] using this)
  generalize w4.setCell ⟨w.heap.size, 0, none⟩ (.int .u8 (L.length : Nat)) = w5 at *
  clear c4 f4 R4 B4 P4 M4 Z4 hcv hs0
  have hat : ((at_ L 0 : Nat) : Int) = 1 + 2 * (L.length : Int) := by unfold at_; simp
  have b6 : Blk (w5.alloc (.cells #[.int .i64 (1 + 2 * (L.length : Int))] 3)) (w.heap.size + 2) 3 #[.int .i64 (at_ L 0 : Nat)] := by
    have := Blk.new w5 3 #[.int .i64 (1 + 2 * (L.length : Int))]
    rw [Z5.out, ← hat] at this
    rw [← hat]
    exact this
  have m6 := made w5 (.cells #[.int .i64 (1 + 2 * (L.length : Int))] 3)
  have B6 := Lib.hid b6
  have R6 := Lib.hid (R5.out.below m6 R5.out.lt)
  have C6 := Lib.hid (B5.out.below m6 B5.out.lt)
  have M6 := Lib.hid (M5.out.trans (m6.mono M5.out.size))
  have Z6 := Lib.hid (show (w5.alloc (.cells #[.int .i64 (1 + 2 * (L.length : Int))] 3)).heap.size = w.heap.size + 3 by rw [asz, Z5.out])
  clear b6 m6 hat
  go_wp2_with fail
  rw [Z5.out]
  clear k5 R5 B5 M5 Z5
  generalize w5.alloc (.cells #[.int .i64 (1 + 2 * (L.length : Int))] 3) = w6 at *
  refine (AM.out _).mono ?_
  rintro e w7 ⟨rfl, hbt, hb7⟩
  rw [Z6.out] at hbt
  have BT := Lib.hid hbt
  have B7 := Lib.hid (B6.out.below hb7 B6.out.lt)
  have R7 := Lib.hid (R6.out.below hb7 R6.out.lt)
  have C7 := Lib.hid (C6.out.below hb7 C6.out.lt)
  have M7 := Lib.hid (M6.out.trans (hb7.mono M6.out.size))
  have LT := Lib.hid (show w.heap.size + 2 < w7.heap.size from B7.out.lt)
  have PW := Lib.hid (fun W (h : Below w.heap.size w7 W) => PP.out.below (M7.out.trans h))
  go_wp2_with fail
  rw [Z6.out]
  clear hbt hb7 B6 R6 C6 M6 Z6
  refine (wpIn_wide (n := 3)).1 ?_
  refine' wpIn_rangeFunc_free3 (α := Nat × Option Addr × Nat) rfl (by omega) (gf := 33) (lb := #[.pointer (some ⟨w.heap.size + 3, 0, none⟩)]) rfl trivial (enters_of Try.func33 (by kernel_rfl) rfl)
    (encs := fun x => #[.int .i64 x.1, .slice x.2.1 (L.getD x.1 []).length x.2.2]) (fun _ => rfl)
    (fun x W => ((x.1 < L.length ∧ L.getD x.1 [] ≠ []) ∧ ∃ b, w7.heap.size + 2 ≤ b ∧ bytes.Own W b (.slice x.2.1 (L.getD x.1 []).length x.2.2) (L.getD x.1 [])) ∧ Bt w7 w.heap.size size L x.1 W) (fun x W W' => Bt w7 w.heap.size size L (x.1 + 1) W') (fun _ _ => False) (fun W => Bt w7 w.heap.size size L L.length W) _
    ?iter ?assign ?body ?done ?stop
  case assign =>
    intro x W K' hK
    simp only [List.zip_toArray, List.zip_cons_cons, List.zip_nil_right, List.foldl_toArray, List.foldl_cons, List.foldl_nil, List.setIfInBounds_toArray, List.set_cons_succ, List.set_cons_zero]
    gi_wp2
    exact hK
  case iter =>
    intro W1 Bk Bx hb1 hz1 hbk hBk hBx hY
    refine (all_it (U := U) (B := B) (g := g) (size := size) (v := .slice S0 L.length c0) (u := (tot L : Nat)) (V := V) (L := L) (3 - 1) (by omega) (w7.heap.size + 1) (w.heap.size + 3) W1 HLN.out.1 HLN.out.2 (fun i W => Bk W ∧ Bt w7 w.heap.size size L i W) (fun _ => False) (fun i W h => PW.out W h.2.below) (BT.out.below hb1 (BT.out.lt))
      ⟨hbk, ⟨C7.out.below hb1 C7.out.lt, B7.out.below hb1 B7.out.lt, R7.out.below hb1 R7.out.lt, hb1.mono (by have := LT.out; omega), by omega⟩⟩ (fun i W W' h hb => ⟨hBk _ _ h.1 (Kept.of_below hb (by have := h.2.size; omega)), h.2.after hb LT.out⟩) (fun i W hi he h => ⟨h.1, by
        obtain ⟨e1, e2⟩ := buf_skip (size := size) hi he
        exact ⟨h.2.box3, by rw [← e2]; exact h.2.box4, by rw [← e1]; exact h.2.row, h.2.below, h.2.size⟩⟩) (fun i W W2 A c hi hne h hb own => ?_)).mono ?_
    · have e : L.getD i [] = L[i] := by simp [List.getD, hi]
      have := hY (i, A, c) W2 (hBk _ _ h.1 (Kept.of_below hb (by have := h.2.size; omega))) ⟨⟨⟨hi, by rw [e]; exact hne⟩, ⟨W.heap.size, h.2.size, by rw [e]; exact own⟩⟩, h.2.after hb LT.out⟩
      simp only [e] at this
      refine this.mono ?_
      rintro e W' (⟨rfl, h1, h2⟩ | ⟨rfl, c', h1, h2⟩)
      · exact .inl ⟨rfl, h1, h2⟩
      · exact h2.elim
    · rintro e W' ⟨h1, (h2 | h2)⟩
      · exact ⟨h1, .inl h2⟩
      · exact h2.elim
  case body =>
    rintro ⟨i, A, c⟩ W Wc ⟨⟨⟨hi, hne⟩, ⟨b, hb, own⟩⟩, hbt⟩ hO - - hlt
    have e : L.getD i [] = L[i] := by simp [List.getD, hi]
    dsimp only at hi hne own hbt ⊢
    rw [e] at hne own
    simp only [e]
    have hc := hbt.only hO LT.out
    have hne0 : 0 < (L[i]).length := List.length_pos_iff.2 hne
    have hm1 := len_le_tot hi
    have hal := at_le (L := L) (i + 1)
    have has := at_succ hi
    have ow2 := own.keep (w' := Wc) (fun k e => hO.block k (own.lt k e).2 (by have := (own.lt k e).1; omega))
    have LY := Lib.hid (fun (W' : World) (h : Only (fun j => j = w.heap.size ∨ j = w.heap.size + 2) Wc W') => (show bytes.Lay W' A L[i] from by
      have o3 := ow2.keep (w' := W') (fun k e => h.block k (ow2.lt k e).2 (by have := (ow2.lt k e).1; have := LT.out; omega))
      obtain ⟨A', c', e', l', _⟩ := o3.lay
      injection e' with e1
      rw [e1]
      exact l'))
    have BS := Lib.hid (buf_step hi NU.out.1)
    have QL := Lib.hid (buf_len (size := size) (L := L) (i := i) (by omega) NU.out.1)
    have CB := Lib.hid hc
    have CS := Lib.hid hc.begin
    have AS := Lib.hid has
    have HLT := Lib.hid hlt
    obtain ⟨k1, hk1⟩ : ∃ k1, k1 = 1 + 2 * i := ⟨_, rfl⟩
    obtain ⟨k2, hk2⟩ : ∃ k2, k2 = k1 + 1 := ⟨_, rfl⟩
    have hal2 := at_le (L := L) i
    have tf2 := NU.out.2.2
    have gt2 := NU.out.1
    have hb2 : k2 < size := by omega
    have hb1 : k1 < size := by omega
    have j1 : (1 : Int) + 2 * (i : Int) = (k1 : Int) := by omega
    have j2 : (k1 : Int) + 1 = (k2 : Int) := by omega
    rw [← hk1, ← hk2] at BS
    clear hO hbt hc own ow2 hne e has hk1 hk2
    have KS := Lib.hid (fun ws (hb : Below Wc.heap.size Wc ws) => (show ws.cell? ⟨w.heap.size + 1, 0, none⟩ = some (.slice (some ⟨w.heap.size, 0, none⟩) size size) from (CB.out.box3.below hb CB.out.box3.lt).cell 0))
    have BV := Lib.hid (Below.refl Wc.heap.size Wc).drew
    gi_wp2
    refine still.region_held_in (S := fun ws => ws.cell? ⟨w.heap.size + 1, 0, none⟩ = some (.slice (some ⟨w.heap.size, 0, none⟩) size size)) (still.rowy_round (w7.heap.size + 1)) (by kernel_rfl) (by kernel_rfl) (fun _ _ h => h) (KS.out _ BV.out) (fun hHeld => ?_)
    have q1 : IntKind.i64.wrap (2 * (i : Int)) = 2 * (i : Int) := IntWalk.i64_in _ (by omega)
    have q2 : IntKind.i64.wrap (k1 : Int) = (k1 : Int) := IntWalk.i64_in _ (by omega)
    have q3 : IntKind.i64.wrap (k2 : Int) = (k2 : Int) := IntWalk.i64_in _ (by omega)
    have hu1 : IntKind.u8.wrap ((L[i]).length : Int) = (((L[i]).length % 256 : Nat) : Int) := by
      have : (IntKind.u8).wrap ((L[i]).length : Int) = ((L[i]).length : Int) % 256 := by first | rfl | simp [IntKind.wrap]
      omega
    have hu2 : IntKind.u8.wrap (((L[i]).length : Int) / 256) = (((L[i]).length / 256 : Nat) : Int) := by
      have : (IntKind.u8).wrap (((L[i]).length : Int) / 256) = (((L[i]).length : Int) / 256) % 256 := by first | rfl | simp [IntKind.wrap]
      omega
    have C8 := Lib.hid CS.out.drew
    have LD := Lib.hid (fun (h : 0 < (L[i]).length) => h)
    have lsm : 0 < (L[i]).length := hne0
    generalize hd : L[i] = d at *
    clear hd
    generalize Wc.drew = w8 at *
    clear CS KS
    have p1 : (k1 < size) = True := by simp; omega
    have p2 : (k2 < size) = True := by simp; omega
    refine wpAnyH_take (i := 0) (v := ?_) rfl (by kernel_rfl) (by kernel_rfl) (by kernel_rfl) (fun _ _ _ h => h) (Or.inl ⟨by rfl, ?_⟩) (by assumption) ?_
    rotate_left
    · (intro w hSw; (try dsimp only at hSw); first | (go_simp; done) | (go_simp; with_reducible rfl))
    simp only [Act.put, List.getElem_toArray, List.getElem_cons_zero, List.getElem_cons_succ, List.setIfInBounds_toArray, List.set_cons_zero, List.set_cons_succ]
    refine wpAnyH_take (i := 1) (v := ?_) rfl (by kernel_rfl) (by kernel_rfl) (by kernel_rfl) (fun _ _ _ h => h) (Or.inl ⟨by rfl, ?_⟩) (by assumption) ?_
    rotate_left
    · (intro w hSw; (try dsimp only at hSw); first | (go_simp; done) | (go_simp; with_reducible rfl))
    simp only [Act.put, List.getElem_toArray, List.getElem_cons_zero, List.getElem_cons_succ, List.setIfInBounds_toArray, List.set_cons_zero, List.set_cons_succ]
    refine wpAnyH_take (i := 2) (v := ?_) rfl (by kernel_rfl) (by kernel_rfl) (by kernel_rfl) (fun _ _ _ h => h) (Or.inl ⟨by rfl, ?_⟩) (by assumption) ?_
    rotate_left
    · (intro w hSw; (try dsimp only at hSw); first | (go_simp; done) | (go_simp; with_reducible rfl))
    simp only [Act.put, List.getElem_toArray, List.getElem_cons_zero, List.getElem_cons_succ, List.setIfInBounds_toArray, List.set_cons_zero, List.set_cons_succ]
    refine wpAnyH_take (i := 3) (v := ?_) rfl (by kernel_rfl) (by kernel_rfl) (by kernel_rfl) (fun _ _ _ h => h) (Or.inl ⟨by rfl, ?_⟩) (by assumption) ?_
    rotate_left
    · (intro w hSw; (try dsimp only at hSw); first | (go_simp; done) | (go_simp; with_reducible rfl))
    simp only [Act.put, List.getElem_toArray, List.getElem_cons_zero, List.getElem_cons_succ, List.setIfInBounds_toArray, List.set_cons_zero, List.set_cons_succ]
    refine wpAnyH_take (i := 4) (v := ?_) rfl (by kernel_rfl) (by kernel_rfl) (by kernel_rfl) (fun _ _ _ h => h) (Or.inl ⟨by rfl, ?_⟩) (by assumption) ?_
    rotate_left
    · (intro w hSw; (try dsimp only at hSw); first | (go_simp; done) | (go_simp; with_reducible rfl))
    simp only [Act.put, List.getElem_toArray, List.getElem_cons_zero, List.getElem_cons_succ, List.setIfInBounds_toArray, List.set_cons_zero, List.set_cons_succ]
    refine wpAnyH_take (i := 5) (v := ?_) rfl (by kernel_rfl) (by kernel_rfl) (by kernel_rfl) (fun _ _ _ h => h) (Or.inl ⟨by rfl, ?_⟩) (by assumption) ?_
    rotate_left
    · (intro w hSw; (try dsimp only at hSw); first | (go_simp; done) | (go_simp; with_reducible rfl))
    simp only [Act.put, List.getElem_toArray, List.getElem_cons_zero, List.getElem_cons_succ, List.setIfInBounds_toArray, List.set_cons_zero, List.set_cons_succ]
    refine wpAnyH_take (i := 6) (v := ?_) rfl (by kernel_rfl) (by kernel_rfl) (by kernel_rfl) (fun _ _ _ h => h) (Or.inl ⟨by rfl, ?_⟩) (by assumption) ?_
    rotate_left
    · (intro w hSw; (try dsimp only at hSw); first | (go_simp; done) | (go_simp; with_reducible rfl))
    simp only [Act.put, List.getElem_toArray, List.getElem_cons_zero, List.getElem_cons_succ, List.setIfInBounds_toArray, List.set_cons_zero, List.set_cons_succ]
    refine wpAnyH_take (i := 7) (v := ?_) rfl (by kernel_rfl) (by kernel_rfl) (by kernel_rfl) (fun _ _ _ h => h) (Or.inl ⟨by rfl, ?_⟩) (by assumption) ?_
    rotate_left
    · (intro w hSw; (try dsimp only at hSw); first | (go_simp; done) | (go_simp; with_reducible rfl))
    simp only [Act.put, List.getElem_toArray, List.getElem_cons_zero, List.getElem_cons_succ, List.setIfInBounds_toArray, List.set_cons_zero, List.set_cons_succ]
    refine wpAnyH_take (i := 8) (v := ?_) rfl (by kernel_rfl) (by kernel_rfl) (by kernel_rfl) (fun _ _ _ h => h) (Or.inl ⟨by rfl, ?_⟩) (by assumption) ?_
    rotate_left
    · (intro w hSw; (try dsimp only at hSw); first | (go_simp; done) | (go_simp; with_reducible rfl))
    simp only [Act.put, List.getElem_toArray, List.getElem_cons_zero, List.getElem_cons_succ, List.setIfInBounds_toArray, List.set_cons_zero, List.set_cons_succ]
    refine wpAnyH_take (i := 9) (v := ?_) rfl (by kernel_rfl) (by kernel_rfl) (by kernel_rfl) (fun _ _ _ h => h) (Or.inl ⟨by rfl, ?_⟩) (by assumption) ?_
    rotate_left
    · (intro w hSw; (try dsimp only at hSw); first | (go_simp; done) | (go_simp; with_reducible rfl))
    simp only [Act.put, List.getElem_toArray, List.getElem_cons_zero, List.getElem_cons_succ, List.setIfInBounds_toArray, List.set_cons_zero, List.set_cons_succ]
    refine wpAnyH_take (i := 10) (v := ?_) rfl (by kernel_rfl) (by kernel_rfl) (by kernel_rfl) (fun _ _ _ h => h) (Or.inl ⟨by rfl, ?_⟩) (by assumption) ?_
    rotate_left
    · (intro w hSw; (try dsimp only at hSw); first | (go_simp; done) | (go_simp; with_reducible rfl))
    simp only [Act.put, List.getElem_toArray, List.getElem_cons_zero, List.getElem_cons_succ, List.setIfInBounds_toArray, List.set_cons_zero, List.set_cons_succ]
    refine wpAnyH_take (i := 11) (v := ?_) rfl (by kernel_rfl) (by kernel_rfl) (by kernel_rfl) (fun _ _ _ h => h) (Or.inl ⟨by rfl, ?_⟩) (by assumption) ?_
    rotate_left
    · (intro w hSw; (try dsimp only at hSw); first | (go_simp; done) | (go_simp; with_reducible rfl))
    simp only [Act.put, List.getElem_toArray, List.getElem_cons_zero, List.getElem_cons_succ, List.setIfInBounds_toArray, List.set_cons_zero, List.set_cons_succ]
    refine wpAnyH_take (i := 12) (v := ?_) rfl (by kernel_rfl) (by kernel_rfl) (by kernel_rfl) (fun _ _ _ h => h) (Or.inl ⟨by rfl, ?_⟩) (by assumption) ?_
    rotate_left
    · (intro w hSw; (try dsimp only at hSw); first | (go_simp; done) | (go_simp; with_reducible rfl))
    simp only [Act.put, List.getElem_toArray, List.getElem_cons_zero, List.getElem_cons_succ, List.setIfInBounds_toArray, List.set_cons_zero, List.set_cons_succ]
    refine wpAnyH_take (i := 13) (v := ?_) rfl (by kernel_rfl) (by kernel_rfl) (by kernel_rfl) (fun _ _ _ h => h) (Or.inl ⟨by rfl, ?_⟩) (by assumption) ?_
    rotate_left
    · (intro w hSw; (try dsimp only at hSw); first | (go_simp; done) | (go_simp; with_reducible rfl))
    simp only [Act.put, List.getElem_toArray, List.getElem_cons_zero, List.getElem_cons_succ, List.setIfInBounds_toArray, List.set_cons_zero, List.set_cons_succ]
    refine wpAnyH_take (i := 14) (v := ?_) rfl (by kernel_rfl) (by kernel_rfl) (by kernel_rfl) (fun _ _ _ h => h) (Or.inl ⟨by rfl, ?_⟩) (by assumption) ?_
    rotate_left
    · (intro w hSw; (try dsimp only at hSw); first | (go_simp; done) | (go_simp; with_reducible rfl))
    simp only [Act.put, List.getElem_toArray, List.getElem_cons_zero, List.getElem_cons_succ, List.setIfInBounds_toArray, List.set_cons_zero, List.set_cons_succ]
    refine wpAnyH_take (i := 15) (v := ?_) rfl (by kernel_rfl) (by kernel_rfl) (by kernel_rfl) (fun _ _ _ h => h) (Or.inl ⟨by rfl, ?_⟩) (by assumption) ?_
    rotate_left
    · (intro w hSw; (try dsimp only at hSw); first | (go_simp; done) | (go_simp; with_reducible rfl))
    simp only [Act.put, List.getElem_toArray, List.getElem_cons_zero, List.getElem_cons_succ, List.setIfInBounds_toArray, List.set_cons_zero, List.set_cons_succ]
    refine wpAnyH_take (i := 16) (v := ?_) rfl (by kernel_rfl) (by kernel_rfl) (by kernel_rfl) (fun _ _ _ h => h) (Or.inl ⟨by rfl, ?_⟩) (by assumption) ?_
    rotate_left
    · (intro w hSw; (try dsimp only at hSw); first | (go_simp; done) | (go_simp; with_reducible rfl))
    simp only [Act.put, List.getElem_toArray, List.getElem_cons_zero, List.getElem_cons_succ, List.setIfInBounds_toArray, List.set_cons_zero, List.set_cons_succ]
    have x1 := C8.out.row.cell k1
    rw [by_get (by rw [QL.out]; exact hb1)] at x1
    have x2 := C8.out.row.free k1
    have c9 := C8.out.put k1 (d.length % 256)
    rw [show ((d.length % 256 : Nat) : Int) = (d.length : Int) % 256 by omega] at c9
    have C9 := Lib.hid c9
    clear c9
    refine wpAnyH_ready (rs := [17]) (by kernel_rfl) (by simp) ?_
    refine AllReadyH.cons rfl (fun K hK => ?_) AllReadyH.nil
    go_simp
    refine hK.out _ _ (C9.out.box3.cell 0) (fun hH1 => ?_)
    clear hK K hHeld x1 x2 C8
    generalize w8.setCell ⟨w.heap.size, k1, none⟩ (.int .u8 ((d.length : Int) % 256)) = w9 at *
    refine wpAnyH_take (i := 18) (v := ?_) rfl (by kernel_rfl) (by kernel_rfl) (by kernel_rfl) (fun _ _ _ h => h) (Or.inl ⟨by rfl, ?_⟩) (by assumption) ?_
    rotate_left
    · (intro w hSw; (try dsimp only at hSw); first | (go_simp; done) | (go_simp; with_reducible rfl))
    simp only [Act.put, List.getElem_toArray, List.getElem_cons_zero, List.getElem_cons_succ, List.setIfInBounds_toArray, List.set_cons_zero, List.set_cons_succ]
    have x1 := C9.out.row.cell k2
    rw [by_get (by rw [List.length_set, QL.out]; exact hb2)] at x1
    have x2 := C9.out.row.free k2
    have c10 := C9.out.put k2 (d.length / 256)
    rw [show ((d.length / 256 : Nat) : Int) = (d.length : Int) / 256 by omega] at c10
    have C10 := Lib.hid c10
    clear c10
    refine wpAnyH_ready (rs := [19]) (by kernel_rfl) (by simp) ?_
    refine AllReadyH.cons rfl (fun K hK => ?_) AllReadyH.nil
    go_simp
    refine hK.out _ _ (C10.out.box3.cell 0) (fun hH2 => ?_)
    clear hK K hH1 x1 x2 C9
    refine wpAnyH_done (by kernel_rfl) ?_ _
    clear hH2 q1 q2 q3 hu1 hu2 p1 p2
    generalize w9.setCell ⟨w.heap.size, k2, none⟩ (.int .u8 ((d.length : Int) / 256)) = w10 at *
    have QL2 := Lib.hid (show (((buf size L i).set k1 (d.length % 256)).set k2 (d.length / 256)).length = size by rw [List.length_set, List.length_set, QL.out])
    generalize ((buf size L i).set k1 (d.length % 256)).set k2 (d.length / 256) = q at *
    gi_wp2
    have C11 := Lib.hid C10.out.drew
    have D11 := Lib.hid (show Only (fun j => j = w.heap.size ∨ j = w.heap.size + 2) Wc w10.drew from C11.out.only)
    refine still.region_held_in (S := fun ws => ws.cell? ⟨w.heap.size + 1, 0, none⟩ = some (.slice (some ⟨w.heap.size, 0, none⟩) size size)) (still.rowy_round (w7.heap.size + 1)) (by kernel_rfl) (by kernel_rfl) (fun _ _ h => h) (C11.out.box3.cell 0) (fun hHeld => ?_)
    clear C10
    generalize w10.drew = w11 at *
    refine wpAnyH_take (i := 1) (v := ?_) rfl (by kernel_rfl) (by kernel_rfl) (by kernel_rfl) (fun _ _ _ h => h) (Or.inl ⟨by rfl, ?_⟩) (by assumption) ?_
    rotate_left
    · (intro w hSw; (try dsimp only at hSw); first | (go_simp; done) | (go_simp; with_reducible rfl))
    simp only [Act.put, List.getElem_toArray, List.getElem_cons_zero, List.getElem_cons_succ, List.setIfInBounds_toArray, List.set_cons_zero, List.set_cons_succ]
    refine wpAnyH_take (i := 4) (v := ?_) rfl (by kernel_rfl) (by kernel_rfl) (by kernel_rfl) (fun _ _ _ h => h) (Or.inl ⟨by rfl, ?_⟩) (by assumption) ?_
    rotate_left
    · (intro w hSw; (try dsimp only at hSw); first | (go_simp; done) | (go_simp; with_reducible rfl))
    simp only [Act.put, List.getElem_toArray, List.getElem_cons_zero, List.getElem_cons_succ, List.setIfInBounds_toArray, List.set_cons_zero, List.set_cons_succ]
    have x4 := C11.out.box4.cell 0
    have hdl : at_ L i + d.length ≤ size := by rw [← AS.out]; omega
    have p1 : (at_ L i ≤ size) = True := by simp; omega
    have p2 : (size = at_ L i) = False := by simp; omega
    have c12 := C11.out.copy (d := d) (at_ L i)
    rw [By_len] at c12
    have C12 := Lib.hid c12
    obtain ⟨ad, hA, hsrc⟩ := (LY.out _ D11.out).src lsm
    subst hA
    have hr := run_copy_row (P := Try.prog) w11 28 28 3 5 w.heap.size (at_ L i) (size - at_ L i) (size - at_ L i) ad d.length c (By q).toArray 5 (By d) Try.underlying28 bytes.size_u8 C11.out.row (by rw [By_len]; exact (Nat.min_eq_left (by omega)).symm) hsrc (by rw [By_len]; simp only [List.size_toArray]; rw [By_len, QL2.out]; omega) (bytes.by_one d)
    rw [By_len] at hr
    have HR := Lib.hid hr
    clear c12 hsrc hr
    refine wpAnyH_ready (rs := [0, 2]) (by kernel_rfl) (by simp) ?_
    refine AllReadyH.cons rfl (fun K hK => ?_) (AllReadyH.cons rfl (fun K hK => ?_) AllReadyH.nil)
    · go_simp
      refine hK.out _ _ (C11.out.box3.cell 0) (fun hH1 => ?_)
      clear hK K hHeld
      refine wpAnyH_ready (rs := [2]) (by kernel_rfl) (by simp) ?_
      refine AllReadyH.cons rfl (fun K hK => ?_) AllReadyH.nil
      go_simp
      refine hK.out _ _ (C11.out.box3.cell 0) (fun hH2 => ?_)
      clear hK K hH1
      refine wpAnyH_take (i := 3) (v := ?_) rfl (by kernel_rfl) (by kernel_rfl) (by kernel_rfl) (fun _ _ _ h => h) (Or.inl ⟨by rfl, ?_⟩) (by assumption) ?_
      rotate_left
      · (intro w hSw; (try dsimp only at hSw); first | (go_simp; done) | (go_simp; with_reducible rfl))
      simp only [Act.put, List.getElem_toArray, List.getElem_cons_zero, List.getElem_cons_succ, List.setIfInBounds_toArray, List.set_cons_zero, List.set_cons_succ]
      refine wpAnyH_ready (rs := [5]) (by kernel_rfl) (by simp) ?_
      refine AllReadyH.cons rfl (fun K hK => ?_) AllReadyH.nil
      rw [if_pos (by rfl)]
      refine op_copy (.tmp 52) (.tmp 53) rfl rfl rfl HR.out ?_
      simp only [Act.put, List.setIfInBounds_toArray, List.set_cons_zero, List.set_cons_succ]
      refine hK.out _ _ (C12.out.box3.cell 0) (fun hH3 => ?_)
      clear hK K hH2
      generalize w11.setRow w.heap.size ((By q).toArray.toList.take (at_ L i) ++ By d ++ (By q).toArray.toList.drop (at_ L i + d.length)).toArray = w12 at *
      have hgi : goInt (d.length : Int) = .int .i64 (d.length : Int) := rfl
      have hwl : IntKind.i64.wrap (((at_ L i : Nat) : Int) + (d.length : Int)) = ((at_ L i : Nat) : Int) + (d.length : Int) := IntWalk.i64_in _ (by omega)
      refine wpAnyH_take (i := 6) (v := ?_) rfl (by kernel_rfl) (by kernel_rfl) (by kernel_rfl) (fun _ _ _ h => h) (Or.inl ⟨by rfl, ?_⟩) (by assumption) ?_
      rotate_left
      · (intro w hSw; (try dsimp only at hSw); first | (go_simp; done) | (go_simp; with_reducible rfl))
      simp only [Act.put, List.getElem_toArray, List.getElem_cons_zero, List.getElem_cons_succ, List.setIfInBounds_toArray, List.set_cons_zero, List.set_cons_succ]
      have x5 := C12.out.box4.cell 0
      have x6 := C12.out.box4.free 0
      have fin := C12.out.fin CB.out LT.out BS.out
      rw [show ((at_ L (i + 1) : Nat) : Int) = ((at_ L i : Nat) : Int) + (d.length : Int) by rw [AS.out]; omega] at fin
      have FIN := Lib.hid fin
      clear fin
      refine wpAnyH_ready (rs := [7]) (by kernel_rfl) (by simp) ?_
      refine AllReadyH.cons rfl (fun K hK => ?_) AllReadyH.nil
      go_simp
      refine hK.out _ _ (FIN.out.1.box3.cell 0) (fun hHz => ?_)
      clear hK K hH3
      refine wpAnyH_done (by kernel_rfl) ?_ _
      clear hHz x5 x6
      gi_wp2
      exact ⟨Kept.of_only FIN.out.2 HLT.out (by have := LT.out; omega) (by have := LT.out; omega), fun W2 h2 => FIN.out.1.only h2 LT.out⟩
    · go_simp
      refine hK.out _ _ (C11.out.box3.cell 0) (fun hH1 => ?_)
      clear hK K hHeld
      refine wpAnyH_take (i := 3) (v := ?_) rfl (by kernel_rfl) (by kernel_rfl) (by kernel_rfl) (fun _ _ _ h => h) (Or.inl ⟨by rfl, ?_⟩) (by assumption) ?_
      rotate_left
      · (intro w hSw; (try dsimp only at hSw); first | (go_simp; done) | (go_simp; with_reducible rfl))
      simp only [Act.put, List.getElem_toArray, List.getElem_cons_zero, List.getElem_cons_succ, List.setIfInBounds_toArray, List.set_cons_zero, List.set_cons_succ]
      refine wpAnyH_ready (rs := [0, 5]) (by kernel_rfl) (by simp) ?_
      refine AllReadyH.cons rfl (fun K hK => ?_) (AllReadyH.cons rfl (fun K hK => ?_) AllReadyH.nil)
      · go_simp
        refine hK.out _ _ (C11.out.box3.cell 0) (fun hH2 => ?_)
        clear hK K hH1
        refine wpAnyH_ready (rs := [5]) (by kernel_rfl) (by simp) ?_
        refine AllReadyH.cons rfl (fun K hK => ?_) AllReadyH.nil
        rw [if_pos (by rfl)]
        refine op_copy (.tmp 52) (.tmp 53) rfl rfl rfl HR.out ?_
        simp only [Act.put, List.setIfInBounds_toArray, List.set_cons_zero, List.set_cons_succ]
        refine hK.out _ _ (C12.out.box3.cell 0) (fun hH3 => ?_)
        clear hK K hH2
        generalize w11.setRow w.heap.size ((By q).toArray.toList.take (at_ L i) ++ By d ++ (By q).toArray.toList.drop (at_ L i + d.length)).toArray = w12 at *
        have hgi : goInt (d.length : Int) = .int .i64 (d.length : Int) := rfl
        have hwl : IntKind.i64.wrap (((at_ L i : Nat) : Int) + (d.length : Int)) = ((at_ L i : Nat) : Int) + (d.length : Int) := IntWalk.i64_in _ (by omega)
        refine wpAnyH_take (i := 6) (v := ?_) rfl (by kernel_rfl) (by kernel_rfl) (by kernel_rfl) (fun _ _ _ h => h) (Or.inl ⟨by rfl, ?_⟩) (by assumption) ?_
        rotate_left
        · (intro w hSw; (try dsimp only at hSw); first | (go_simp; done) | (go_simp; with_reducible rfl))
        simp only [Act.put, List.getElem_toArray, List.getElem_cons_zero, List.getElem_cons_succ, List.setIfInBounds_toArray, List.set_cons_zero, List.set_cons_succ]
        have x5 := C12.out.box4.cell 0
        have x6 := C12.out.box4.free 0
        have fin := C12.out.fin CB.out LT.out BS.out
        rw [show ((at_ L (i + 1) : Nat) : Int) = ((at_ L i : Nat) : Int) + (d.length : Int) by rw [AS.out]; omega] at fin
        have FIN := Lib.hid fin
        clear fin
        refine wpAnyH_ready (rs := [7]) (by kernel_rfl) (by simp) ?_
        refine AllReadyH.cons rfl (fun K hK => ?_) AllReadyH.nil
        go_simp
        refine hK.out _ _ (FIN.out.1.box3.cell 0) (fun hHz => ?_)
        clear hK K hH3
        refine wpAnyH_done (by kernel_rfl) ?_ _
        clear hHz x5 x6
        gi_wp2
        exact ⟨Kept.of_only FIN.out.2 HLT.out (by have := LT.out; omega) (by have := LT.out; omega), fun W2 h2 => FIN.out.1.only h2 LT.out⟩
      · rw [if_pos (by rfl)]
        refine op_copy (.tmp 52) (.tmp 53) rfl rfl rfl HR.out ?_
        simp only [Act.put, List.setIfInBounds_toArray, List.set_cons_zero, List.set_cons_succ]
        refine hK.out _ _ (C12.out.box3.cell 0) (fun hH2 => ?_)
        clear hK K hH1
        generalize w11.setRow w.heap.size ((By q).toArray.toList.take (at_ L i) ++ By d ++ (By q).toArray.toList.drop (at_ L i + d.length)).toArray = w12 at *
        have x4 := C12.out.box4.cell 0
        refine wpAnyH_ready (rs := [0]) (by kernel_rfl) (by simp) ?_
        refine AllReadyH.cons rfl (fun K hK => ?_) AllReadyH.nil
        go_simp
        refine hK.out _ _ (C12.out.box3.cell 0) (fun hH3 => ?_)
        clear hK K hH2
        have hgi : goInt (d.length : Int) = .int .i64 (d.length : Int) := rfl
        have hwl : IntKind.i64.wrap (((at_ L i : Nat) : Int) + (d.length : Int)) = ((at_ L i : Nat) : Int) + (d.length : Int) := IntWalk.i64_in _ (by omega)
        refine wpAnyH_take (i := 6) (v := ?_) rfl (by kernel_rfl) (by kernel_rfl) (by kernel_rfl) (fun _ _ _ h => h) (Or.inl ⟨by rfl, ?_⟩) (by assumption) ?_
        rotate_left
        · (intro w hSw; (try dsimp only at hSw); first | (go_simp; done) | (go_simp; with_reducible rfl))
        simp only [Act.put, List.getElem_toArray, List.getElem_cons_zero, List.getElem_cons_succ, List.setIfInBounds_toArray, List.set_cons_zero, List.set_cons_succ]
        have x5 := C12.out.box4.cell 0
        have x6 := C12.out.box4.free 0
        have fin := C12.out.fin CB.out LT.out BS.out
        rw [show ((at_ L (i + 1) : Nat) : Int) = ((at_ L i : Nat) : Int) + (d.length : Int) by rw [AS.out]; omega] at fin
        have FIN := Lib.hid fin
        clear fin
        refine wpAnyH_ready (rs := [7]) (by kernel_rfl) (by simp) ?_
        refine AllReadyH.cons rfl (fun K hK => ?_) AllReadyH.nil
        go_simp
        refine hK.out _ _ (FIN.out.1.box3.cell 0) (fun hHz => ?_)
        clear hK K hH3
        refine wpAnyH_done (by kernel_rfl) ?_ _
        clear hHz x5 x6
        gi_wp2
        exact ⟨Kept.of_only FIN.out.2 HLT.out (by have := LT.out; omega) (by have := LT.out; omega), fun W2 h2 => FIN.out.1.only h2 LT.out⟩
  case done =>
    rintro W0 W hsm0 hO hK
    have hc := hsm0.only hO LT.out
    have c0 := hc.box3.cell 0
    have KK := Lib.hid hK
    have BW := Lib.hid (M7.out.trans hc.below)
    have RW := Lib.hid hc.row
    rw [buf_end] at RW
    clear hsm0 hO hK hc
    go_wp2_with fail
    refine ⟨by simp, .inl ⟨_, _, rfl, run_takeDeferred KK.out, ?_⟩⟩
    refine ⟨.slice (some ⟨w.heap.size, 0, none⟩) size size, ?_, by rw [PBL.out], ?_, BW.out.trans (belowK_b (w := w) (Nat.le_refl _) _ w7.heap.size _ _ (by have := LT.out; omega) KK.out rfl rfl)⟩
    · simp [results, Try.f14, go_sem]
    · exact (World.putObj_heap_other (by have := LT.out; omega)).trans RW.out
  case stop =>
    rintro c W0 W h
    exact h.elim
end Go.Proofs.Ytikddbaenokdpaa.pg
