/-
  Contract of the law's 'same': a page has just these.
-/
import Derived.Test.YtikddbaenokdpaaSlK
namespace Go.Proofs.Ytikddbaenokdpaa.pg
open Go.RowKit Go.Shelf
open base (ret_bool ret_int made up Blk Only below_drewN)
open bytes (Small small_app small_take small_drop small_nil By By_len By_append)
open rk
set_option linter.unusedVariables false
set_option linter.unusedSimpArgs false

theorem pb_small {size : Nat} {L : List (List Nat)} (hl : L.length ≤ 63) (ht : tot L ≤ 4096) (hs : ∀ l ∈ L, Small l) : Small (pb size L) := by
  intro x hx
  unfold pb at hx
  simp only [List.cons_append, List.mem_cons, List.mem_append, List.mem_flatMap, List.mem_flatten, List.mem_replicate] at hx
  rcases hx with rfl | ⟨l, hl, hx⟩ | ⟨l, hl, hx⟩ | ⟨_, rfl⟩
  · omega
  · obtain ⟨i, hi, rfl⟩ := List.getElem_of_mem hl
    have := len_le_tot hi
    simp only [hd, List.mem_cons, List.not_mem_nil, or_false] at hx
    rcases hx with rfl | rfl <;> omega
  · exact hs l hl x hx
  · omega
theorem pb_len {size : Nat} {L : List (List Nat)} (ht : tot L ≤ size) : (pb size L).length = size := by
  rw [← buf_end]
  exact buf_len (Nat.le_refl _) ht
theorem Pg.small {U : Nat → Prop} {w : World} {B g size : Nat} {L : List (List Nat)} (h : Pg U w B g size L) : ∀ l ∈ L, Small l := by
  obtain ⟨v, V, p⟩ := h.ex
  intro l hl
  obtain ⟨i, hi, rfl⟩ := List.getElem_of_mem hl
  obtain ⟨hv, r⟩ := p.rd.get hi
  exact r.small
set_option maxRecDepth 100000 in
set_option maxHeartbeats 8000000 in
theorem same_any {U : Nat → Prop} {w : World} {B g size : Nat} {L : List (List Nat)} (h : Pg U w B g size L) (A : Option Addr) (c : Nat) (hA : Lay EL w A L) :
    Calls Try.prog 12 #[.pointer (some ⟨g, 0, none⟩), .slice A L.length c, .int .i64 size] w (SmP true w) := by
  have HA := Lib.hid hA
  have H := Lib.hid h
  have NU := Lib.hid (show L.length ≤ 63 ∧ tot L ≤ size ∧ size ≤ 4096 from ⟨h.gd.ln, h.gd.tt, h.gd.sz.2⟩)
  have TL := Lib.hid (fun k (h' : k < L.length) => (show (L[k]).length ≤ 4096 by have := len_le_tot h'; have := h.gd.tt; have := h.gd.sz; omega))
  have SM := Lib.hid (show ∀ k (h' : k < L.length), Small L[k] from fun k h' => h.small _ (List.getElem_mem h'))
  have hl63 : L.length ≤ 63 := h.gd.ln
  clear hA
  go_enter Try.func12, Try.ntmps12
  go_wp2_with fail
  go_loopw [7, 18] (fun n j wr => ∃ (k : Nat) (W : World), W = wr ∧ j = .int .i64 k ∧ n = .int .i64 (cnt (L.take k) : Nat) ∧ k ≤ L.length ∧ Below w.heap.size w wr) (fun _ j _ => L.length - (intOf j).toNat)
  case atStart => exact ⟨0, _, rfl, rfl, by rw [List.take_zero]; rfl, by omega, Below.refl _ _⟩
  case round =>
  obtain ⟨k, w2, rfl, rfl, rfl, hk, hb⟩ := hrel
  by_cases hkl : k < L.length
  · obtain ⟨b, off, rfl, hbl, e1⟩ := layl (HA.out.below hb) hkl
    have hm := TL.out k hkl
    have hemp : (bytes.str L[k]).toList.isEmpty = decide ((L[k]).length = 0) := Tx.empty ⟨rfl⟩
    have CT := Lib.hid (cnt_take hkl)
    have hck : cnt (L.take k) ≤ 63 := by have := cnt_le (L.take k); rw [List.length_take] at this; omega
    have B2 := Lib.hid hb
    by_cases q : L[k] = []
    · have hemp2 : (bytes.str L[k]).toList.isEmpty = true := by rw [hemp, q]; rfl
      have GN := Lib.hid (get_no (H.out.below hb) (i := (k : Int)) (by rw [hasB_in hkl, q]; rfl))
      have CE : cnt (L.take (k + 1)) = cnt (L.take k) := by rw [CT.out, if_pos q]; rfl
      have CE' := Lib.hid CE
      clear CE hemp CT hb
      generalize bytes.str L[k] = s1 at *
      go_wp2_with fail
      refine GN.out.mono ?_
      rintro e w3 ⟨rfl, rfl⟩
      go_wp2_with fail
      refine ⟨⟨k + 1, _, rfl, by go_num, by rw [CE'.out], by omega, B2.out⟩, by simp [intOf]; omega⟩
    · have hemp2 : (bytes.str L[k]).toList.isEmpty = false := by rw [hemp]; exact decide_eq_false (fun e => q (List.length_eq_zero_iff.1 e))
      have GY := Lib.hid (get_yes (H.out.below hb) hkl q)
      have SMk := Lib.hid (SM.out k hkl)
      have CE' := Lib.hid (show cnt (L.take (k + 1)) = cnt (L.take k) + 1 by rw [CT.out, if_neg q])
      clear hemp CT hb
      have CV := Lib.hid (fun (W : World) (A : Option Addr) (c : Nat) (hl : bytes.Lay W A L[k]) => bytes.conv_any W A c L[k] hl SMk.out)
      generalize hs : bytes.str L[k] = s1 at *
      go_wp2_with fail
      refine GY.out.mono ?_
      rintro e w3 ⟨A', c', rfl, ho, hb3⟩
      obtain ⟨A2, c2, e2, hly, -⟩ := ho.lay
      simp only [Value.slice.injEq] at e2
      obtain ⟨rfl, -, rfl⟩ := e2
      have cv := CV.out w3 A' c' hly
      have B3 := Lib.hid (up B2.out hb3 B2.out.size)
      clear ho hb3 hly
      go_wp2_with fail
      refine ⟨⟨k + 1, _, rfl, by go_num, by rw [CE'.out]; go_num, by omega, B3.out⟩, by simp [intOf]; omega⟩
  · obtain rfl : k = L.length := by omega
    have B2 := Lib.hid hb
    rw [List.take_length]
    have G1 := Lib.hid (get_no (H.out.below hb) (i := (L.length : Int)) (hasB_out (by omega)))
    have G2 := Lib.hid (get_no (H.out.below hb) (i := (-1 : Int)) (hasB_out (by omega)))
    have D1 := Lib.hid (show Below w.heap.size w w2.drew from hb.drew)
    have hcl : cnt L ≤ 63 := by have := cnt_le L; omega
    clear hb
    go_wp2_with fail
    refine G1.out.mono ?_
    rintro e w3 ⟨rfl, rfl⟩
    go_wp2_with fail
    refine G2.out.mono ?_
    rintro e w4 ⟨rfl, rfl⟩
    go_wp2_with fail
    refine wp_region_held_drew (S := fun _ => True) (by kernel_rfl) trivial (fun hHeld => ?_)
    generalize w4.drew = w5 at *
    obtain ⟨X, hX⟩ : ∃ X, X = bytes.str (pb size L) := ⟨_, rfl⟩
    have P5 := Lib.hid (H.out.below D1.out)
    have CV := Lib.hid (fun (W : World) (b : Nat) (h : bytes.Lay W (some ⟨b, 0, none⟩) (pb size L)) => (show (convert 28 9 (.slice (some ⟨b, 0, none⟩) (pb size L).length (pb size L).length)).run Try.prog W = .ok (.string X) W from by
      rw [hX]
      exact bytes.conv_any W _ _ _ h (pb_small NU.out.1 (by have := NU.out; omega) H.out.small)))
    have BY := Lib.hid (fun ws (h : Below w5.heap.size w5 ws) => bytes_any (P5.out.below h))
    have RB := Lib.hid (fun ws (h : Below w.heap.size w ws) => (show Calls Try.prog 28 #[.slice A L.length c, .int .i64 size] ws (fun e w' => e = .returned (.string X) ∧ Below ws.heap.size ws w') from by
      rw [hX]
      exact rbytes_any A c L size ws (HA.out.below h) NU.out.1 NU.out.2.1 NU.out.2.2))
    clear hX
    refine wpAnyH_take (i := 0) (v := ?_) rfl (by kernel_rfl) (by kernel_rfl) (by kernel_rfl) (fun _ _ _ h => h) (Or.inl ⟨by rfl, ?_⟩) (by assumption) ?_
    rotate_left
    · (intro w hSw; (try dsimp only at hSw); first | (go_simp; done) | (go_simp; with_reducible rfl))
    simp only [Act.put, List.getElem_toArray, List.getElem_cons_zero, List.getElem_cons_succ, List.setIfInBounds_toArray, List.set_cons_zero, List.set_cons_succ]
    refine wpAnyH_take (i := 2) (v := ?_) rfl (by kernel_rfl) (by kernel_rfl) (by kernel_rfl) (fun _ _ _ h => h) (Or.inl ⟨by rfl, ?_⟩) (by assumption) ?_
    rotate_left
    · (intro w hSw; (try dsimp only at hSw); first | (go_simp; done) | (go_simp; with_reducible rfl))
    simp only [Act.put, List.getElem_toArray, List.getElem_cons_zero, List.getElem_cons_succ, List.setIfInBounds_toArray, List.set_cons_zero, List.set_cons_succ]
    refine wpAnyH_take (i := 3) (v := ?_) rfl (by kernel_rfl) (by kernel_rfl) (by kernel_rfl) (fun _ _ _ h => h) (Or.inl ⟨by rfl, ?_⟩) (by assumption) ?_
    rotate_left
    · (intro w hSw; (try dsimp only at hSw); first | (go_simp; done) | (go_simp; with_reducible rfl))
    simp only [Act.put, List.getElem_toArray, List.getElem_cons_zero, List.getElem_cons_succ, List.setIfInBounds_toArray, List.set_cons_zero, List.set_cons_succ]
    refine wpAnyH_ready (rs := [1]) (by kernel_rfl) (by simp) ?_
    refine AllReadyH.cons rfl (fun K hK => ?_) AllReadyH.nil
    go_simp
    go_wp2_with (go_at_call 20; refine (slots_any P5.out).mono ?_; rintro e wx ⟨rfl, rfl⟩)
    refine hK.out _ _ trivial (fun hH1 => ?_)
    clear hK K hHeld
    refine wpAnyH_take (i := 4) (v := ?_) rfl (by kernel_rfl) (by kernel_rfl) (by kernel_rfl) (fun _ _ _ h => h) (Or.inl ⟨by rfl, ?_⟩) (by assumption) ?_
    rotate_left
    · (intro w hSw; (try dsimp only at hSw); first | (go_simp; done) | (go_simp; with_reducible rfl))
    simp only [Act.put, List.getElem_toArray, List.getElem_cons_zero, List.getElem_cons_succ, List.setIfInBounds_toArray, List.set_cons_zero, List.set_cons_succ]
    refine wpAnyH_take (i := 5) (v := ?_) rfl (by kernel_rfl) (by kernel_rfl) (by kernel_rfl) (fun _ _ _ h => h) (Or.inl ⟨by rfl, ?_⟩) (by assumption) ?_
    rotate_left
    · (intro w hSw; (try dsimp only at hSw); first | (go_simp; done) | (go_simp; with_reducible rfl))
    simp only [Act.put, List.getElem_toArray, List.getElem_cons_zero, List.getElem_cons_succ, List.setIfInBounds_toArray, List.set_cons_zero, List.set_cons_succ]
    refine wpAnyH_take (i := 6) (v := ?_) rfl (by kernel_rfl) (by kernel_rfl) (by kernel_rfl) (fun _ _ _ h => h) (Or.inl ⟨by rfl, ?_⟩) (by assumption) ?_
    rotate_left
    · (intro w hSw; (try dsimp only at hSw); first | (go_simp; done) | (go_simp; with_reducible rfl))
    simp only [Act.put, List.getElem_toArray, List.getElem_cons_zero, List.getElem_cons_succ, List.setIfInBounds_toArray, List.set_cons_zero, List.set_cons_succ]
    refine wpAnyH_take (i := 8) (v := ?_) rfl (by kernel_rfl) (by kernel_rfl) (by kernel_rfl) (fun _ _ _ h => h) (Or.inl ⟨by rfl, ?_⟩) (by assumption) ?_
    rotate_left
    · (intro w hSw; (try dsimp only at hSw); first | (go_simp; done) | (go_simp; with_reducible rfl))
    simp only [Act.put, List.getElem_toArray, List.getElem_cons_zero, List.getElem_cons_succ, List.setIfInBounds_toArray, List.set_cons_zero, List.set_cons_succ]
    refine wpAnyH_ready (rs := [7]) (by kernel_rfl) (by simp) ?_
    refine AllReadyH.cons rfl (fun K hK => ?_) AllReadyH.nil
    go_simp
    go_wp2_with (go_at_call 22; refine (len_any P5.out).mono ?_; rintro e w6 ⟨rfl, hb6⟩)
    have D6 := Lib.hid (up D1.out hb6 D1.out.size)
    have P6 := Lib.hid (P5.out.below hb6)
    have F6 := Lib.hid hb6
    refine hK.out _ _ trivial (fun hH2 => ?_)
    clear hK K hH1 hb6
    refine wpAnyH_take (i := 9) (v := ?_) rfl (by kernel_rfl) (by kernel_rfl) (by kernel_rfl) (fun _ _ _ h => h) (Or.inl ⟨by rfl, ?_⟩) (by assumption) ?_
    rotate_left
    · (intro w hSw; (try dsimp only at hSw); first | (go_simp; done) | (go_simp; with_reducible rfl))
    simp only [Act.put, List.getElem_toArray, List.getElem_cons_zero, List.getElem_cons_succ, List.setIfInBounds_toArray, List.set_cons_zero, List.set_cons_succ]
    refine wpAnyH_take (i := 10) (v := ?_) rfl (by kernel_rfl) (by kernel_rfl) (by kernel_rfl) (fun _ _ _ h => h) (Or.inl ⟨by rfl, ?_⟩) (by assumption) ?_
    rotate_left
    · (intro w hSw; (try dsimp only at hSw); first | (go_simp; done) | (go_simp; with_reducible rfl))
    simp only [Act.put, List.getElem_toArray, List.getElem_cons_zero, List.getElem_cons_succ, List.setIfInBounds_toArray, List.set_cons_zero, List.set_cons_succ]
    refine wpAnyH_take (i := 11) (v := ?_) rfl (by kernel_rfl) (by kernel_rfl) (by kernel_rfl) (fun _ _ _ h => h) (Or.inl ⟨by rfl, ?_⟩) (by assumption) ?_
    rotate_left
    · (intro w hSw; (try dsimp only at hSw); first | (go_simp; done) | (go_simp; with_reducible rfl))
    simp only [Act.put, List.getElem_toArray, List.getElem_cons_zero, List.getElem_cons_succ, List.setIfInBounds_toArray, List.set_cons_zero, List.set_cons_succ]
    refine wpAnyH_take (i := 12) (v := ?_) rfl (by kernel_rfl) (by kernel_rfl) (by kernel_rfl) (fun _ _ _ h => h) (Or.inl ⟨by rfl, ?_⟩) (by assumption) ?_
    rotate_left
    · (intro w hSw; (try dsimp only at hSw); first | (go_simp; done) | (go_simp; with_reducible rfl))
    simp only [Act.put, List.getElem_toArray, List.getElem_cons_zero, List.getElem_cons_succ, List.setIfInBounds_toArray, List.set_cons_zero, List.set_cons_succ]
    refine wpAnyH_take (i := 14) (v := ?_) rfl (by kernel_rfl) (by kernel_rfl) (by kernel_rfl) (fun _ _ _ h => h) (Or.inl ⟨by rfl, ?_⟩) (by assumption) ?_
    rotate_left
    · (intro w hSw; (try dsimp only at hSw); first | (go_simp; done) | (go_simp; with_reducible rfl))
    simp only [Act.put, List.getElem_toArray, List.getElem_cons_zero, List.getElem_cons_succ, List.setIfInBounds_toArray, List.set_cons_zero, List.set_cons_succ]
    refine wpAnyH_ready (rs := [13]) (by kernel_rfl) (by simp) ?_
    refine AllReadyH.cons rfl (fun K hK => ?_) AllReadyH.nil
    go_simp
    go_wp2_with (go_at_call 19; refine (size_any P6.out).mono ?_; rintro e wx ⟨rfl, rfl⟩)
    refine hK.out _ _ trivial (fun hH3 => ?_)
    clear hK K hH2
    refine wpAnyH_take (i := 15) (v := ?_) rfl (by kernel_rfl) (by kernel_rfl) (by kernel_rfl) (fun _ _ _ h => h) (Or.inl ⟨by rfl, ?_⟩) (by assumption) ?_
    rotate_left
    · (intro w hSw; (try dsimp only at hSw); first | (go_simp; done) | (go_simp; with_reducible rfl))
    simp only [Act.put, List.getElem_toArray, List.getElem_cons_zero, List.getElem_cons_succ, List.setIfInBounds_toArray, List.set_cons_zero, List.set_cons_succ]
    refine wpAnyH_take (i := 16) (v := ?_) rfl (by kernel_rfl) (by kernel_rfl) (by kernel_rfl) (fun _ _ _ h => h) (Or.inl ⟨by rfl, ?_⟩) (by assumption) ?_
    rotate_left
    · (intro w hSw; (try dsimp only at hSw); first | (go_simp; done) | (go_simp; with_reducible rfl))
    simp only [Act.put, List.getElem_toArray, List.getElem_cons_zero, List.getElem_cons_succ, List.setIfInBounds_toArray, List.set_cons_zero, List.set_cons_succ]
    refine wpAnyH_take (i := 17) (v := ?_) rfl (by kernel_rfl) (by kernel_rfl) (by kernel_rfl) (fun _ _ _ h => h) (Or.inl ⟨by rfl, ?_⟩) (by assumption) ?_
    rotate_left
    · (intro w hSw; (try dsimp only at hSw); first | (go_simp; done) | (go_simp; with_reducible rfl))
    simp only [Act.put, List.getElem_toArray, List.getElem_cons_zero, List.getElem_cons_succ, List.setIfInBounds_toArray, List.set_cons_zero, List.set_cons_succ]
    refine wpAnyH_take (i := 18) (v := ?_) rfl (by kernel_rfl) (by kernel_rfl) (by kernel_rfl) (fun _ _ _ h => h) (Or.inl ⟨by rfl, ?_⟩) (by assumption) ?_
    rotate_left
    · (intro w hSw; (try dsimp only at hSw); first | (go_simp; done) | (go_simp; with_reducible rfl))
    simp only [Act.put, List.getElem_toArray, List.getElem_cons_zero, List.getElem_cons_succ, List.setIfInBounds_toArray, List.set_cons_zero, List.set_cons_succ]
    refine wpAnyH_take (i := 19) (v := ?_) rfl (by kernel_rfl) (by kernel_rfl) (by kernel_rfl) (fun _ _ _ h => h) (Or.inl ⟨by rfl, ?_⟩) (by assumption) ?_
    rotate_left
    · (intro w hSw; (try dsimp only at hSw); first | (go_simp; done) | (go_simp; with_reducible rfl))
    simp only [Act.put, List.getElem_toArray, List.getElem_cons_zero, List.getElem_cons_succ, List.setIfInBounds_toArray, List.set_cons_zero, List.set_cons_succ]
    refine wpAnyH_take (i := 20) (v := ?_) rfl (by kernel_rfl) (by kernel_rfl) (by kernel_rfl) (fun _ _ _ h => h) (Or.inl ⟨by rfl, ?_⟩) (by assumption) ?_
    rotate_left
    · (intro w hSw; (try dsimp only at hSw); first | (go_simp; done) | (go_simp; with_reducible rfl))
    simp only [Act.put, List.getElem_toArray, List.getElem_cons_zero, List.getElem_cons_succ, List.setIfInBounds_toArray, List.set_cons_zero, List.set_cons_succ]
    refine wpAnyH_take (i := 21) (v := ?_) rfl (by kernel_rfl) (by kernel_rfl) (by kernel_rfl) (fun _ _ _ h => h) (Or.inl ⟨by rfl, ?_⟩) (by assumption) ?_
    rotate_left
    · (intro w hSw; (try dsimp only at hSw); first | (go_simp; done) | (go_simp; with_reducible rfl))
    simp only [Act.put, List.getElem_toArray, List.getElem_cons_zero, List.getElem_cons_succ, List.setIfInBounds_toArray, List.set_cons_zero, List.set_cons_succ]
    refine wpAnyH_take (i := 22) (v := ?_) rfl (by kernel_rfl) (by kernel_rfl) (by kernel_rfl) (fun _ _ _ h => h) (Or.inl ⟨by rfl, ?_⟩) (by assumption) ?_
    rotate_left
    · (intro w hSw; (try dsimp only at hSw); first | (go_simp; done) | (go_simp; with_reducible rfl))
    simp only [Act.put, List.getElem_toArray, List.getElem_cons_zero, List.getElem_cons_succ, List.setIfInBounds_toArray, List.set_cons_zero, List.set_cons_succ]
    refine wpAnyH_take (i := 23) (v := ?_) rfl (by kernel_rfl) (by kernel_rfl) (by kernel_rfl) (fun _ _ _ h => h) (Or.inl ⟨by rfl, ?_⟩) (by assumption) ?_
    rotate_left
    · (intro w hSw; (try dsimp only at hSw); first | (go_simp; done) | (go_simp; with_reducible rfl))
    simp only [Act.put, List.getElem_toArray, List.getElem_cons_zero, List.getElem_cons_succ, List.setIfInBounds_toArray, List.set_cons_zero, List.set_cons_succ]
    refine wpAnyH_take (i := 24) (v := ?_) rfl (by kernel_rfl) (by kernel_rfl) (by kernel_rfl) (fun _ _ _ h => h) (Or.inl ⟨by rfl, ?_⟩) (by assumption) ?_
    rotate_left
    · (intro w hSw; (try dsimp only at hSw); first | (go_simp; done) | (go_simp; with_reducible rfl))
    simp only [Act.put, List.getElem_toArray, List.getElem_cons_zero, List.getElem_cons_succ, List.setIfInBounds_toArray, List.set_cons_zero, List.set_cons_succ]
    refine wpAnyH_take (i := 25) (v := ?_) rfl (by kernel_rfl) (by kernel_rfl) (by kernel_rfl) (fun _ _ _ h => h) (Or.inl ⟨by rfl, ?_⟩) (by assumption) ?_
    rotate_left
    · (intro w hSw; (try dsimp only at hSw); first | (go_simp; done) | (go_simp; with_reducible rfl))
    simp only [Act.put, List.getElem_toArray, List.getElem_cons_zero, List.getElem_cons_succ, List.setIfInBounds_toArray, List.set_cons_zero, List.set_cons_succ]
    refine wpAnyH_take (i := 26) (v := ?_) rfl (by kernel_rfl) (by kernel_rfl) (by kernel_rfl) (fun _ _ _ h => h) (Or.inl ⟨by rfl, ?_⟩) (by assumption) ?_
    rotate_left
    · (intro w hSw; (try dsimp only at hSw); first | (go_simp; done) | (go_simp; with_reducible rfl))
    simp only [Act.put, List.getElem_toArray, List.getElem_cons_zero, List.getElem_cons_succ, List.setIfInBounds_toArray, List.set_cons_zero, List.set_cons_succ]
    refine wpAnyH_take (i := 29) (v := ?_) rfl (by kernel_rfl) (by kernel_rfl) (by kernel_rfl) (fun _ _ _ h => h) (Or.inl ⟨by rfl, ?_⟩) (by assumption) ?_
    rotate_left
    · (intro w hSw; (try dsimp only at hSw); first | (go_simp; done) | (go_simp; with_reducible rfl))
    simp only [Act.put, List.getElem_toArray, List.getElem_cons_zero, List.getElem_cons_succ, List.setIfInBounds_toArray, List.set_cons_zero, List.set_cons_succ]
    refine wpAnyH_take (i := 30) (v := ?_) rfl (by kernel_rfl) (by kernel_rfl) (by kernel_rfl) (fun _ _ _ h => h) (Or.inl ⟨by rfl, ?_⟩) (by assumption) ?_
    rotate_left
    · (intro w hSw; (try dsimp only at hSw); first | (go_simp; done) | (go_simp; with_reducible rfl))
    simp only [Act.put, List.getElem_toArray, List.getElem_cons_zero, List.getElem_cons_succ, List.setIfInBounds_toArray, List.set_cons_zero, List.set_cons_succ]
    refine wpAnyH_ready (rs := [27]) (by kernel_rfl) (by simp) ?_
    refine AllReadyH.cons rfl (fun K hK => ?_) AllReadyH.nil
    go_simp
    go_wp2_with (go_at_call 14; refine (BY.out _ F6.out).mono ?_; rintro e w7 ⟨rfl, k7, hb7⟩)
    have D7 := Lib.hid (up D6.out hb7 D6.out.size)
    have B7 := Lib.hid k7
    refine hK.out _ _ trivial (fun hH4 => ?_)
    clear hK K hH3 hb7 k7
    refine wpAnyH_ready (rs := [28, 31]) (by kernel_rfl) (by simp) ?_
    refine AllReadyH.cons rfl (fun K hK => ?_) (AllReadyH.cons rfl (fun K hK => ?_) AllReadyH.nil)
    · have cv := CV.out w7 _ (lay_of_blk B7.out)
      go_simp
      refine hK.out _ _ trivial (fun hH5 => ?_)
      clear hK K hH4 cv
      refine wpAnyH_ready (rs := [31]) (by kernel_rfl) (by simp) ?_
      refine AllReadyH.cons rfl (fun K hK => ?_) AllReadyH.nil
      go_simp
      go_wp2_with (go_at_call 28; refine (RB.out _ D7.out).mono ?_; rintro e w8 ⟨rfl, hb8⟩)
      have D8 := Lib.hid (up D7.out hb8 D7.out.size)
      have B8 := Lib.hid (B7.out.below hb8 B7.out.lt)
      refine hK.out _ _ trivial (fun hH6 => ?_)
      clear hK K hH5 hb8
      refine wpAnyH_take (i := 32) (v := ?_) rfl (by kernel_rfl) (by kernel_rfl) (by kernel_rfl) (fun _ _ _ h => h) (Or.inl ⟨by rfl, ?_⟩) (by assumption) ?_
      rotate_left
      · (intro w hSw; (try dsimp only at hSw); first | (go_simp; done) | (go_simp; with_reducible rfl))
      simp only [Act.put, List.getElem_toArray, List.getElem_cons_zero, List.getElem_cons_succ, List.setIfInBounds_toArray, List.set_cons_zero, List.set_cons_succ]
      refine wpAnyH_take (i := 33) (v := ?_) rfl (by kernel_rfl) (by kernel_rfl) (by kernel_rfl) (fun _ _ _ h => h) (Or.inl ⟨by rfl, ?_⟩) (by assumption) ?_
      rotate_left
      · (intro w hSw; (try dsimp only at hSw); first | (go_simp; done) | (go_simp; with_reducible rfl))
      simp only [Act.put, List.getElem_toArray, List.getElem_cons_zero, List.getElem_cons_succ, List.setIfInBounds_toArray, List.set_cons_zero, List.set_cons_succ]
      refine wpAnyH_take (i := 34) (v := ?_) rfl (by kernel_rfl) (by kernel_rfl) (by kernel_rfl) (fun _ _ _ h => h) (Or.inl ⟨by rfl, ?_⟩) (by assumption) ?_
      rotate_left
      · (intro w hSw; (try dsimp only at hSw); first | (go_simp; done) | (go_simp; with_reducible rfl))
      simp only [Act.put, List.getElem_toArray, List.getElem_cons_zero, List.getElem_cons_succ, List.setIfInBounds_toArray, List.set_cons_zero, List.set_cons_succ]
      refine wpAnyH_done (by kernel_rfl) ?_ _
      clear hH6
      go_wp2_with fail
      go_ret
      exact ⟨rfl, D8.out⟩
    · go_simp
      go_wp2_with (go_at_call 28; refine (RB.out _ D7.out).mono ?_; rintro e w8 ⟨rfl, hb8⟩)
      have D8 := Lib.hid (up D7.out hb8 D7.out.size)
      have B8 := Lib.hid (B7.out.below hb8 B7.out.lt)
      refine hK.out _ _ trivial (fun hH6 => ?_)
      clear hK K hH4 hb8
      refine wpAnyH_ready (rs := [28]) (by kernel_rfl) (by simp) ?_
      refine AllReadyH.cons rfl (fun K hK => ?_) AllReadyH.nil
      have cv := CV.out w8 _ (lay_of_blk B8.out)
      go_simp
      refine hK.out _ _ trivial (fun hH5 => ?_)
      clear hK K hH6 cv
      refine wpAnyH_take (i := 32) (v := ?_) rfl (by kernel_rfl) (by kernel_rfl) (by kernel_rfl) (fun _ _ _ h => h) (Or.inl ⟨by rfl, ?_⟩) (by assumption) ?_
      rotate_left
      · (intro w hSw; (try dsimp only at hSw); first | (go_simp; done) | (go_simp; with_reducible rfl))
      simp only [Act.put, List.getElem_toArray, List.getElem_cons_zero, List.getElem_cons_succ, List.setIfInBounds_toArray, List.set_cons_zero, List.set_cons_succ]
      refine wpAnyH_take (i := 33) (v := ?_) rfl (by kernel_rfl) (by kernel_rfl) (by kernel_rfl) (fun _ _ _ h => h) (Or.inl ⟨by rfl, ?_⟩) (by assumption) ?_
      rotate_left
      · (intro w hSw; (try dsimp only at hSw); first | (go_simp; done) | (go_simp; with_reducible rfl))
      simp only [Act.put, List.getElem_toArray, List.getElem_cons_zero, List.getElem_cons_succ, List.setIfInBounds_toArray, List.set_cons_zero, List.set_cons_succ]
      refine wpAnyH_take (i := 34) (v := ?_) rfl (by kernel_rfl) (by kernel_rfl) (by kernel_rfl) (fun _ _ _ h => h) (Or.inl ⟨by rfl, ?_⟩) (by assumption) ?_
      rotate_left
      · (intro w hSw; (try dsimp only at hSw); first | (go_simp; done) | (go_simp; with_reducible rfl))
      simp only [Act.put, List.getElem_toArray, List.getElem_cons_zero, List.getElem_cons_succ, List.setIfInBounds_toArray, List.set_cons_zero, List.set_cons_succ]
      refine wpAnyH_done (by kernel_rfl) ?_ _
      clear hH5
      go_wp2_with fail
      go_ret
      exact ⟨rfl, D8.out⟩
end Go.Proofs.Ytikddbaenokdpaa.pg
