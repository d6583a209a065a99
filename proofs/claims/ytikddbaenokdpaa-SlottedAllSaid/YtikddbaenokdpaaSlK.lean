/-
  Contract of the reference of slotted: Bytes.
-/
import Derived.Test.YtikddbaenokdpaaSlJ
namespace Go.Proofs.Ytikddbaenokdpaa.pg
open Go.RowKit Go.Shelf
open base (ret_bool ret_int made up Blk Only below_drewN)
open bytes (Small small_app small_take small_drop small_nil By By_len By_append)
open rk
set_option linter.unusedVariables false
set_option linter.unusedSimpArgs false

def h1 (L : List (List Nat)) (k : Nat) : List Nat := L.length :: (L.take k).flatMap hd
def h2 (L : List (List Nat)) (k : Nat) : List Nat := (L.length :: L.flatMap hd) ++ (L.take k).flatten
def h3 (L : List (List Nat)) (k : Nat) : List Nat := (L.length :: L.flatMap hd) ++ (L.flatten ++ List.replicate k 0)
theorem h1_succ {L : List (List Nat)} {k : Nat} (h : k < L.length) : h1 L (k + 1) = h1 L k ++ hd L[k] := by
  unfold h1
  rw [List.take_succ_eq_append_getElem h, List.flatMap_append]
  simp
theorem h1_end (L : List (List Nat)) : h1 L L.length = h2 L 0 := by unfold h1 h2; rw [List.take_length]; simp
theorem h2_succ {L : List (List Nat)} {k : Nat} (h : k < L.length) : h2 L (k + 1) = h2 L k ++ L[k] := by
  unfold h2
  rw [List.take_succ_eq_append_getElem h, List.flatten_append]
  simp
theorem h2_end (L : List (List Nat)) : h2 L L.length = h3 L 0 := by unfold h2 h3; rw [List.take_length]; simp
theorem h3_succ (L : List (List Nat)) (k : Nat) : h3 L (k + 1) = h3 L k ++ [0] := by
  unfold h3
  rw [List.replicate_succ']
  simp
theorem h3_end (L : List (List Nat)) (sz : Nat) : h3 L (sz - tot L) = pb sz L := rfl
theorem h1_len (L : List (List Nat)) {k : Nat} (h : k ≤ L.length) : (h1 L k).length = 1 + 2 * k := by
  unfold h1
  rw [List.length_cons, hd_len, List.length_take, Nat.min_eq_left h]
  omega
theorem h2_len (L : List (List Nat)) {k : Nat} (h : k ≤ L.length) : (h2 L k).length ≤ tot L := by
  have := at_le (L := L) k
  unfold at_ at this
  unfold h2
  rw [List.length_append, List.length_cons, hd_len]
  omega
theorem h3_len (L : List (List Nat)) (k : Nat) : (h3 L k).length = tot L + k := by
  rw [tot_flat]
  unfold h3
  rw [List.length_append, List.length_cons, hd_len, List.length_append, List.length_replicate]
  omega
def StrP (l : List Nat) (w : World) (e : Ending) (w' : World) : Prop := e = .returned (.string (bytes.str l)) ∧ Below w.heap.size w w'
set_option maxRecDepth 100000 in
set_option maxHeartbeats 8000000 in
theorem rbytes_any (A : Option Addr) (c : Nat) (L : List (List Nat)) (sz : Nat) (w : World) (hA : Lay EL w A L) (hl : L.length ≤ 63) (ht : tot L ≤ sz) (hs : sz ≤ 4096) :
    Calls Try.prog 28 #[.slice A L.length c, .int .i64 sz] w (StrP (pb sz L) w) := by
  have HA := Lib.hid hA
  have hcv : IntKind.u8.wrap (L.length : Int) = (L.length : Int) := by
    have : (IntKind.u8).wrap (L.length : Int) = (L.length : Int) % 256 := by first | rfl | simp [IntKind.wrap]
    omega
  have bl : Blk (w.alloc (.cells #[.int .u8 (L.length : Int)] 5)) w.heap.size 5 (By [L.length]).toArray := Blk.new w 5 #[.int .u8 (L.length : Int)]
  have cv0 : (convert 28 9 (.slice (some ⟨w.heap.size, 0, none⟩) 1 1)).run Try.prog (w.alloc (.cells #[.int .u8 (L.length : Int)] 5)) = .ok (.string (bytes.str (h1 L 0))) (w.alloc (.cells #[.int .u8 (L.length : Int)] 5)) :=
    bytes.conv_any _ (some ⟨w.heap.size, 0, none⟩) 1 [L.length] (lay_of_blk bl) (fun x hx => by rw [List.mem_singleton.1 hx]; omega)
  have M1 := Lib.hid (made w (.cells #[.int .u8 (L.length : Int)] 5))
  have TL := Lib.hid (fun k (h : k < L.length) => (show (L[k]).length ≤ 4096 by have := len_le_tot h; omega))
  have NU := Lib.hid (And.intro hl (And.intro ht hs))
  clear hA bl
  go_enter Try.func28, Try.ntmps28
  go_wp2_with fail
  clear cv0
  generalize w.alloc (.cells #[.int .u8 (L.length : Int)] 5) = w1 at *
  go_loopw [5, 6] (fun s j wr => ∃ (k : Nat) (W : World), W = wr ∧ j = .int .i64 k ∧ s = .string (bytes.str (h1 L k)) ∧ k ≤ L.length ∧ Below w.heap.size w wr) (fun _ j _ => L.length - (intOf j).toNat)
  case atStart => exact ⟨0, _, rfl, rfl, rfl, by omega, M1.out⟩
  case round =>
  clear M1 hcv
  obtain ⟨k, w2, rfl, rfl, rfl, hk, hb⟩ := hrel
  have B2 := Lib.hid hb
  by_cases hkl : k < L.length
  · obtain ⟨b, off, rfl, hbl, -⟩ := layl (HA.out.below hb) hkl
    have KS := Lib.hid (fun ws (h : Below w.heap.size w ws) => (show ws.cell? ⟨b, off + k, none⟩ = some (.string (bytes.str L[k])) from by
      obtain ⟨b', off', e, -, e1⟩ := layl (HA.out.below h) hkl
      injection e with e
      injection e with e2 e3
      subst e2 e3
      exact e1))
    have hm := TL.out k hkl
    have hsz : (bytes.str L[k]).size = (L[k]).length := str_size _
    have HS := Lib.hid (h1_succ hkl)
    have SZ := Lib.hid (show (bytes.str (h1 L k)).size = 1 + 2 * k by rw [str_size, h1_len L hk])
    have DR := Lib.hid (show Below w.heap.size w w2.drew from hb.drew)
    have HDS := Lib.hid (show Small (hd L[k]) from fun x hx => by
      simp only [hd, List.mem_cons, List.not_mem_nil, or_false] at hx
      rcases hx with rfl | rfl <;> omega)
    have HD2 := Lib.hid (show hd L[k] = [(L[k]).length % 256, (L[k]).length / 256] from rfl)
    have HDZ := Lib.hid (show (bytes.str (hd L[k])).size = 2 by rw [str_size]; rfl)
    clear hb hbl
    generalize L[k] = d at *
    have hu1 : IntKind.u8.wrap ((d.length : Int).tmod 256) = (d.length : Int) % 256 := by
      rw [Int.tmod_eq_emod_of_nonneg (by omega)]
      have : (IntKind.u8).wrap ((d.length : Int) % 256) = ((d.length : Int) % 256) % 256 := by first | rfl | simp [IntKind.wrap]
      omega
    have hu0 : IntKind.i64.wrap ((d.length : Int) / 256) = (d.length : Int) / 256 := IntWalk.i64_in _ (by omega)
    have hu2 : IntKind.u8.wrap ((d.length : Int) / 256) = (d.length : Int) / 256 := by
      have : (IntKind.u8).wrap ((d.length : Int) / 256) = ((d.length : Int) / 256) % 256 := by first | rfl | simp [IntKind.wrap]
      omega
    go_wp2_with fail
    refine wp_region_held_drew (S := fun ws => ws.cell? ⟨b, off + k, none⟩ = some (.string (bytes.str d))) (by kernel_rfl) (KS.out _ DR.out) (fun hHeld => ?_)
    generalize w2.drew = w3 at *
    refine wpAnyH_take (i := 0) (v := ?_) rfl (by kernel_rfl) (by kernel_rfl) (by kernel_rfl) (fun _ _ _ h => h) (Or.inl ⟨by rfl, ?_⟩) (by assumption) ?_
    rotate_left
    · (intro w hSw; (try dsimp only at hSw); first | (go_simp; done) | (go_simp; with_reducible rfl))
    simp only [Act.put, List.getElem_toArray, List.getElem_cons_zero, List.getElem_cons_succ, List.setIfInBounds_toArray, List.set_cons_zero, List.set_cons_succ]
    refine wpAnyH_take (i := 1) (v := ?_) rfl (by kernel_rfl) (by kernel_rfl) (by kernel_rfl) (fun _ _ _ h => h) (Or.inl ⟨by rfl, ?_⟩) (by assumption) ?_
    rotate_left
    · (intro w hSw; (try dsimp only at hSw); first | (go_simp; done) | (go_simp; with_reducible rfl))
    simp only [Act.put, List.getElem_toArray, List.getElem_cons_zero, List.getElem_cons_succ, List.setIfInBounds_toArray, List.set_cons_zero, List.set_cons_succ]
    refine wpAnyH_take (i := 2) (v := ?_) rfl (by kernel_rfl) (by kernel_rfl) (by kernel_rfl) (fun _ _ _ h => h) (Or.inl ⟨by rfl, ?_⟩) (by assumption) ?_
    rotate_left
    · (intro w hSw; (try dsimp only at hSw); first | (go_simp; done) | (go_simp; with_reducible rfl))
    simp only [Act.put, List.getElem_toArray, List.getElem_cons_zero, List.getElem_cons_succ, List.setIfInBounds_toArray, List.set_cons_zero, List.set_cons_succ]
    refine wpAnyH_take (i := 3) (v := ?_) rfl (by kernel_rfl) (by kernel_rfl) (by kernel_rfl) (fun _ _ _ h => h) (Or.inl ⟨by rfl, ?_⟩) (by assumption) ?_
    rotate_left
    · (intro w hSw; (try dsimp only at hSw); first | (go_simp; done) | (go_simp; with_reducible rfl))
    simp only [Act.put, List.getElem_toArray, List.getElem_cons_zero, List.getElem_cons_succ, List.setIfInBounds_toArray, List.set_cons_zero, List.set_cons_succ]
    refine wpAnyH_take (i := 4) (v := ?_) rfl (by kernel_rfl) (by kernel_rfl) (by kernel_rfl) (fun _ _ _ h => h) (Or.inl ⟨by rfl, ?_⟩) (by assumption) ?_
    rotate_left
    · (intro w hSw; (try dsimp only at hSw); first | (go_simp; done) | (go_simp; with_reducible rfl))
    simp only [Act.put, List.getElem_toArray, List.getElem_cons_zero, List.getElem_cons_succ, List.setIfInBounds_toArray, List.set_cons_zero, List.set_cons_succ]
    refine wpAnyH_take (i := 5) (v := ?_) rfl (by kernel_rfl) (by kernel_rfl) (by kernel_rfl) (fun _ _ _ h => h) (Or.inl ⟨by rfl, ?_⟩) (by assumption) ?_
    rotate_left
    · (intro w hSw; (try dsimp only at hSw); first | (go_simp; done) | (go_simp; with_reducible rfl))
    simp only [Act.put, List.getElem_toArray, List.getElem_cons_zero, List.getElem_cons_succ, List.setIfInBounds_toArray, List.set_cons_zero, List.set_cons_succ]
    refine wpAnyH_take (i := 6) (v := ?_) rfl (by kernel_rfl) (by kernel_rfl) (by kernel_rfl) (fun _ _ _ h => h) (Or.inl ⟨by rfl, ?_⟩) (by assumption) ?_
    rotate_left
    · (intro w hSw; (try dsimp only at hSw); first | (go_simp; done) | (go_simp; with_reducible rfl))
    simp only [Act.put, List.getElem_toArray, List.getElem_cons_zero, List.getElem_cons_succ, List.setIfInBounds_toArray, List.set_cons_zero, List.set_cons_succ]
    refine wpAnyH_take (i := 7) (v := ?_) rfl (by kernel_rfl) (by kernel_rfl) (by kernel_rfl) (fun _ _ _ h => h) (Or.inl ⟨by rfl, ?_⟩) (by assumption) ?_
    rotate_left
    · (intro w hSw; (try dsimp only at hSw); first | (go_simp; done) | (go_simp; with_reducible rfl))
    simp only [Act.put, List.getElem_toArray, List.getElem_cons_zero, List.getElem_cons_succ, List.setIfInBounds_toArray, List.set_cons_zero, List.set_cons_succ]
    refine wpAnyH_take (i := 8) (v := ?_) rfl (by kernel_rfl) (by kernel_rfl) (by kernel_rfl) (fun _ _ _ h => h) (Or.inl ⟨by rfl, ?_⟩) (by assumption) ?_
    rotate_left
    · (intro w hSw; (try dsimp only at hSw); first | (go_simp; done) | (go_simp; with_reducible rfl))
    simp only [Act.put, List.getElem_toArray, List.getElem_cons_zero, List.getElem_cons_succ, List.setIfInBounds_toArray, List.set_cons_zero, List.set_cons_succ]
    refine wpAnyH_take (i := 9) (v := ?_) rfl (by kernel_rfl) (by kernel_rfl) (by kernel_rfl) (fun _ _ _ h => h) (Or.inl ⟨by rfl, ?_⟩) (by assumption) ?_
    rotate_left
    · (intro w hSw; (try dsimp only at hSw); first | (go_simp; done) | (go_simp; with_reducible rfl))
    simp only [Act.put, List.getElem_toArray, List.getElem_cons_zero, List.getElem_cons_succ, List.setIfInBounds_toArray, List.set_cons_zero, List.set_cons_succ]
    refine wpAnyH_take (i := 10) (v := ?_) rfl (by kernel_rfl) (by kernel_rfl) (by kernel_rfl) (fun _ _ _ h => h) (Or.inl ⟨by rfl, ?_⟩) (by assumption) ?_
    rotate_left
    · (intro w hSw; (try dsimp only at hSw); first | (go_simp; done) | (go_simp; with_reducible rfl))
    simp only [Act.put, List.getElem_toArray, List.getElem_cons_zero, List.getElem_cons_succ, List.setIfInBounds_toArray, List.set_cons_zero, List.set_cons_succ]
    refine wpAnyH_take (i := 11) (v := ?_) rfl (by kernel_rfl) (by kernel_rfl) (by kernel_rfl) (fun _ _ _ h => h) (Or.inl ⟨by rfl, ?_⟩) (by assumption) ?_
    rotate_left
    · (intro w hSw; (try dsimp only at hSw); first | (go_simp; done) | (go_simp; with_reducible rfl))
    simp only [Act.put, List.getElem_toArray, List.getElem_cons_zero, List.getElem_cons_succ, List.setIfInBounds_toArray, List.set_cons_zero, List.set_cons_succ]
    refine wpAnyH_take (i := 12) (v := ?_) rfl (by kernel_rfl) (by kernel_rfl) (by kernel_rfl) (fun _ _ _ h => h) (Or.inl ⟨by rfl, ?_⟩) (by assumption) ?_
    rotate_left
    · (intro w hSw; (try dsimp only at hSw); first | (go_simp; done) | (go_simp; with_reducible rfl))
    simp only [Act.put, List.getElem_toArray, List.getElem_cons_zero, List.getElem_cons_succ, List.setIfInBounds_toArray, List.set_cons_zero, List.set_cons_succ]
    refine wpAnyH_take (i := 13) (v := ?_) rfl (by kernel_rfl) (by kernel_rfl) (by kernel_rfl) (fun _ _ _ h => h) (Or.inl ⟨by rfl, ?_⟩) (by assumption) ?_
    rotate_left
    · (intro w hSw; (try dsimp only at hSw); first | (go_simp; done) | (go_simp; with_reducible rfl))
    simp only [Act.put, List.getElem_toArray, List.getElem_cons_zero, List.getElem_cons_succ, List.setIfInBounds_toArray, List.set_cons_zero, List.set_cons_succ]
    refine wpAnyH_take (i := 14) (v := ?_) rfl (by kernel_rfl) (by kernel_rfl) (by kernel_rfl) (fun _ _ _ h => h) (Or.inl ⟨by rfl, ?_⟩) (by assumption) ?_
    rotate_left
    · (intro w hSw; (try dsimp only at hSw); first | (go_simp; done) | (go_simp; with_reducible rfl))
    simp only [Act.put, List.getElem_toArray, List.getElem_cons_zero, List.getElem_cons_succ, List.setIfInBounds_toArray, List.set_cons_zero, List.set_cons_succ]
    have bl : Blk (w3.alloc (.cells #[.int .u8 ((d.length : Int) % 256), .int .u8 ((d.length : Int) / 256)] 5)) w3.heap.size 5 (By (hd d)).toArray := by
      have e : (By (hd d)).toArray = #[.int .u8 ((d.length : Int) % 256), .int .u8 ((d.length : Int) / 256)] := by
        rw [HD2.out]
        show #[Value.int .u8 (Int.ofNat (d.length % 256)), Value.int .u8 (Int.ofNat (d.length / 256))] = _
        rw [show Int.ofNat (d.length % 256) = (d.length : Int) % 256 by simp, show Int.ofNat (d.length / 256) = (d.length : Int) / 256 by simp]
      rw [e]
      exact Blk.new _ _ _
    have D4 := Lib.hid (DR.out.alloc DR.out.size (.cells #[.int .u8 ((d.length : Int) % 256), .int .u8 ((d.length : Int) / 256)] 5))
    have cv : (convert 28 9 (.slice (some ⟨w3.heap.size, 0, none⟩) 2 2)).run Try.prog (w3.alloc (.cells #[.int .u8 ((d.length : Int) % 256), .int .u8 ((d.length : Int) / 256)] 5)) = .ok (.string (bytes.str (hd d))) (w3.alloc (.cells #[.int .u8 ((d.length : Int) % 256), .int .u8 ((d.length : Int) / 256)] 5)) :=
      bytes.conv_any _ (some ⟨w3.heap.size, 0, none⟩) 2 (hd d) (lay_of_blk bl) HDS.out
    clear bl
    refine wpAnyH_ready (rs := [15]) (by kernel_rfl) (by simp) ?_
    refine AllReadyH.cons rfl (fun K hK => ?_) AllReadyH.nil
    go_simp
    refine hK.out _ _ (KS.out _ D4.out) (fun hH1 => ?_)
    clear hK K hHeld
    generalize w3.alloc (.cells #[.int .u8 ((d.length : Int) % 256), .int .u8 ((d.length : Int) / 256)] 5) = w4 at *
    refine wpAnyH_ready (rs := [16]) (by kernel_rfl) (by simp) ?_
    refine AllReadyH.cons rfl (fun K hK => ?_) AllReadyH.nil
    go_simp
    refine hK.out _ _ (KS.out _ D4.out) (fun hH2 => ?_)
    clear hK K hH1 cv
    obtain ⟨s1, hs1⟩ : ∃ s, s = bytes.str (h1 L k) := ⟨_, rfl⟩
    obtain ⟨s2, hs2⟩ : ∃ s, s = bytes.str (hd d) := ⟨_, rfl⟩
    have HAPP := Lib.hid (show bytes.str (h1 L (k + 1)) = s1 ++ s2 by rw [HS.out, str_app, hs1, hs2])
    rw [← hs1] at SZ
    rw [← hs2] at HDZ
    have hj : (9223372036854775807 < s1.size + s2.size) = False := by rw [SZ.out, HDZ.out]; simp; omega
    rw [← hs1, ← hs2]
    clear hs1 hs2
    refine wpAnyH_take (i := 17) (v := ?_) rfl (by kernel_rfl) (by kernel_rfl) (by kernel_rfl) (fun _ _ _ h => h) (Or.inl ⟨by rfl, ?_⟩) (by assumption) ?_
    rotate_left
    · (intro w hSw; (try dsimp only at hSw); first | (go_simp; done) | (go_simp; with_reducible rfl))
    simp only [Act.put, List.getElem_toArray, List.getElem_cons_zero, List.getElem_cons_succ, List.setIfInBounds_toArray, List.set_cons_zero, List.set_cons_succ]
    refine wpAnyH_take (i := 18) (v := ?_) rfl (by kernel_rfl) (by kernel_rfl) (by kernel_rfl) (fun _ _ _ h => h) (Or.inl ⟨by rfl, ?_⟩) (by assumption) ?_
    rotate_left
    · (intro w hSw; (try dsimp only at hSw); first | (go_simp; done) | (go_simp; with_reducible rfl))
    simp only [Act.put, List.getElem_toArray, List.getElem_cons_zero, List.getElem_cons_succ, List.setIfInBounds_toArray, List.set_cons_zero, List.set_cons_succ]
    refine wpAnyH_done (by kernel_rfl) ?_ _
    clear hH2 hu1 hu2 hu0 hj
    go_wp2_with fail
    refine ⟨⟨k + 1, _, rfl, by go_num, by rw [HAPP.out], by omega, D4.out⟩, by simp [intOf]; omega⟩
  · obtain rfl : k = L.length := by omega
    rw [h1_end]
    clear hb
    go_wp2_with fail
    go_loop [5, 7] (fun s j => ∃ k : Nat, j = .int .i64 k ∧ s = .string (bytes.str (h2 L k)) ∧ k ≤ L.length) (fun _ j => L.length - (intOf j).toNat)
    case atStart => exact ⟨0, rfl, rfl, by omega⟩
    case round =>
    obtain ⟨k, rfl, rfl, hk2⟩ := hrel
    by_cases hkl2 : k < L.length
    · obtain ⟨b, off, rfl, -, e1⟩ := layl (HA.out.below B2.out) hkl2
      have hm := TL.out k hkl2
      have SZ1 := Lib.hid (show (bytes.str (h2 L k)).size ≤ 4096 by rw [str_size]; have := h2_len L hk2; have := NU.out; omega)
      have SZ2 := Lib.hid (show (bytes.str L[k]).size ≤ 4096 by rw [str_size]; exact hm)
      obtain ⟨s1, hs1⟩ : ∃ s, s = bytes.str (h2 L k) := ⟨_, rfl⟩
      obtain ⟨s2, hs2⟩ : ∃ s, s = bytes.str L[k] := ⟨_, rfl⟩
      have HAPP := Lib.hid (show bytes.str (h2 L (k + 1)) = s1 ++ s2 by rw [h2_succ hkl2, str_app, hs1, hs2])
      rw [← hs1] at SZ1
      rw [← hs2] at SZ2 e1
      have hj : (9223372036854775807 < s1.size + s2.size) = False := by have := SZ1.out; have := SZ2.out; simp; omega
      rw [← hs1]
      clear hs1 hs2
      go_wp2_with fail
      refine ⟨⟨k + 1, by go_num, by rw [HAPP.out], by omega⟩, by simp [intOf]; omega⟩
    · obtain rfl : k = L.length := by omega
      rw [h2_end]
      go_wp2_with fail
      go_loop [5] (fun s => ∃ k : Nat, s = .string (bytes.str (h3 L k)) ∧ k ≤ sz - tot L) (fun s => match s with | .string t => 5000 - t.size | _ => 0)
      case atStart => exact ⟨0, rfl, by omega⟩
      case round =>
      obtain ⟨k, rfl, hk3⟩ := hrel
      have hsz : (bytes.str (h3 L k)).size = tot L + k := by rw [str_size, h3_len]
      have HAPP := Lib.hid (show bytes.str (h3 L (k + 1)) = bytes.str (h3 L k) ++ ⟨#[0]⟩ by rw [h3_succ, str_app]; rfl)
      by_cases q : k < sz - tot L
      · have nu := NU.out
        obtain ⟨s1, hs1⟩ : ∃ s, s = bytes.str (h3 L k) := ⟨_, rfl⟩
        rw [← hs1] at hsz HAPP
        rw [← hs1]
        clear hs1
        have t1 : decide ((s1.size : Int) < (sz : Int)) = true := decide_eq_true (by omega)
        have t1b : decide (s1.size < sz) = true := decide_eq_true (by omega)
        have hj : (9223372036854775807 < s1.size + 1) = False := by simp; omega
        have SS := Lib.hid hsz
        have S2 := Lib.hid (show (s1 ++ (⟨#[0]⟩ : ByteArray)).size = tot L + (k + 1) by rw [← HAPP.out, str_size, h3_len])
        clear hsz
        go_wp2_with fail
        refine ⟨⟨k + 1, by rw [HAPP.out], by omega⟩, ?_⟩
        have h1 := SS.out
        have h2 := S2.out
        show 5000 - (s1 ++ (⟨#[0]⟩ : ByteArray)).size < 5000 - s1.size
        omega
      · obtain rfl : k = sz - tot L := by omega
        rw [h3_end] at *
        have nu := NU.out
        obtain ⟨s1, hs1⟩ : ∃ s, s = bytes.str (pb sz L) := ⟨_, rfl⟩
        rw [← hs1] at hsz
        have HH := Lib.hid hs1
        rw [← hs1]
        clear hs1
        have t1 : decide ((s1.size : Int) < (sz : Int)) = false := decide_eq_false (by omega)
        have t1b : decide (s1.size < sz) = false := decide_eq_false (by omega)
        clear HAPP
        go_wp2_with fail
        go_ret
        exact ⟨by rw [← HH.out]; rfl, B2.out⟩
end Go.Proofs.Ytikddbaenokdpaa.pg
