/-
  The law's told: numbers, where all is well.
-/
import Derived.Test.YtjbbphdjemdinaaVtF
namespace Go.Proofs.Ytjbbphdjemdinaa.vi
open Go.RowKit
open base (ret_bool ret_int made up Nums Only Blk)
open bytes vnum
set_option linter.unusedVariables false
set_option linter.unusedSimpArgs false
variable {w : World}
theorem flat_ge : ∀ zs : List Int, zs.length ≤ (flat zs).length
  | [] => by simp
  | z :: zs => by
    have h1 := flat_ge zs
    have h2 := enc_pos z
    rw [flat_cons, List.length_append, List.length_cons]
    omega
theorem cnt_ints (zs : List Int) (r : List Nat) (hs : zs.length ≤ 40) : cnt 1000 (encs zs ++ r) = some (zs.length, flat zs ++ r) := by
  unfold cnt encs
  rw [List.append_assoc, dec_enc _ (by omega) (by omega)]
  simp only [List.drop_left]
  rw [if_pos ⟨by omega, by omega, by have := flat_ge zs; rw [List.length_append]; omega⟩]
  simp
set_option maxRecDepth 100000 in
set_option maxHeartbeats 800000 in
theorem told_3 (g : Nat) (A : Option Addr) (c : Nat) (r : List Nat) (t : Th) (h : InAt w g A (encs t.zs ++ r) c false) (hl : (encs t.zs ++ r).length ≤ 1000000) (hz : ∀ z ∈ t.zs, I64 z) (hN : Nums .i64 w t.A t.zs) (ha : 0 < t.zs.length → Apart w g none t.A) (hm : t.zs.length ≤ 40) :
    Calls Try.prog 24 #[.pointer (some ⟨g, 0, none⟩), .agg #[.int .i64 3, .int .i64 t.n, .string t.s, .bool t.f, .slice t.A t.zs.length t.c]] w (ToldP g r w) := by
  have M1 := Lib.hid (made w (.cells #[.int .i64 3, .int .i64 t.n, .string t.s, .bool t.f, .slice t.A t.zs.length t.c] 44))
  have BX := Lib.hid (Blk.new w 44 #[.int .i64 3, .int .i64 t.n, .string t.s, .bool t.f, .slice t.A t.zs.length t.c])
  have O1 := Lib.hid (only_made g w (.cells #[.int .i64 3, .int .i64 t.n, .string t.s, .bool t.f, .slice t.A t.zs.length t.c] 44))
  have HG := Lib.hid (show g < w.heap.size from h.blk.lt)
  have H1 := Lib.hid (h.below M1.out)
  have CAL := Lib.hid (ints_yes g A _ c 1000 t.zs.length (flat t.zs ++ r) t.zs r _ H1.out (cnt_ints t.zs r hm) (rdN_encs t.zs r hz) (by omega))
  have NN := Lib.hid hN
  have HA := Lib.hid ha
  clear h hN ha hz
  go_enter Try.func24, Try.ntmps24
  go_wp2_with fail
  refine CAL.out.mono ?_
  rintro e w3 ⟨b, rfl, hb, on, ho, hi⟩
  have SZ := Lib.hid (show w.heap.size < (w.alloc (.cells #[.int .i64 3, .int .i64 t.n, .string t.s, .bool t.f, .slice t.A t.zs.length t.c] 44)).heap.size from BX.out.lt)
  have B3 := Lib.hid (show Blk w3 w.heap.size 44 #[.int .i64 3, .int .i64 t.n, .string t.s, .bool t.f, .slice t.A t.zs.length t.c] from (ho.block w.heap.size SZ.out (by have := HG.out; omega)).trans BX.out)
  have OW := Lib.hid (show Only (fun k => k = g) w w3 from O1.out.trans ho (fun _ _ e => e))
  have N3 := Lib.hid (show Nums .i64 w3 t.A t.zs from Nums.far NN.out HA.out ((Only.refl (fun k => k = g ∨ some k = none) w).trans OW.out (fun _ _ e => .inl e)))
  have ON := Lib.hid on
  have HI := Lib.hid hi
  have c4 := B3.out.cell 4
  clear hb on ho hi M1 BX O1 H1 CAL SZ NN HA
  go_wp2_with fail
  go_loopw [42] (fun i wr => ∃ (k : Nat) (W : World), W = wr ∧ i = .int .i64 k ∧ k ≤ t.zs.length ∧ Below w3.heap.size w3 wr) (fun i _ => t.zs.length - (intOf i).toNat)
  case atStart => exact ⟨0, _, rfl, rfl, by omega, Below.refl _ _⟩
  case round =>
  clear c4
  obtain ⟨k, w4, rfl, rfl, hk, hb⟩ := hrel
  have HB := Lib.hid hb
  by_cases hlt : k < t.zs.length
  · obtain ⟨z, hzk⟩ : ∃ z, z = t.zs.getD k 0 := ⟨_, rfl⟩
    obtain ⟨ab, ao, hAe, -, hcl⟩ := base.Nums.keep N3.out hb.drew (by omega)
    have e1 := hcl k hlt
    have on4 : OnI w4.drew b t.zs := (ON.out.below hb.drew ON.out.lt : Blk _ _ _ _)
    have e2 := OnI.cell on4 hlt
    have e3 := (B3.out.below hb.drew B3.out.lt).cell 4
    rw [← hzk] at e1 e2
    have HD := Lib.hid (show Below w3.heap.size w3 w4.drew from hb.drew)
    have p1 : (k < t.zs.length) = True := by simp; omega
    rw [hAe] at e3
    clear hcl hzk on4 hb
    go_wp2_with fail
    refine wp_region_held_drew (S := fun ws => ws.cell? ⟨b, k, none⟩ = some (.int .i64 z) ∧ ws.cell? ⟨w.heap.size, 4, none⟩ = some (.slice (some ⟨ab, ao, none⟩) t.zs.length t.c) ∧ ws.cell? ⟨ab, ao + k, none⟩ = some (.int .i64 z)) (by kernel_rfl) ⟨e2, e3, e1⟩ (fun hHeld => ?_)
    generalize w4.drew = w5 at *
    refine wpAnyH_take (i := 0) (v := ?_) rfl (by kernel_rfl) (by kernel_rfl) (by kernel_rfl) (fun _ _ _ h => h) (Or.inl ⟨by rfl, ?_⟩) (by assumption) ?_
    rotate_left
    · (intro w hSw; (try dsimp only at hSw); first | (go_simp; done) | (go_simp; with_reducible rfl))
    simp only [Act.put, List.getElem_toArray, List.getElem_cons_zero, List.getElem_cons_succ, List.setIfInBounds_toArray, List.set_cons_zero, List.set_cons_succ]
    refine wpAnyH_take (i := 1) (v := ?_) rfl (by kernel_rfl) (by kernel_rfl) (by kernel_rfl) (fun _ _ _ h => h) (Or.inl ⟨by rfl, ?_⟩) (by assumption) ?_
    rotate_left
    · (intro w hSw; (try dsimp only at hSw); first | (go_simp; done) | (go_simp; with_reducible rfl))
    simp only [Act.put, List.getElem_toArray, List.getElem_cons_zero, List.getElem_cons_succ, List.setIfInBounds_toArray, List.set_cons_zero, List.set_cons_succ]
    refine wpAnyH_take (i := 2) (v := ?_) rfl (by kernel_rfl) (by kernel_rfl) (by kernel_rfl) (fun _ _ _ h => h) (Or.inl ⟨by rfl, ?_⟩) (by assumption) ?_
    rotate_left
    · (intro w hSw; (try dsimp only at hSw); first | (go_simp; done) | (go_simp; with_reducible rfl))
    simp only [Act.put, List.getElem_toArray, List.getElem_cons_zero, List.getElem_cons_succ, List.setIfInBounds_toArray, List.set_cons_zero, List.set_cons_succ]
    refine wpAnyH_take (i := 3) (v := ?_) rfl (by kernel_rfl) (by kernel_rfl) (by kernel_rfl) (fun _ _ _ h => h) (Or.inl ⟨by rfl, ?_⟩) (by assumption) ?_
    rotate_left
    · (intro w hSw; (try dsimp only at hSw); first | (go_simp; done) | (go_simp; with_reducible rfl))
    simp only [Act.put, List.getElem_toArray, List.getElem_cons_zero, List.getElem_cons_succ, List.setIfInBounds_toArray, List.set_cons_zero, List.set_cons_succ]
    refine wpAnyH_take (i := 4) (v := ?_) rfl (by kernel_rfl) (by kernel_rfl) (by kernel_rfl) (fun _ _ _ h => h) (Or.inl ⟨by rfl, ?_⟩) (by assumption) ?_
    rotate_left
    · (intro w hSw; (try dsimp only at hSw); first | (go_simp; done) | (go_simp; with_reducible rfl))
    simp only [Act.put, List.getElem_toArray, List.getElem_cons_zero, List.getElem_cons_succ, List.setIfInBounds_toArray, List.set_cons_zero, List.set_cons_succ]
    refine wpAnyH_take (i := 5) (v := ?_) rfl (by kernel_rfl) (by kernel_rfl) (by kernel_rfl) (fun _ _ _ h => h) (Or.inl ⟨by rfl, ?_⟩) (by assumption) ?_
    rotate_left
    · (intro w hSw; (try dsimp only at hSw); first | (go_simp; done) | (go_simp; with_reducible rfl))
    simp only [Act.put, List.getElem_toArray, List.getElem_cons_zero, List.getElem_cons_succ, List.setIfInBounds_toArray, List.set_cons_zero, List.set_cons_succ]
    refine wpAnyH_take (i := 6) (v := ?_) rfl (by kernel_rfl) (by kernel_rfl) (by kernel_rfl) (fun _ _ _ h => h) (Or.inl ⟨by rfl, ?_⟩) (by assumption) ?_
    rotate_left
    · (intro w hSw; (try dsimp only at hSw); first | (go_simp; done) | (go_simp; with_reducible rfl))
    simp only [Act.put, List.getElem_toArray, List.getElem_cons_zero, List.getElem_cons_succ, List.setIfInBounds_toArray, List.set_cons_zero, List.set_cons_succ]
    refine wpAnyH_take (i := 7) (v := ?_) rfl (by kernel_rfl) (by kernel_rfl) (by kernel_rfl) (fun _ _ _ h => h) (Or.inl ⟨by rfl, ?_⟩) (by assumption) ?_
    rotate_left
    · (intro w hSw; (try dsimp only at hSw); first | (go_simp; done) | (go_simp; with_reducible rfl))
    simp only [Act.put, List.getElem_toArray, List.getElem_cons_zero, List.getElem_cons_succ, List.setIfInBounds_toArray, List.set_cons_zero, List.set_cons_succ]
    refine wpAnyH_take (i := 8) (v := ?_) rfl (by kernel_rfl) (by kernel_rfl) (by kernel_rfl) (fun _ _ _ h => h) (Or.inl ⟨by rfl, ?_⟩) (by assumption) ?_
    rotate_left
    · (intro w hSw; (try dsimp only at hSw); first | (go_simp; done) | (go_simp; with_reducible rfl))
    simp only [Act.put, List.getElem_toArray, List.getElem_cons_zero, List.getElem_cons_succ, List.setIfInBounds_toArray, List.set_cons_zero, List.set_cons_succ]
    refine wpAnyH_take (i := 9) (v := ?_) rfl (by kernel_rfl) (by kernel_rfl) (by kernel_rfl) (fun _ _ _ h => h) (Or.inl ⟨by rfl, ?_⟩) (by assumption) ?_
    rotate_left
    · (intro w hSw; (try dsimp only at hSw); first | (go_simp; done) | (go_simp; with_reducible rfl))
    simp only [Act.put, List.getElem_toArray, List.getElem_cons_zero, List.getElem_cons_succ, List.setIfInBounds_toArray, List.set_cons_zero, List.set_cons_succ]
    refine wpAnyH_done (by kernel_rfl) ?_ _
    clear hHeld p1 e1 e2 e3
    go_wp2_with fail
    exact ⟨⟨k + 1, _, rfl, by go_num, by omega, HD.out⟩, by simp [intOf]; omega⟩
  · obtain rfl : k = t.zs.length := by omega
    clear hb
    go_wp2_with fail
    go_ret
    obtain ⟨A', c', hi⟩ := HI.out
    exact ⟨rfl, OW.out.below HB.out (fun i hi e => by have := OW.out.size; omega), A', c', hi.below HB.out⟩
end Go.Proofs.Ytjbbphdjemdinaa.vi
