/-
  Stalls: goods of the law; rows of the program.
-/
import Derived.Test.YthnjacfpnbhfpaaStS
namespace Go.Proofs.Ythnjacfpnbhfpaa.st
open Go.RowKit
open base (ret_bool ret_int made up Blk Only)
open rk mk
set_option linter.unusedVariables false
set_option linter.unusedSimpArgs false
variable {B g bs bw : Nat} {w w1 w2 w' : World} {s : S3} {tot : Int} {nT nG m : Nat} {P M : Int → Nat} {T : List C2} {G : List G3}

def tp (X : List G3) : List C2 := X.map (fun d => (d.2.1, d.2.2))
theorem tp_len (X : List G3) : (tp X).length = X.length := List.length_map ..
theorem tp_at (X : List G3) {k : Nat} (h : k < (tp X).length) (h2 : k < X.length) : (tp X)[k] = (X[k].2.1, X[k].2.2) := by simp [tp]
set_option maxRecDepth 100000 in
set_option maxHeartbeats 4000000 in
theorem goods_eq (A : Option Addr) (c : Nat) (A2 : Option Addr) (c2 : Nat) (X : List G3) (w : World) (h1 : Lay E2 w A (tp X)) (h2 : Lay E3 w A2 X) (hl : X.length ≤ 100000) :
    Calls Try.prog 33 #[.slice A X.length c, .slice A2 X.length c2] w fun e w' => e = .returned (.bool true) ∧ Below w.heap.size w w' := by
  have H1 := Lib.hid h1
  have H2 := Lib.hid h2
  clear h1 h2
  go_enter Try.func33, Try.ntmps33
  go_wp2_with fail
  go_loopw [13] (fun i wr => ∃ (k : Nat) (W : World), W = wr ∧ k ≤ X.length ∧ i = .int .i64 k ∧ Below w.heap.size w wr) (fun i _ => X.length - (intOf i).toNat)
  case atStart => exact ⟨0, _, rfl, by omega, rfl, Below.refl _ _⟩
  case round =>
  obtain ⟨k, w3, rfl, hk, rfl, hb⟩ := hrel
  have B3 := Lib.hid hb
  by_cases hkl : k < X.length
  · have hkt : k < (tp X).length := by rw [tp_len]; exact hkl
    obtain ⟨b1, off1, rfl, -⟩ := lay2 (H1.out.below hb) hkt
    obtain ⟨b2, off2, rfl, -⟩ := lay3 (H2.out.below hb) hkl
    have d4 := Lib.hid (up hb (drewB w3) hb.size)
    obtain ⟨e0, e1⟩ := lay2c (H1.out.below d4.out) hkt
    obtain ⟨f0, f1, f2⟩ := lay3c (H2.out.below d4.out) hkl
    rw [tp_at X hkt hkl] at e0 e1
    generalize X[k] = d at *
    obtain ⟨d0, d1, d2⟩ := d
    dsimp only at *
    have SS := Lib.hid (show w3.drew.cell? ⟨b1, off1 + k * 2, none⟩ = some (.int .i64 d1) ∧ w3.drew.cell? ⟨b1, off1 + k * 2 + 1, none⟩ = some (.int .i64 d2) ∧ w3.drew.cell? ⟨b2, off2 + k * 3 + 1, none⟩ = some (.int .i64 d1) ∧ w3.drew.cell? ⟨b2, off2 + k * 3 + 2, none⟩ = some (.int .i64 d2) from ⟨e0, e1, f1, f2⟩)
    clear e0 e1 f0 f1 f2 hb
    go_upto_region 6 with fail
    refine wp_region_held_drew (S := fun W => W.cell? ⟨b1, off1 + k * 2, none⟩ = some (.int .i64 d1) ∧ W.cell? ⟨b1, off1 + k * 2 + 1, none⟩ = some (.int .i64 d2) ∧ W.cell? ⟨b2, off2 + k * 3 + 1, none⟩ = some (.int .i64 d1) ∧ W.cell? ⟨b2, off2 + k * 3 + 2, none⟩ = some (.int .i64 d2)) (by kernel_rfl) SS.out (fun hHeld => ?_)
    generalize w3.drew = w4 at *
    refine wpAnyH_take (i := 0) (v := ?_) rfl (by kernel_rfl) (by kernel_rfl) (by kernel_rfl) (fun _ _ _ h => h) (Or.inl ⟨by rfl, ?_⟩) (by assumption) ?_
    rotate_left
    · (intro w hSw; (try dsimp only at hSw); first | (go_simp; done) | (go_simp; with_reducible rfl))
    simp only [Act.put, List.getElem_toArray, List.getElem_cons_zero, List.getElem_cons_succ, List.setIfInBounds_toArray, List.set_cons_zero, List.set_cons_succ]
    refine wpAnyH_take (i := 1) (v := ?_) rfl (by kernel_rfl) (by kernel_rfl) (by kernel_rfl) (fun _ _ _ h => h) (Or.inl ⟨by rfl, ?_⟩) (by assumption) ?_
    rotate_left
    · (intro w hSw; (try dsimp only at hSw); first | (go_simp; done) | (go_simp; with_reducible rfl))
    simp only [Act.put, List.getElem_toArray, List.getElem_cons_zero, List.getElem_cons_succ, List.setIfInBounds_toArray, List.set_cons_zero, List.set_cons_succ]
    refine wpAnyH_take (i := 2) (v := ?_) rfl (by kernel_rfl) (by kernel_rfl) (by kernel_rfl) (fun _ _ _ h => h) (Or.inl ⟨by rfl, ?_⟩) (by assumption) ?_
    rotate_left
    · (intro w hSw; (try dsimp only at hSw); first | (go_simp; done) | (go_simp; with_reducible rfl))
    simp only [Act.put, List.getElem_toArray, List.getElem_cons_zero, List.getElem_cons_succ, List.setIfInBounds_toArray, List.set_cons_zero, List.set_cons_succ]
    refine wpAnyH_take (i := 3) (v := ?_) rfl (by kernel_rfl) (by kernel_rfl) (by kernel_rfl) (fun _ _ _ h => h) (Or.inl ⟨by rfl, ?_⟩) (by assumption) ?_
    rotate_left
    · (intro w hSw; (try dsimp only at hSw); first | (go_simp; done) | (go_simp; with_reducible rfl))
    simp only [Act.put, List.getElem_toArray, List.getElem_cons_zero, List.getElem_cons_succ, List.setIfInBounds_toArray, List.set_cons_zero, List.set_cons_succ]
    refine wpAnyH_take (i := 4) (v := ?_) rfl (by kernel_rfl) (by kernel_rfl) (by kernel_rfl) (fun _ _ _ h => h) (Or.inl ⟨by rfl, ?_⟩) (by assumption) ?_
    rotate_left
    · (intro w hSw; (try dsimp only at hSw); first | (go_simp; done) | (go_simp; with_reducible rfl))
    simp only [Act.put, List.getElem_toArray, List.getElem_cons_zero, List.getElem_cons_succ, List.setIfInBounds_toArray, List.set_cons_zero, List.set_cons_succ]
    refine wpAnyH_take (i := 5) (v := ?_) rfl (by kernel_rfl) (by kernel_rfl) (by kernel_rfl) (fun _ _ _ h => h) (Or.inl ⟨by rfl, ?_⟩) (by assumption) ?_
    rotate_left
    · (intro w hSw; (try dsimp only at hSw); first | (go_simp; done) | (go_simp; with_reducible rfl))
    simp only [Act.put, List.getElem_toArray, List.getElem_cons_zero, List.getElem_cons_succ, List.setIfInBounds_toArray, List.set_cons_zero, List.set_cons_succ]
    refine wpAnyH_take (i := 6) (v := ?_) rfl (by kernel_rfl) (by kernel_rfl) (by kernel_rfl) (fun _ _ _ h => h) (Or.inl ⟨by rfl, ?_⟩) (by assumption) ?_
    rotate_left
    · (intro w hSw; (try dsimp only at hSw); first | (go_simp; done) | (go_simp; with_reducible rfl))
    simp only [Act.put, List.getElem_toArray, List.getElem_cons_zero, List.getElem_cons_succ, List.setIfInBounds_toArray, List.set_cons_zero, List.set_cons_succ]
    refine wpAnyH_take (i := 7) (v := ?_) rfl (by kernel_rfl) (by kernel_rfl) (by kernel_rfl) (fun _ _ _ h => h) (Or.inl ⟨by rfl, ?_⟩) (by assumption) ?_
    rotate_left
    · (intro w hSw; (try dsimp only at hSw); first | (go_simp; done) | (go_simp; with_reducible rfl))
    simp only [Act.put, List.getElem_toArray, List.getElem_cons_zero, List.getElem_cons_succ, List.setIfInBounds_toArray, List.set_cons_zero, List.set_cons_succ]
    refine wpAnyH_take (i := 8) (v := ?_) rfl (by kernel_rfl) (by kernel_rfl) (by kernel_rfl) (fun _ _ _ h => h) (Or.inl ⟨by rfl, ?_⟩) (by assumption) ?_
    rotate_left
    · (intro w hSw; (try dsimp only at hSw); first | (go_simp; done) | (go_simp; with_reducible rfl))
    simp only [Act.put, List.getElem_toArray, List.getElem_cons_zero, List.getElem_cons_succ, List.setIfInBounds_toArray, List.set_cons_zero, List.set_cons_succ]
    refine wpAnyH_take (i := 9) (v := ?_) rfl (by kernel_rfl) (by kernel_rfl) (by kernel_rfl) (fun _ _ _ h => h) (Or.inl ⟨by rfl, ?_⟩) (by assumption) ?_
    rotate_left
    · (intro w hSw; (try dsimp only at hSw); first | (go_simp; done) | (go_simp; with_reducible rfl))
    simp only [Act.put, List.getElem_toArray, List.getElem_cons_zero, List.getElem_cons_succ, List.setIfInBounds_toArray, List.set_cons_zero, List.set_cons_succ]
    refine wpAnyH_take (i := 10) (v := ?_) rfl (by kernel_rfl) (by kernel_rfl) (by kernel_rfl) (fun _ _ _ h => h) (Or.inl ⟨by rfl, ?_⟩) (by assumption) ?_
    rotate_left
    · (intro w hSw; (try dsimp only at hSw); first | (go_simp; done) | (go_simp; with_reducible rfl))
    simp only [Act.put, List.getElem_toArray, List.getElem_cons_zero, List.getElem_cons_succ, List.setIfInBounds_toArray, List.set_cons_zero, List.set_cons_succ]
    refine wpAnyH_take (i := 11) (v := ?_) rfl (by kernel_rfl) (by kernel_rfl) (by kernel_rfl) (fun _ _ _ h => h) (Or.inl ⟨by rfl, ?_⟩) (by assumption) ?_
    rotate_left
    · (intro w hSw; (try dsimp only at hSw); first | (go_simp; done) | (go_simp; with_reducible rfl))
    simp only [Act.put, List.getElem_toArray, List.getElem_cons_zero, List.getElem_cons_succ, List.setIfInBounds_toArray, List.set_cons_zero, List.set_cons_succ]
    refine wpAnyH_take (i := 12) (v := ?_) rfl (by kernel_rfl) (by kernel_rfl) (by kernel_rfl) (fun _ _ _ h => h) (Or.inl ⟨by rfl, ?_⟩) (by assumption) ?_
    rotate_left
    · (intro w hSw; (try dsimp only at hSw); first | (go_simp; done) | (go_simp; with_reducible rfl))
    simp only [Act.put, List.getElem_toArray, List.getElem_cons_zero, List.getElem_cons_succ, List.setIfInBounds_toArray, List.set_cons_zero, List.set_cons_succ]
    refine wpAnyH_take (i := 13) (v := ?_) rfl (by kernel_rfl) (by kernel_rfl) (by kernel_rfl) (fun _ _ _ h => h) (Or.inl ⟨by rfl, ?_⟩) (by assumption) ?_
    rotate_left
    · (intro w hSw; (try dsimp only at hSw); first | (go_simp; done) | (go_simp; with_reducible rfl))
    simp only [Act.put, List.getElem_toArray, List.getElem_cons_zero, List.getElem_cons_succ, List.setIfInBounds_toArray, List.set_cons_zero, List.set_cons_succ]
    refine wpAnyH_take (i := 14) (v := ?_) rfl (by kernel_rfl) (by kernel_rfl) (by kernel_rfl) (fun _ _ _ h => h) (Or.inl ⟨by rfl, ?_⟩) (by assumption) ?_
    rotate_left
    · (intro w hSw; (try dsimp only at hSw); first | (go_simp; done) | (go_simp; with_reducible rfl))
    simp only [Act.put, List.getElem_toArray, List.getElem_cons_zero, List.getElem_cons_succ, List.setIfInBounds_toArray, List.set_cons_zero, List.set_cons_succ]
    refine wpAnyH_take (i := 15) (v := ?_) rfl (by kernel_rfl) (by kernel_rfl) (by kernel_rfl) (fun _ _ _ h => h) (Or.inl ⟨by rfl, ?_⟩) (by assumption) ?_
    rotate_left
    · (intro w hSw; (try dsimp only at hSw); first | (go_simp; done) | (go_simp; with_reducible rfl))
    simp only [Act.put, List.getElem_toArray, List.getElem_cons_zero, List.getElem_cons_succ, List.setIfInBounds_toArray, List.set_cons_zero, List.set_cons_succ]
    refine wpAnyH_take (i := 16) (v := ?_) rfl (by kernel_rfl) (by kernel_rfl) (by kernel_rfl) (fun _ _ _ h => h) (Or.inl ⟨by rfl, ?_⟩) (by assumption) ?_
    rotate_left
    · (intro w hSw; (try dsimp only at hSw); first | (go_simp; done) | (go_simp; with_reducible rfl))
    simp only [Act.put, List.getElem_toArray, List.getElem_cons_zero, List.getElem_cons_succ, List.setIfInBounds_toArray, List.set_cons_zero, List.set_cons_succ]
    refine wpAnyH_take (i := 17) (v := ?_) rfl (by kernel_rfl) (by kernel_rfl) (by kernel_rfl) (fun _ _ _ h => h) (Or.inl ⟨by rfl, ?_⟩) (by assumption) ?_
    rotate_left
    · (intro w hSw; (try dsimp only at hSw); first | (go_simp; done) | (go_simp; with_reducible rfl))
    simp only [Act.put, List.getElem_toArray, List.getElem_cons_zero, List.getElem_cons_succ, List.setIfInBounds_toArray, List.set_cons_zero, List.set_cons_succ]
    refine wpAnyH_take (i := 18) (v := ?_) rfl (by kernel_rfl) (by kernel_rfl) (by kernel_rfl) (fun _ _ _ h => h) (Or.inl ⟨by rfl, ?_⟩) (by assumption) ?_
    rotate_left
    · (intro w hSw; (try dsimp only at hSw); first | (go_simp; done) | (go_simp; with_reducible rfl))
    simp only [Act.put, List.getElem_toArray, List.getElem_cons_zero, List.getElem_cons_succ, List.setIfInBounds_toArray, List.set_cons_zero, List.set_cons_succ]
    refine wpAnyH_take (i := 19) (v := ?_) rfl (by kernel_rfl) (by kernel_rfl) (by kernel_rfl) (fun _ _ _ h => h) (Or.inl ⟨by rfl, ?_⟩) (by assumption) ?_
    rotate_left
    · (intro w hSw; (try dsimp only at hSw); first | (go_simp; done) | (go_simp; with_reducible rfl))
    simp only [Act.put, List.getElem_toArray, List.getElem_cons_zero, List.getElem_cons_succ, List.setIfInBounds_toArray, List.set_cons_zero, List.set_cons_succ]
    refine wpAnyH_take (i := 20) (v := ?_) rfl (by kernel_rfl) (by kernel_rfl) (by kernel_rfl) (fun _ _ _ h => h) (Or.inl ⟨by rfl, ?_⟩) (by assumption) ?_
    rotate_left
    · (intro w hSw; (try dsimp only at hSw); first | (go_simp; done) | (go_simp; with_reducible rfl))
    simp only [Act.put, List.getElem_toArray, List.getElem_cons_zero, List.getElem_cons_succ, List.setIfInBounds_toArray, List.set_cons_zero, List.set_cons_succ]
    refine wpAnyH_take (i := 21) (v := ?_) rfl (by kernel_rfl) (by kernel_rfl) (by kernel_rfl) (fun _ _ _ h => h) (Or.inl ⟨by rfl, ?_⟩) (by assumption) ?_
    rotate_left
    · (intro w hSw; (try dsimp only at hSw); first | (go_simp; done) | (go_simp; with_reducible rfl))
    simp only [Act.put, List.getElem_toArray, List.getElem_cons_zero, List.getElem_cons_succ, List.setIfInBounds_toArray, List.set_cons_zero, List.set_cons_succ]
    refine wpAnyH_take (i := 22) (v := ?_) rfl (by kernel_rfl) (by kernel_rfl) (by kernel_rfl) (fun _ _ _ h => h) (Or.inl ⟨by rfl, ?_⟩) (by assumption) ?_
    rotate_left
    · (intro w hSw; (try dsimp only at hSw); first | (go_simp; done) | (go_simp; with_reducible rfl))
    simp only [Act.put, List.getElem_toArray, List.getElem_cons_zero, List.getElem_cons_succ, List.setIfInBounds_toArray, List.set_cons_zero, List.set_cons_succ]
    refine wpAnyH_take (i := 23) (v := ?_) rfl (by kernel_rfl) (by kernel_rfl) (by kernel_rfl) (fun _ _ _ h => h) (Or.inl ⟨by rfl, ?_⟩) (by assumption) ?_
    rotate_left
    · (intro w hSw; (try dsimp only at hSw); first | (go_simp; done) | (go_simp; with_reducible rfl))
    simp only [Act.put, List.getElem_toArray, List.getElem_cons_zero, List.getElem_cons_succ, List.setIfInBounds_toArray, List.set_cons_zero, List.set_cons_succ]
    refine wpAnyH_done (by kernel_rfl) ?_ _
    clear hHeld
    go_wp2_with fail
    refine ⟨⟨k + 1, _, rfl, by omega, by go_num, d4.out⟩, by simp [intOf]; omega⟩
  · obtain rfl : k = X.length := by omega
    clear hb
    go_wp2_with fail
    go_ret
    exact ⟨rfl, B3.out⟩

/-! rows -/
abbrev RowE := Int × Int × (Option Addr × Nat × Nat)
def ER : Enc RowE := ⟨fun d => [.int .i64 d.1, .int .i64 d.2.1, .slice d.2.2.1 d.2.2.2.1 d.2.2.2.2], 3, by decide, fun _ => rfl, by
  intro x v hv
  simp at hv
  rcases hv with rfl | rfl | rfl <;> rfl⟩
theorem TW : Ty ER Try.prog 51 47 (.agg #[.int .i64 0, .int .i64 0, .slice none 0 0]) 40 := ⟨Try.underlying51, by kernel_rfl, rfl, by decide⟩
/-- what a row tells -/
def Tells (w : World) (b : Nat) (r : RowE) (d : C2) (G : List G3) : Prop := r.1 = d.1 ∧ r.2.1 = d.2 ∧ r.2.2.2.1 = (ofL G d.1).length ∧ Own E2 w b 56 (.slice r.2.2.1 r.2.2.2.1 r.2.2.2.2) (tp (ofL G d.1))
def Told (w : World) (b : Nat) (R : List RowE) (T : List C2) (G : List G3) : Prop := ∀ j (h : j < R.length) (h2 : j < T.length), Tells w b R[j] T[j] G
theorem Told.below {R : List RowE} (h : Told w B R T G) (hb : Below w.heap.size w w1) : Told w1 B R T G := fun j h1 h2 => by
  obtain ⟨a, b, c, d⟩ := h j h1 h2
  exact ⟨a, b, c, d.below hb⟩
theorem layR {A : Option Addr} {L : List RowE} (h : Lay ER w A L) {k : Nat} (hk : k < L.length) : ∃ b off, A = some ⟨b, off, none⟩ ∧ w.cell? ⟨b, off + k * 3, none⟩ = some (.int .i64 L[k].1) ∧ w.cell? ⟨b, off + k * 3 + 1, none⟩ = some (.int .i64 L[k].2.1) ∧ w.cell? ⟨b, off + k * 3 + 2, none⟩ = some (.slice L[k].2.2.1 L[k].2.2.2.1 L[k].2.2.2.2) := by
  obtain ⟨b, off, e, _, hc⟩ := h (by omega)
  exact ⟨b, off, e, hc k hk 0 (by decide), hc k hk 1 (by decide), hc k hk 2 (by decide)⟩
def RowsP (w : World) (T : List C2) (G : List G3) (e : Ending) (w' : World) : Prop := ∃ v R, e = .returned v ∧ R.length = T.length ∧ Own ER w' w.heap.size 47 v R ∧ Told w' w.heap.size R T G ∧ Below w.heap.size w w'
set_option maxRecDepth 100000 in
set_option maxHeartbeats 8000000 in
theorem rows_any (H : SAt w B g bs bw s tot nT nG P M) (R : Rel s (T, G)) (hn : nT ≤ 1000) (hl : T.length ≤ 1000) :
    Calls Try.prog 26 #[.pointer (some ⟨g, 0, none⟩)] w (RowsP w T G) := by
  have c0 := H.blk.cell 0
  have KA := Lib.hid (keysP_any (some bs) w)
  have SO := Lib.hid (sortedP_any H.smap (by omega))
  have HH := Lib.hid H
  have RR := Lib.hid R
  clear H R
  go_enter Try.func26, Try.ntmps26
  go_wp2_with fail
  refine KA.out.mono ?_
  rintro e w1 ⟨rfl, rfl⟩
  go_wp2_with fail
  refine SO.out.mono ?_
  rintro e w2 ⟨v2, ss, rfl, hk, hlen, ho, hb⟩
  have hss := RR.out.houses HH.out.gd hk
  dsimp only at hss
  subst hss
  obtain ⟨A2, cp2, rfl, hl2, -, -⟩ := ho.open_
  have L2 := Lib.hid hl2
  have B2 := Lib.hid hb
  have ML := Lib.hid (show (T.map (·.1)).length = T.length from List.length_map ..)
  have h1 : T.length ≤ (T.map (·.1)).length := by rw [ML.out]; exact Nat.le_refl _
  have h2 : (T.map (·.1)).length ≤ T.length := by rw [ML.out]; exact Nat.le_refl _
  clear hl2 hk hb ho hlen KA SO c0
  go_wp2_with fail
  go_loopw [3, 13] (fun o i wr => ∃ (k : Nat) (W : World) (R : List RowE), W = wr ∧ k ≤ T.length ∧ i = .int .i64 k ∧ Own ER wr w2.heap.size 47 o R ∧ R.length = k ∧ Told wr w2.heap.size R T G ∧ Below w2.heap.size w2 wr) (fun _ i _ => T.length - (intOf i).toNat)
  case atStart => exact ⟨0, _, [], rfl, by omega, rfl, Own.nil _ _ _, rfl, fun j h => absurd h (by simp), Below.refl _ _⟩
  case round =>
  obtain ⟨k, w3, R, rfl, hk, rfl, ho, hR, ht, hb⟩ := hrel
  have O3 := Lib.hid ho
  have B3 := Lib.hid hb
  have T3 := Lib.hid ht
  have RK := Lib.hid hR
  by_cases hkl : k < T.length
  · obtain ⟨bb, off, rfl, e0⟩ := lay1 (L2.out.below hb) (k := k) (by omega)
    have ek : (T.map (·.1))[k]'(by omega) = T[k].1 := by simp
    rw [ek] at e0
    have hT := Lib.hid ((RR.out.t T[k].1 T[k].2).2 (List.getElem_mem hkl))
    have TE := Lib.hid (fun (W : World) (r : RowE) (h : Tells W w2.heap.size r T[k] G) => h)
    generalize hd : T[k] = d at *
    have HD := Lib.hid hd
    obtain ⟨n, u⟩ := d
    dsimp only at *
    have RO := Lib.hid (row_any n u (HH.out.below (up B2.out hb B2.out.size)) hT.out)
    clear ho hb ht ek hR hd
    go_wp2_with fail
    refine RO.out.mono ?_
    rintro e w4 ⟨v4, ts, rfl, hk4, hl4, ho4, hb4⟩
    have egl := RR.out.gl HH.out.gd hk4
    dsimp only at egl
    rw [show (ofL G n).map (fun d => (d.2.1, d.2.2)) = tp (ofL G n) from rfl] at egl
    rw [egl] at ho4
    obtain ⟨A4, c4, rfl, -⟩ := ho4.open_
    rw [tp_len] at ho4 ⊢
    have D4 := Lib.hid (up B3.out hb4 B3.out.size)
    have hm := made w4 (.cells #[.int .i64 n, .int .i64 u, .slice A4 (ofL G n).length c4] 47)
    have P5 := Lib.hid ((O3.out.below hb4).below hm)
    have Q5 := Lib.hid (up D4.out hm D4.out.size)
    have T5 := Lib.hid ((T3.out.below hb4).below hm)
    have G5 := Lib.hid ((ho4.mono B3.out.size).below hm)
    have LY := Lib.hid (Lay.lit (E := ER) (w4.alloc (.cells #[.int .i64 n, .int .i64 u, .slice A4 (ofL G n).length c4] 47)) (n, u, A4, (ofL G n).length, c4) 47 w4.heap.size (Blk.new _ _ _))
    have hRl : R.length ≤ 1000 := by rw [RK.out]; omega
    have HRL := Lib.hid hRl
    clear hm ho4 hb4 egl hk4 hl4 hRl e0
    generalize hw5 : w4.alloc (.cells #[.int .i64 n, .int .i64 u, .slice A4 (ofL G n).length c4] 47) = w5 at *
    go_wp2_with (first | rw [hw5] | ((with_reducible show wpList _ _ _ (⟨some 22, _, _, _, _, _⟩ :: _) _ _); go_must (refine wp_app TW (c := 1) (n := 1) rfl _ _ rfl rfl rfl rfl rfl P5.out LY.out (by simp; have := HRL.out; omega) Q5.out.size ?_)))
    intro v6 w6 own6 gr6
    have keep6 : ∀ {v : Value} {L : List C2}, Own E2 w5 w2.heap.size 56 v L → Own E2 w6 w2.heap.size 56 v L := fun h => h.keep (fun q hq => gr6.grown.block q (h.lt' q hq).2.1 (fun e => by
      obtain ⟨_, _, cs, b1⟩ := h.lt' q hq
      obtain ⟨_, _, cs2, b2⟩ := P5.out.lt' q e.symm
      exact ne_of_ty b1 b2 (by decide) rfl))
    have B6 := Lib.hid (Q5.out.trans (gr6.below P5.out Q5.out.size))
    have T6 := Lib.hid (show Told w6 w2.heap.size (R ++ [(n, u, A4, (ofL G n).length, c4)]) T G from fun j h1 h2 => by
      by_cases e : j < R.length
      · rw [List.getElem_append_left e]
        obtain ⟨a, b, c, d⟩ := T5.out j e h2
        exact ⟨a, b, c, keep6 d⟩
      · have hj : j = k := by
          rw [List.length_append, RK.out] at h1
          rw [RK.out] at e
          simp at h1
          omega
        subst hj
        have e1 : (R ++ [(n, u, A4, (ofL G n).length, c4)])[j] = (n, u, A4, (ofL G n).length, c4) := by
          rw [List.getElem_append_right (by rw [RK.out]; exact Nat.le_refl _)]
          simp [RK.out]
        rw [e1, HD.out]
        exact ⟨rfl, rfl, rfl, keep6 G5.out⟩)
    have O6 := Lib.hid own6
    have RL := Lib.hid (show (R ++ [(n, u, A4, (ofL G n).length, c4)]).length = k + 1 by rw [List.length_append, RK.out]; rfl)
    generalize R ++ [(n, u, A4, (ofL G n).length, c4)] = R6 at *
    obtain ⟨A6, c6, rfl, -⟩ := own6.open_
    clear own6 gr6 P5 Q5 LY hw5 keep6
    go_wp2_with fail
    refine ⟨⟨k + 1, _, R6, rfl, by omega, by go_num, O6.out, RL.out, T6.out, B6.out⟩, by simp [intOf]; omega⟩
  · obtain rfl : k = T.length := by omega
    obtain ⟨A5, c5, rfl, -⟩ := ho.open_
    clear ho hb ht
    go_wp2_with fail
    go_ret
    exact ⟨_, R, rfl, RK.out, O3.out.mono B2.out.size, fun j h1 h2 => by
      obtain ⟨a, b, c, d⟩ := T3.out j h1 h2
      exact ⟨a, b, c, d.mono B2.out.size⟩, up B2.out B3.out B2.out.size⟩
end Go.Proofs.Ythnjacfpnbhfpaa.st
