/-
  Quads: the reference's Bytes.
-/
import Derived.Test.YtpfnkmlfpkjkpaaQdRo
import Derived.Test.YtpfnkmlfpkjkpaaQdBy
import Derived.Test.YtpfnkmlfpkjkpaaQdX
import Derived.Deep.RegionHeld
namespace Go.Proofs.Ytpfnkmlfpkjkpaa.qd
open Go.RowKit Go.Shelf
open base (ret_bool ret_int made up Blk Only)
set_option linter.unusedVariables false
set_option linter.unusedSimpArgs false
attribute [local go_sem] Oper.semAt_some

/-- a square of the grid is what a quad's square says -/
structure Gt (S : Nat) (L : List Nat) (q : Q) (k x y : Nat) : Prop where
  fits : q.fits k
  canon : q.canon
  small : q.small
  hx : x + 2 ^ k ≤ S
  hy : y + 2 ^ k ≤ S
  tiles : ∀ a b, a < 2 ^ k → b < 2 ^ k → tl S x y L a b = q.at_ k b a
section
variable {S k x y : Nat} {L : List Nat} {q : Q}
theorem Gt.one (h : Gt S L q k x y) : OneP S x y (2 ^ k) L ↔ ∃ v, q = .leaf v := by
  constructor
  · intro h1
    exact ⟨_, const_leaf h.fits h.canon (fun i j hi hj => by rw [← h.tiles j i hj hi]; exact h1 j i hj hi)⟩
  · rintro ⟨v, rfl⟩ a b ha hb
    rw [h.tiles a b ha hb, h.tiles 0 0 (by omega) (by omega)]
    rfl
theorem Gt.child {v g : Nat} {t : Nat → Q} (h : Gt S L (.node v g t) (k + 1) x y) {i : Nat} (hi : i < 4) : Gt S L (t i) k (x + i % 2 * 2 ^ k) (y + i / 2 * 2 ^ k) := by
  have hx := h.hx
  have hy := h.hy
  have hp := pow_pos k
  have e2 : 2 ^ (k + 1) = 2 ^ k + 2 ^ k := by rw [Nat.pow_succ]; omega
  rw [e2] at hx hy
  have b1 : i % 2 * 2 ^ k ≤ 1 * 2 ^ k := Nat.mul_le_mul_right _ (by omega)
  have b2 : i / 2 * 2 ^ k ≤ 1 * 2 ^ k := Nat.mul_le_mul_right _ (by omega)
  rw [Nat.one_mul] at b1 b2
  refine ⟨h.fits i hi, h.canon.1 i hi, h.small.2 i hi, by omega, by omega, fun a b ha hb => ?_⟩
  have := h.tiles (a + i / 2 * 2 ^ k) (b + i % 2 * 2 ^ k) (by omega) (by omega)
  rw [at_quarter hi hb ha] at this
  rw [← this]
  unfold tl
  rw [show y + i / 2 * 2 ^ k + a = y + (a + i / 2 * 2 ^ k) by omega, show (y + (a + i / 2 * 2 ^ k)) * S + (x + i % 2 * 2 ^ k) + b = (y + (a + i / 2 * 2 ^ k)) * S + x + (b + i % 2 * 2 ^ k) by omega]
theorem Gt.leaf {v : Nat} (h : Gt S L (.leaf v) k x y) : L.getD (y * S + x) 0 = v := by
  have := h.tiles 0 0 (pow_pos k) (pow_pos k)
  unfold tl at this
  simpa [Q.at_] using this
theorem Gt.top (hf : q.fits k) (hc : q.canon) (hs : q.small) (h : Same k q L) : Gt (2 ^ k) L q k 0 0 :=
  ⟨hf, hc, hs, by omega, by omega, fun a b ha hb => by
    have hlt : b + a * 2 ^ k < 4 ^ k := by
      have e : 4 ^ k = 2 ^ k * 2 ^ k := by rw [← Nat.mul_pow]
      have : (a + 1) * 2 ^ k ≤ 2 ^ k * 2 ^ k := Nat.mul_le_mul_right _ (by omega)
      rw [Nat.succ_mul] at this
      omega
    have := h _ hlt
    rw [Nat.add_mul_mod_self_right, Nat.mod_eq_of_lt hb, Nat.add_mul_div_right _ _ (pow_pos k), Nat.div_eq_of_lt hb, Nat.zero_add] at this
    rw [← this]
    unfold tl
    rw [show (0 + a) * 2 ^ k + 0 + b = b + a * 2 ^ k by rw [Nat.zero_add]; omega]⟩
end
theorem str_app (a b : List Nat) : bytes.str a ++ bytes.str b = bytes.str (a ++ b) := by
  apply ByteArray.ext
  rw [ByteArray.data_append]
  simp [bytes.str]
theorem str_size (a : List Nat) : (bytes.str a).size = a.length := by
  simp [bytes.str, ByteArray.size]
def GB (S : Nat) (A : Option Addr) (c : Nat) (L : List Nat) (k : Nat) : Prop := ∀ (q : Q) (x y : Nat) (w : World), Gt S L q k x y → rk.Lay E1 w A L → L.length = S * S → S ≤ 256 →
  Calls Try.prog 17 #[.agg #[.int .i64 (S : Nat), .slice A L.length c], .int .i64 (x : Nat), .int .i64 (y : Nat), .int .i64 ((2 ^ k : Nat) : Int)] w fun e w' => e = .returned (.string (bytes.str (qb q))) ∧ Below w.heap.size w w'
set_option maxRecDepth 100000 in
set_option maxHeartbeats 4000000 in
theorem gbytes_leaf (S : Nat) (A : Option Addr) (c : Nat) (L : List Nat) (k v x y : Nat) (w : World) (h : Gt S L (.leaf v) k x y) (hL : rk.Lay E1 w A L) (hn : L.length = S * S) (hS : S ≤ 256) :
    Calls Try.prog 17 #[.agg #[.int .i64 (S : Nat), .slice A L.length c], .int .i64 (x : Nat), .int .i64 (y : Nat), .int .i64 ((2 ^ k : Nat) : Int)] w fun e w' => e = .returned (.string (bytes.str (qb (.leaf v)))) ∧ Below w.heap.size w w' := by
  obtain ⟨w1, hw1⟩ : ∃ w1, w.alloc (.cells #[.int .i64 (S : Nat), .slice A L.length c] 28) = w1 := ⟨_, rfl⟩
  have M1 := Lib.hid (show Below w.heap.size w w1 from by rw [← hw1]; exact made w _)
  have B1 := Lib.hid (show Blk w1 w.heap.size 28 #[.int .i64 (S : Nat), .slice A L.length c] from by rw [← hw1]; exact Blk.new _ _ _)
  have L1 := Lib.hid (hL.below M1.out)
  have HW1 := Lib.hid hw1
  have ON := Lib.hid (one_any S x y (2 ^ k) A c L w1 (hL.below M1.out) hn hS h.hx h.hy)
  have YES := Lib.hid (h.one.2 ⟨v, rfl⟩)
  have hQ : y * S + x < L.length := by
    have := tile_lt (a := 0) (b := 0) h.hx h.hy (pow_pos k) (pow_pos k)
    rw [hn]; simpa using this
  have hle : L.length ≤ 65536 := by rw [hn]; exact Nat.mul_le_mul hS hS
  have hLv := h.leaf
  have hv : v < 256 := h.small
  obtain ⟨bb, off, rfl, e1⟩ := lay1 hL hQ
  rw [hLv] at e1
  have E1W := Lib.hid e1
  have SM := Lib.hid (show bytes.Small [0, v] from fun c hc => by
    simp only [List.mem_cons, List.not_mem_nil, or_false] at hc
    rcases hc with rfl | rfl <;> omega)
  clear hw1 hL hn h e1 hLv
  generalize ((2 ^ k : Nat) : Int) = s at *
  have hmul2 : (y : Int) * (S : Int) = ((y * S : Nat) : Int) := by rw [← Int.natCast_mul]
  generalize y * S = M2 at *
  have t6 : ((M2 : Int) + (x : Int)).toNat = M2 + x := by rw [← Int.natCast_add, Int.toNat_natCast]
  have p2 : (0 : Int) ≤ (M2 : Int) + (x : Int) := by omega
  have p3 : (M2 : Int) + (x : Int) < (L.length : Int) := by omega
  have wv : IntKind.u8.wrap (v : Int) = v := IntWalk.u8_in _ (by omega)
  have k5 : IntKind.i64.wrap ((M2 : Nat) : Int) = (M2 : Int) := IntWalk.i64_in _ (by omega)
  have k6 : IntKind.i64.wrap ((M2 : Int) + (x : Int)) = (M2 : Int) + (x : Int) := IntWalk.i64_in _ (by omega)
  have j5 := (IntWalk.i64_left _).symm.trans k5
  have j6 := (IntWalk.i64_left _).symm.trans k6
  go_enter Try.func17, Try.ntmps17
  go_upto_region 1 with fail
  have hw1 := HW1.out
  simp only [hw1]
  clear hw1 HW1
  have x0 := B1.out.cell 0
  have x1 := B1.out.cell 1
  go_wp2_with fail
  refine ON.out.mono ?_
  rintro e w2 ⟨⟨r, rfl, hr⟩, hb2⟩
  obtain rfl : r = true := hr.2 YES.out
  have BX := Lib.hid (B1.out.below hb2 B1.out.lt)
  have E1X : w2.cell? ⟨bb, off + (M2 + x), none⟩ = some (.int .i64 (v : Nat)) := (hb2.cell (World.block_lt_of_cell? _ _ ((M1.out.cell (World.block_lt_of_cell? _ _ E1W.out)).trans E1W.out))).trans ((M1.out.cell (World.block_lt_of_cell? _ _ E1W.out)).trans E1W.out)
  have M2 := Lib.hid (up M1.out hb2 M1.out.size)
  have LY := bytes.conv_any (w2.alloc (.cells #[.int .u8 0, .int .u8 (v : Int)] 5)) (some ⟨w2.heap.size, 0, none⟩) 2 [0, v] (bytes.lay_lit w2 [0, v] 5 (0, 0)) SM.out
  have MA := Lib.hid (made w2 (.cells #[.int .u8 0, .int .u8 (v : Int)] 5))
  have EQ : Hid (qb (.leaf v) = [0, v]) := Lib.hid rfl
  simp only [List.length_cons, List.length_nil, Nat.reduceAdd] at LY
  clear x0 x1 hr hb2 ON
  have x0 := BX.out.cell 0
  have x1 := BX.out.cell 1
  go_wp2_with fail
  go_ret
  exact ⟨by rw [EQ.out]; rfl, up M2.out MA.out M2.out.size⟩
set_option maxRecDepth 100000 in
set_option maxHeartbeats 8000000 in
theorem gbytes_node (S : Nat) (A : Option Addr) (c : Nat) (L : List Nat) (k v g : Nat) (t : Nat → Q) (ih : GB S A c L k) (hk8 : k ≤ 8) (x y : Nat) (w : World) (h : Gt S L (.node v g t) (k + 1) x y) (hL : rk.Lay E1 w A L) (hn : L.length = S * S) (hS : S ≤ 256) :
    Calls Try.prog 17 #[.agg #[.int .i64 (S : Nat), .slice A L.length c], .int .i64 (x : Nat), .int .i64 (y : Nat), .int .i64 ((2 ^ (k + 1) : Nat) : Int)] w fun e w' => e = .returned (.string (bytes.str (qb (.node v g t)))) ∧ Below w.heap.size w w' := by
  obtain ⟨w1, hw1⟩ : ∃ w1, w.alloc (.cells #[.int .i64 (S : Nat), .slice A L.length c] 28) = w1 := ⟨_, rfl⟩
  have M1 := Lib.hid (show Below w.heap.size w w1 from by rw [← hw1]; exact made w _)
  have B1 := Lib.hid (show Blk w1 w.heap.size 28 #[.int .i64 (S : Nat), .slice A L.length c] from by rw [← hw1]; exact Blk.new _ _ _)
  have HW1 := Lib.hid hw1
  have ON := Lib.hid (one_any S x y (2 ^ (k + 1)) A c L w1 (hL.below M1.out) hn hS h.hx h.hy)
  have NO := Lib.hid (show ¬ OneP S x y (2 ^ (k + 1)) L from fun q => by obtain ⟨v, e⟩ := h.one.1 q; cases e)
  have hp := pow_pos k
  have h8 : 2 ^ k ≤ 2 ^ 8 := Nat.pow_le_pow_right (by decide) hk8
  have hp2 : ((2 ^ (k + 1) : Nat) : Int) = 2 * ((2 ^ k : Nat) : Int) := by rw [Nat.pow_succ]; omega
  have l0 := (qb_len (h.fits 0 (by omega))).1
  have l1 := (qb_len (h.fits 1 (by omega))).1
  have l2 := (qb_len (h.fits 2 (by omega))).1
  have l3 := (qb_len (h.fits 3 (by omega))).1
  have h48 : 4 ^ k ≤ 4 ^ 8 := Nat.pow_le_pow_right (by decide) hk8
  have e48 : 4 ^ 8 = 65536 := by decide
  have hx := h.hx
  have hy := h.hy
  have e2 : 2 ^ (k + 1) = 2 ^ k + 2 ^ k := by rw [Nat.pow_succ]; omega
  rw [e2] at hx hy
  have C0 := Lib.hid (fun (W : World) (hb : Below w.heap.size w W) => by
    have := ih (t 0) _ _ W (h.child (i := 0) (by omega)) (hL.below hb) hn hS
    rw [show ((x + 0 % 2 * 2 ^ k : Nat) : Int) = (x : Int) by omega, show ((y + 0 / 2 * 2 ^ k : Nat) : Int) = (y : Int) by omega] at this
    exact this)
  have C1 := Lib.hid (fun (W : World) (hb : Below w.heap.size w W) => by
    have := ih (t 1) _ _ W (h.child (i := 1) (by omega)) (hL.below hb) hn hS
    rw [show ((x + 1 % 2 * 2 ^ k : Nat) : Int) = (x : Int) + ((2 ^ k : Nat) : Int) by omega, show ((y + 1 / 2 * 2 ^ k : Nat) : Int) = (y : Int) by omega] at this
    exact this)
  have C2 := Lib.hid (fun (W : World) (hb : Below w.heap.size w W) => by
    have := ih (t 2) _ _ W (h.child (i := 2) (by omega)) (hL.below hb) hn hS
    rw [show ((x + 2 % 2 * 2 ^ k : Nat) : Int) = (x : Int) by omega, show ((y + 2 / 2 * 2 ^ k : Nat) : Int) = (y : Int) + ((2 ^ k : Nat) : Int) by omega] at this
    exact this)
  have C3 := Lib.hid (fun (W : World) (hb : Below w.heap.size w W) => by
    have := ih (t 3) _ _ W (h.child (i := 3) (by omega)) (hL.below hb) hn hS
    rw [show ((x + 3 % 2 * 2 ^ k : Nat) : Int) = (x : Int) + ((2 ^ k : Nat) : Int) by omega, show ((y + 3 / 2 * 2 ^ k : Nat) : Int) = (y : Int) + ((2 ^ k : Nat) : Int) by omega] at this
    exact this)
  rw [hp2] at ON ⊢
  have hs1 : 1 ≤ ((2 ^ k : Nat) : Int) ∧ ((2 ^ k : Nat) : Int) ≤ 256 := by omega
  have hxs : (x : Int) + ((2 ^ k : Nat) : Int) ≤ 256 ∧ (y : Int) + ((2 ^ k : Nat) : Int) ≤ 256 := by omega
  generalize ((2 ^ k : Nat) : Int) = s at *
  have EQ : Hid (bytes.str (qb (.node v g t)) = bytes.str ([1] ++ qb (t 0) ++ qb (t 1) ++ qb (t 2) ++ qb (t 3))) := Lib.hid (by simp [qb, List.append_assoc])
  rw [EQ.out]
  clear h hw1 hp h8 hk8 hn hS hx hy e2 hp2
  generalize qb (t 0) = q0 at *
  generalize qb (t 1) = q1 at *
  generalize qb (t 2) = q2 at *
  generalize qb (t 3) = q3 at *
  have j0 : (ByteArray.mk #[1]) ++ bytes.str q0 = bytes.str ([1] ++ q0) := str_app [1] q0
  have j1 := str_app ([1] ++ q0) q1
  have j2 := str_app ([1] ++ q0 ++ q1) q2
  have j3 := str_app ([1] ++ q0 ++ q1 ++ q2) q3
  have z0 : (bytes.str q0).size ≤ 1000000 := by rw [str_size]; omega
  have z1 : (bytes.str q1).size ≤ 1000000 := by rw [str_size]; omega
  have z2 : (bytes.str q2).size ≤ 1000000 := by rw [str_size]; omega
  have z3 : (bytes.str q3).size ≤ 1000000 := by rw [str_size]; omega
  have y0 : (bytes.str ([1] ++ q0)).size ≤ 1000000 := by rw [str_size]; simp; omega
  have y1 : (bytes.str ([1] ++ q0 ++ q1)).size ≤ 1000000 := by rw [str_size]; simp; omega
  have y2 : (bytes.str ([1] ++ q0 ++ q1 ++ q2)).size ≤ 1000000 := by rw [str_size]; simp; omega
  have y3 : (bytes.str ([1] ++ q0 ++ q1 ++ q2 ++ q3)).size ≤ 1000000 := by rw [str_size]; simp; omega
  clear l0 l1 l2 l3 h48 e48
  have zz : (ByteArray.mk #[1]).size = 1 := rfl
  generalize bytes.str q0 = s0 at *
  generalize bytes.str q1 = s1 at *
  generalize bytes.str q2 = s2 at *
  generalize bytes.str q3 = s3 at *
  generalize bytes.str ([1] ++ q0 ++ q1 ++ q2 ++ q3) = u3 at *
  generalize bytes.str ([1] ++ q0 ++ q1 ++ q2) = u2 at *
  generalize bytes.str ([1] ++ q0 ++ q1) = u1 at *
  generalize bytes.str ([1] ++ q0) = u0 at *
  have a0 : (9223372036854775807 < 1 + s0.size) = False := eq_false (by omega)
  have a1 : (9223372036854775807 < u0.size + s1.size) = False := eq_false (by omega)
  have a2 : (9223372036854775807 < u1.size + s2.size) = False := eq_false (by omega)
  have a3 : (9223372036854775807 < u2.size + s3.size) = False := eq_false (by omega)
  have m1 : (2 * s).tdiv 2 = s := by rw [Int.mul_comm]; exact Int.mul_tdiv_cancel _ (by decide)
  have w0 : IntKind.i64.wrap s = s := IntWalk.i64_in _ (by omega)
  have w2 : IntKind.i64.wrap ((x : Int) + s) = (x : Int) + s := IntWalk.i64_in _ (by omega)
  have w3 : IntKind.i64.wrap ((y : Int) + s) = (y : Int) + s := IntWalk.i64_in _ (by omega)
  have v0 := (IntWalk.i64_left _).symm.trans w0
  have v2 := (IntWalk.i64_left _).symm.trans w2
  have v3 := (IntWalk.i64_left _).symm.trans w3
  clear hs1 hxs z0 z1 z2 z3 y0 y1 y2 y3
  go_enter Try.func17, Try.ntmps17
  go_upto_region 1 with fail
  have hw1 := HW1.out
  simp only [hw1]
  clear hw1 HW1
  have x0 := B1.out.cell 0
  have x1 := B1.out.cell 1
  go_wp2_with fail
  refine ON.out.mono ?_
  rintro e wb ⟨⟨r, rfl, hr⟩, hbb⟩
  have hrf : r = false := by
    cases r with
    | false => rfl
    | true => exact absurd (hr.1 rfl) NO.out
  subst hrf
  have BX := Lib.hid (B1.out.below hbb B1.out.lt)
  have MB := Lib.hid (up M1.out hbb M1.out.size)
  clear x0 x1 hr hbb ON NO B1 M1
  have x0 := BX.out.cell 0
  have x1 := BX.out.cell 1
  go_upto_region 4 with fail
  clear x0 x1
  have ZD := Lib.hid (show Blk wb.drew w.heap.size 28 #[.int .i64 (S : Nat), .slice A L.length c] from BX.out.drewN 1)
  have BD := Lib.hid (show Below w.heap.size w wb.drew from base.below_drewN MB.out 1)
  refine wp_region_held_drew (S := fun ws => ws.cell? ⟨w.heap.size, 0, none⟩ = some (.int .i64 (S : Nat)) ∧ ws.cell? ⟨w.heap.size, 1, none⟩ = some (.slice A L.length c)) (by kernel_rfl) ⟨ZD.out.cell 0, ZD.out.cell 1⟩ (fun hHeld => ?_)
  generalize wb.drew = wd at *
  clear BX MB
  refine wpAnyH_take (i := 0) (v := ?_) rfl (by kernel_rfl) (by kernel_rfl) (by kernel_rfl) (fun _ _ _ h => h) (Or.inl ⟨by rfl, ?_⟩) (by assumption) ?_
  rotate_left
  · (intro w hSw; (try dsimp only at hSw); first | (go_simp; done) | (go_simp; with_reducible rfl))
  simp only [Act.put, List.getElem_toArray, List.getElem_cons_zero, List.getElem_cons_succ, List.setIfInBounds_toArray, List.set_cons_zero, List.set_cons_succ]
  refine wpAnyH_take (i := 1) (v := ?_) rfl (by kernel_rfl) (by kernel_rfl) (by kernel_rfl) (fun _ _ _ h => h) (Or.inl ⟨by rfl, ?_⟩) (by assumption) ?_
  rotate_left
  · (intro w hSw; (try dsimp only at hSw); first | (go_simp; done) | (go_simp; with_reducible rfl))
  simp only [Act.put, List.getElem_toArray, List.getElem_cons_zero, List.getElem_cons_succ, List.setIfInBounds_toArray, List.set_cons_zero, List.set_cons_succ]
  refine wpAnyH_take (i := 2) (v := ?_) rfl (by kernel_rfl) (by kernel_rfl) (by kernel_rfl) (fun _ _ _ h => h) (Or.inl ⟨by rfl, ?_⟩) (by assumption) ?_
  rotate_left
  · (intro w hSw; (try dsimp only at hSw); first | (go_simp; done) | (go_simp; with_reducible rfl))
  simp only [Act.put, List.getElem_toArray, List.getElem_cons_zero, List.getElem_cons_succ, List.setIfInBounds_toArray, List.set_cons_zero, List.set_cons_succ]
  refine wpAnyH_take (i := 3) (v := ?_) rfl (by kernel_rfl) (by kernel_rfl) (by kernel_rfl) (fun _ _ _ h => h) (Or.inl ⟨by rfl, ?_⟩) (by assumption) ?_
  rotate_left
  · (intro w hSw; (try dsimp only at hSw); first | (go_simp; done) | (go_simp; with_reducible rfl))
  simp only [Act.put, List.getElem_toArray, List.getElem_cons_zero, List.getElem_cons_succ, List.setIfInBounds_toArray, List.set_cons_zero, List.set_cons_succ]
  refine wpAnyH_take (i := 6) (v := ?_) rfl (by kernel_rfl) (by kernel_rfl) (by kernel_rfl) (fun _ _ _ h => h) (Or.inl ⟨by rfl, ?_⟩) (by assumption) ?_
  rotate_left
  · (intro w hSw; (try dsimp only at hSw); first | (go_simp; done) | (go_simp; with_reducible rfl))
  simp only [Act.put, List.getElem_toArray, List.getElem_cons_zero, List.getElem_cons_succ, List.setIfInBounds_toArray, List.set_cons_zero, List.set_cons_succ]
  refine wpAnyH_take (i := 7) (v := ?_) rfl (by kernel_rfl) (by kernel_rfl) (by kernel_rfl) (fun _ _ _ h => h) (Or.inl ⟨by rfl, ?_⟩) (by assumption) ?_
  rotate_left
  · (intro w hSw; (try dsimp only at hSw); first | (go_simp; done) | (go_simp; with_reducible rfl))
  simp only [Act.put, List.getElem_toArray, List.getElem_cons_zero, List.getElem_cons_succ, List.setIfInBounds_toArray, List.set_cons_zero, List.set_cons_succ]
  refine wpAnyH_take (i := 8) (v := ?_) rfl (by kernel_rfl) (by kernel_rfl) (by kernel_rfl) (fun _ _ _ h => h) (Or.inl ⟨by rfl, ?_⟩) (by assumption) ?_
  rotate_left
  · (intro w hSw; (try dsimp only at hSw); first | (go_simp; done) | (go_simp; with_reducible rfl))
  simp only [Act.put, List.getElem_toArray, List.getElem_cons_zero, List.getElem_cons_succ, List.setIfInBounds_toArray, List.set_cons_zero, List.set_cons_succ]
  refine wpAnyH_take (i := 9) (v := ?_) rfl (by kernel_rfl) (by kernel_rfl) (by kernel_rfl) (fun _ _ _ h => h) (Or.inl ⟨by rfl, ?_⟩) (by assumption) ?_
  rotate_left
  · (intro w hSw; (try dsimp only at hSw); first | (go_simp; done) | (go_simp; with_reducible rfl))
  simp only [Act.put, List.getElem_toArray, List.getElem_cons_zero, List.getElem_cons_succ, List.setIfInBounds_toArray, List.set_cons_zero, List.set_cons_succ]
  refine wpAnyH_take (i := 10) (v := ?_) rfl (by kernel_rfl) (by kernel_rfl) (by kernel_rfl) (fun _ _ _ h => h) (Or.inl ⟨by rfl, ?_⟩) (by assumption) ?_
  rotate_left
  · (intro w hSw; (try dsimp only at hSw); first | (go_simp; done) | (go_simp; with_reducible rfl))
  simp only [Act.put, List.getElem_toArray, List.getElem_cons_zero, List.getElem_cons_succ, List.setIfInBounds_toArray, List.set_cons_zero, List.set_cons_succ]
  refine wpAnyH_take (i := 11) (v := ?_) rfl (by kernel_rfl) (by kernel_rfl) (by kernel_rfl) (fun _ _ _ h => h) (Or.inl ⟨by rfl, ?_⟩) (by assumption) ?_
  rotate_left
  · (intro w hSw; (try dsimp only at hSw); first | (go_simp; done) | (go_simp; with_reducible rfl))
  simp only [Act.put, List.getElem_toArray, List.getElem_cons_zero, List.getElem_cons_succ, List.setIfInBounds_toArray, List.set_cons_zero, List.set_cons_succ]
  refine wpAnyH_take (i := 14) (v := ?_) rfl (by kernel_rfl) (by kernel_rfl) (by kernel_rfl) (fun _ _ _ h => h) (Or.inl ⟨by rfl, ?_⟩) (by assumption) ?_
  rotate_left
  · (intro w hSw; (try dsimp only at hSw); first | (go_simp; done) | (go_simp; with_reducible rfl))
  simp only [Act.put, List.getElem_toArray, List.getElem_cons_zero, List.getElem_cons_succ, List.setIfInBounds_toArray, List.set_cons_zero, List.set_cons_succ]
  refine wpAnyH_take (i := 15) (v := ?_) rfl (by kernel_rfl) (by kernel_rfl) (by kernel_rfl) (fun _ _ _ h => h) (Or.inl ⟨by rfl, ?_⟩) (by assumption) ?_
  rotate_left
  · (intro w hSw; (try dsimp only at hSw); first | (go_simp; done) | (go_simp; with_reducible rfl))
  simp only [Act.put, List.getElem_toArray, List.getElem_cons_zero, List.getElem_cons_succ, List.setIfInBounds_toArray, List.set_cons_zero, List.set_cons_succ]
  refine wpAnyH_take (i := 16) (v := ?_) rfl (by kernel_rfl) (by kernel_rfl) (by kernel_rfl) (fun _ _ _ h => h) (Or.inl ⟨by rfl, ?_⟩) (by assumption) ?_
  rotate_left
  · (intro w hSw; (try dsimp only at hSw); first | (go_simp; done) | (go_simp; with_reducible rfl))
  simp only [Act.put, List.getElem_toArray, List.getElem_cons_zero, List.getElem_cons_succ, List.setIfInBounds_toArray, List.set_cons_zero, List.set_cons_succ]
  refine wpAnyH_take (i := 17) (v := ?_) rfl (by kernel_rfl) (by kernel_rfl) (by kernel_rfl) (fun _ _ _ h => h) (Or.inl ⟨by rfl, ?_⟩) (by assumption) ?_
  rotate_left
  · (intro w hSw; (try dsimp only at hSw); first | (go_simp; done) | (go_simp; with_reducible rfl))
  simp only [Act.put, List.getElem_toArray, List.getElem_cons_zero, List.getElem_cons_succ, List.setIfInBounds_toArray, List.set_cons_zero, List.set_cons_succ]
  refine wpAnyH_take (i := 18) (v := ?_) rfl (by kernel_rfl) (by kernel_rfl) (by kernel_rfl) (fun _ _ _ h => h) (Or.inl ⟨by rfl, ?_⟩) (by assumption) ?_
  rotate_left
  · (intro w hSw; (try dsimp only at hSw); first | (go_simp; done) | (go_simp; with_reducible rfl))
  simp only [Act.put, List.getElem_toArray, List.getElem_cons_zero, List.getElem_cons_succ, List.setIfInBounds_toArray, List.set_cons_zero, List.set_cons_succ]
  refine wpAnyH_take (i := 19) (v := ?_) rfl (by kernel_rfl) (by kernel_rfl) (by kernel_rfl) (fun _ _ _ h => h) (Or.inl ⟨by rfl, ?_⟩) (by assumption) ?_
  rotate_left
  · (intro w hSw; (try dsimp only at hSw); first | (go_simp; done) | (go_simp; with_reducible rfl))
  simp only [Act.put, List.getElem_toArray, List.getElem_cons_zero, List.getElem_cons_succ, List.setIfInBounds_toArray, List.set_cons_zero, List.set_cons_succ]
  refine wpAnyH_take (i := 22) (v := ?_) rfl (by kernel_rfl) (by kernel_rfl) (by kernel_rfl) (fun _ _ _ h => h) (Or.inl ⟨by rfl, ?_⟩) (by assumption) ?_
  rotate_left
  · (intro w hSw; (try dsimp only at hSw); first | (go_simp; done) | (go_simp; with_reducible rfl))
  simp only [Act.put, List.getElem_toArray, List.getElem_cons_zero, List.getElem_cons_succ, List.setIfInBounds_toArray, List.set_cons_zero, List.set_cons_succ]
  refine wpAnyH_take (i := 23) (v := ?_) rfl (by kernel_rfl) (by kernel_rfl) (by kernel_rfl) (fun _ _ _ h => h) (Or.inl ⟨by rfl, ?_⟩) (by assumption) ?_
  rotate_left
  · (intro w hSw; (try dsimp only at hSw); first | (go_simp; done) | (go_simp; with_reducible rfl))
  simp only [Act.put, List.getElem_toArray, List.getElem_cons_zero, List.getElem_cons_succ, List.setIfInBounds_toArray, List.set_cons_zero, List.set_cons_succ]
  refine wpAnyH_take (i := 24) (v := ?_) rfl (by kernel_rfl) (by kernel_rfl) (by kernel_rfl) (fun _ _ _ h => h) (Or.inl ⟨by rfl, ?_⟩) (by assumption) ?_
  rotate_left
  · (intro w hSw; (try dsimp only at hSw); first | (go_simp; done) | (go_simp; with_reducible rfl))
  simp only [Act.put, List.getElem_toArray, List.getElem_cons_zero, List.getElem_cons_succ, List.setIfInBounds_toArray, List.set_cons_zero, List.set_cons_succ]
  refine wpAnyH_take (i := 25) (v := ?_) rfl (by kernel_rfl) (by kernel_rfl) (by kernel_rfl) (fun _ _ _ h => h) (Or.inl ⟨by rfl, ?_⟩) (by assumption) ?_
  rotate_left
  · (intro w hSw; (try dsimp only at hSw); first | (go_simp; done) | (go_simp; with_reducible rfl))
  simp only [Act.put, List.getElem_toArray, List.getElem_cons_zero, List.getElem_cons_succ, List.setIfInBounds_toArray, List.set_cons_zero, List.set_cons_succ]
  refine wpAnyH_take (i := 26) (v := ?_) rfl (by kernel_rfl) (by kernel_rfl) (by kernel_rfl) (fun _ _ _ h => h) (Or.inl ⟨by rfl, ?_⟩) (by assumption) ?_
  rotate_left
  · (intro w hSw; (try dsimp only at hSw); first | (go_simp; done) | (go_simp; with_reducible rfl))
  simp only [Act.put, List.getElem_toArray, List.getElem_cons_zero, List.getElem_cons_succ, List.setIfInBounds_toArray, List.set_cons_zero, List.set_cons_succ]
  refine wpAnyH_take (i := 27) (v := ?_) rfl (by kernel_rfl) (by kernel_rfl) (by kernel_rfl) (fun _ _ _ h => h) (Or.inl ⟨by rfl, ?_⟩) (by assumption) ?_
  rotate_left
  · (intro w hSw; (try dsimp only at hSw); first | (go_simp; done) | (go_simp; with_reducible rfl))
  simp only [Act.put, List.getElem_toArray, List.getElem_cons_zero, List.getElem_cons_succ, List.setIfInBounds_toArray, List.set_cons_zero, List.set_cons_succ]
  refine wpAnyH_take (i := 28) (v := ?_) rfl (by kernel_rfl) (by kernel_rfl) (by kernel_rfl) (fun _ _ _ h => h) (Or.inl ⟨by rfl, ?_⟩) (by assumption) ?_
  rotate_left
  · (intro w hSw; (try dsimp only at hSw); first | (go_simp; done) | (go_simp; with_reducible rfl))
  simp only [Act.put, List.getElem_toArray, List.getElem_cons_zero, List.getElem_cons_succ, List.setIfInBounds_toArray, List.set_cons_zero, List.set_cons_succ]
  refine wpAnyH_take (i := 29) (v := ?_) rfl (by kernel_rfl) (by kernel_rfl) (by kernel_rfl) (fun _ _ _ h => h) (Or.inl ⟨by rfl, ?_⟩) (by assumption) ?_
  rotate_left
  · (intro w hSw; (try dsimp only at hSw); first | (go_simp; done) | (go_simp; with_reducible rfl))
  simp only [Act.put, List.getElem_toArray, List.getElem_cons_zero, List.getElem_cons_succ, List.setIfInBounds_toArray, List.set_cons_zero, List.set_cons_succ]
  refine wpAnyH_ready (rs := [4]) (by kernel_rfl) (by simp) ?_
  refine AllReadyH.cons rfl (fun K hK => ?_) AllReadyH.nil
  go_simp
  refine (C0.out wd BD.out).mono ?_
  rintro e wd1 ⟨rfl, hb1⟩
  have ZD1 := Lib.hid (ZD.out.below hb1 ZD.out.lt)
  have BD1 := Lib.hid (up BD.out hb1 BD.out.size)
  refine hK.out _ _ ⟨ZD1.out.cell 0, ZD1.out.cell 1⟩ (fun hHeld2 => ?_)
  clear hK K hHeld hb1 C0
  refine wpAnyH_take (i := 5) (v := ?_) rfl (by kernel_rfl) (by kernel_rfl) (by kernel_rfl) (fun _ _ _ h => h) (Or.inl ⟨by rfl, ?_⟩) (by assumption) ?_
  rotate_left
  · (intro w hSw; (try dsimp only at hSw); first | (go_simp; done) | (go_simp; with_reducible rfl))
  simp only [Act.put, List.getElem_toArray, List.getElem_cons_zero, List.getElem_cons_succ, List.setIfInBounds_toArray, List.set_cons_zero, List.set_cons_succ]
  refine wpAnyH_ready (rs := [12]) (by kernel_rfl) (by simp) ?_
  refine AllReadyH.cons rfl (fun K hK => ?_) AllReadyH.nil
  go_simp
  refine (C1.out wd1 BD1.out).mono ?_
  rintro e wd2 ⟨rfl, hb2⟩
  have ZD2 := Lib.hid (ZD1.out.below hb2 ZD1.out.lt)
  have BD2 := Lib.hid (up BD1.out hb2 BD1.out.size)
  refine hK.out _ _ ⟨ZD2.out.cell 0, ZD2.out.cell 1⟩ (fun hHeld => ?_)
  clear hK K hHeld2 hb2 C1
  refine wpAnyH_take (i := 13) (v := ?_) rfl (by kernel_rfl) (by kernel_rfl) (by kernel_rfl) (fun _ _ _ h => h) (Or.inl ⟨by rfl, ?_⟩) (by assumption) ?_
  rotate_left
  · (intro w hSw; (try dsimp only at hSw); first | (go_simp; done) | (go_simp; with_reducible rfl))
  simp only [Act.put, List.getElem_toArray, List.getElem_cons_zero, List.getElem_cons_succ, List.setIfInBounds_toArray, List.set_cons_zero, List.set_cons_succ]
  refine wpAnyH_ready (rs := [20]) (by kernel_rfl) (by simp) ?_
  refine AllReadyH.cons rfl (fun K hK => ?_) AllReadyH.nil
  go_simp
  refine (C2.out wd2 BD2.out).mono ?_
  rintro e wd3 ⟨rfl, hb3⟩
  have ZD3 := Lib.hid (ZD2.out.below hb3 ZD2.out.lt)
  have BD3 := Lib.hid (up BD2.out hb3 BD2.out.size)
  refine hK.out _ _ ⟨ZD3.out.cell 0, ZD3.out.cell 1⟩ (fun hHeld2 => ?_)
  clear hK K hHeld hb3 C2
  refine wpAnyH_take (i := 21) (v := ?_) rfl (by kernel_rfl) (by kernel_rfl) (by kernel_rfl) (fun _ _ _ h => h) (Or.inl ⟨by rfl, ?_⟩) (by assumption) ?_
  rotate_left
  · (intro w hSw; (try dsimp only at hSw); first | (go_simp; done) | (go_simp; with_reducible rfl))
  simp only [Act.put, List.getElem_toArray, List.getElem_cons_zero, List.getElem_cons_succ, List.setIfInBounds_toArray, List.set_cons_zero, List.set_cons_succ]
  refine wpAnyH_ready (rs := [30]) (by kernel_rfl) (by simp) ?_
  refine AllReadyH.cons rfl (fun K hK => ?_) AllReadyH.nil
  go_simp
  refine (C3.out wd3 BD3.out).mono ?_
  rintro e wd4 ⟨rfl, hb4⟩
  have ZD4 := Lib.hid (ZD3.out.below hb4 ZD3.out.lt)
  have BD4 := Lib.hid (up BD3.out hb4 BD3.out.size)
  refine hK.out _ _ ⟨ZD4.out.cell 0, ZD4.out.cell 1⟩ (fun hHeld => ?_)
  clear hK K hHeld2 hb4 C3
  refine wpAnyH_take (i := 31) (v := ?_) rfl (by kernel_rfl) (by kernel_rfl) (by kernel_rfl) (fun _ _ _ h => h) (Or.inl ⟨by rfl, ?_⟩) (by assumption) ?_
  rotate_left
  · (intro w hSw; (try dsimp only at hSw); first | (go_simp; done) | (go_simp; with_reducible rfl))
  simp only [Act.put, List.getElem_toArray, List.getElem_cons_zero, List.getElem_cons_succ, List.setIfInBounds_toArray, List.set_cons_zero, List.set_cons_succ]
  refine wpAnyH_take (i := 32) (v := ?_) rfl (by kernel_rfl) (by kernel_rfl) (by kernel_rfl) (fun _ _ _ h => h) (Or.inl ⟨by rfl, ?_⟩) (by assumption) ?_
  rotate_left
  · (intro w hSw; (try dsimp only at hSw); first | (go_simp; done) | (go_simp; with_reducible rfl))
  simp only [Act.put, List.getElem_toArray, List.getElem_cons_zero, List.getElem_cons_succ, List.setIfInBounds_toArray, List.set_cons_zero, List.set_cons_succ]
  refine wpAnyH_done (by kernel_rfl) ?_ _
  clear hHeld
  go_wp2_with fail
  go_ret
  exact ⟨rfl, BD4.out⟩
theorem gbytes_ok (S : Nat) (A : Option Addr) (c : Nat) (L : List Nat) : ∀ k, k ≤ 9 → GB S A c L k
  | 0, _ => fun q x y w h hL hn hS => by
    cases q with
    | leaf v => exact gbytes_leaf S A c L 0 v x y w h hL hn hS
    | node v g t => exact h.fits.elim
  | k + 1, hk => fun q x y w h hL hn hS => by
    cases q with
    | leaf v => exact gbytes_leaf S A c L (k + 1) v x y w h hL hn hS
    | node v g t => exact gbytes_node S A c L k v g t (gbytes_ok S A c L k (by omega)) (by omega) x y w h hL hn hS
end Go.Proofs.Ytpfnkmlfpkjkpaa.qd
