/-
  Quads: the reference's Squares.
-/
import Derived.Test.YtpfnkmlfpkjkpaaQdRb
namespace Go.Proofs.Ytpfnkmlfpkjkpaa.qd
open Go.RowKit Go.Shelf
open base (ret_bool ret_int made up Blk Only)
set_option linter.unusedVariables false
set_option linter.unusedSimpArgs false
attribute [local go_sem] Oper.semAt_some

def E4 : rk.Enc Lf := ⟨fun d => [.int .i64 d.1, .int .i64 d.2.1, .int .i64 d.2.2.1, .int .i64 (d.2.2.2 : Nat)], 4, by decide, fun _ => rfl, by
  intro x v hv
  simp at hv
  rcases hv with rfl | rfl | rfl | rfl <;> rfl⟩
theorem T4 : rk.Ty E4 Try.prog 36 44 (.agg #[.int .i64 0, .int .i64 0, .int .i64 0, .int .i64 0]) 32 := ⟨Try.underlying36, by kernel_rfl, rfl, by decide⟩
theorem lv_len : ∀ {q : Q} {k : Nat} {x y a b c d : Int}, q.fits k → (lv q k x y a b c d).length ≤ 4 ^ k
  | .leaf u, k, x, y, a, b, c, d, _ => by
    have h0 : 0 < 4 ^ k := Nat.pow_pos (by decide)
    unfold lv
    split <;> simp <;> omega
  | .node _ _ t, 0, _, _, _, _, _, _, hf => hf.elim
  | .node u g t, k + 1, x, y, a, b, c, d, hf => by
    rw [lv_succ]
    split
    · simp only [List.length_append]
      have h0 := lv_len (x := qx x (2 ^ k) 0) (y := qy y (2 ^ k) 0) (a := a) (b := b) (c := c) (d := d) (hf 0 (by omega))
      have h1 := lv_len (x := qx x (2 ^ k) 1) (y := qy y (2 ^ k) 1) (a := a) (b := b) (c := c) (d := d) (hf 1 (by omega))
      have h2 := lv_len (x := qx x (2 ^ k) 2) (y := qy y (2 ^ k) 2) (a := a) (b := b) (c := c) (d := d) (hf 2 (by omega))
      have h3 := lv_len (x := qx x (2 ^ k) 3) (y := qy y (2 ^ k) 3) (a := a) (b := b) (c := c) (d := d) (hf 3 (by omega))
      rw [Nat.pow_succ]
      omega
    · simp
/-- a square of the grid meets all of it -/
theorem full_meet {S x y k : Nat} (hx : x + 2 ^ k ≤ S) (hy : y + 2 ^ k ≤ S) (hS : S ≤ 256) : meetP (x : Int) (y : Int) ((2 ^ k : Nat) : Int) 0 0 (S : Int) (S : Int) := by
  have hp := pow_pos k
  refine ⟨rect.right_mk (by generalize 2 ^ k = s at *; omega), ?_⟩
  generalize 2 ^ k = s at *
  omega
/-- the squares of a square -/
def ls (S : Nat) (q : Q) (k x y : Nat) : List Lf := lv q k (x : Int) (y : Int) 0 0 (S : Int) (S : Int)
theorem ls_leaf {S v k x y : Nat} {L : List Nat} (h : Gt S L (.leaf v) k x y) (hS : S ≤ 256) : ls S (.leaf v) k x y = [((x : Int), (y : Int), ((2 ^ k : Nat) : Int), v)] := by
  unfold ls lv
  rw [if_pos (full_meet h.hx h.hy hS)]
theorem ls_node {S v g k x y : Nat} {t : Nat → Q} {L : List Nat} (h : Gt S L (.node v g t) (k + 1) x y) (hS : S ≤ 256) :
    ls S (.node v g t) (k + 1) x y = ls S (t 0) k (x + 0 % 2 * 2 ^ k) (y + 0 / 2 * 2 ^ k) ++ (ls S (t 1) k (x + 1 % 2 * 2 ^ k) (y + 1 / 2 * 2 ^ k) ++ (ls S (t 2) k (x + 2 % 2 * 2 ^ k) (y + 2 / 2 * 2 ^ k) ++ ls S (t 3) k (x + 3 % 2 * 2 ^ k) (y + 3 / 2 * 2 ^ k))) := by
  have e : ∀ i, qx (x : Int) (2 ^ k) i = ((x + i % 2 * 2 ^ k : Nat) : Int) := fun i => by unfold qx; rw [Int.natCast_add, Int.natCast_mul]
  have e' : ∀ i, qy (y : Int) (2 ^ k) i = ((y + i / 2 * 2 ^ k : Nat) : Int) := fun i => by unfold qy; rw [Int.natCast_add, Int.natCast_mul]
  unfold ls
  rw [lv_succ, if_pos (full_meet h.hx h.hy hS), e, e, e, e, e', e', e', e']
def SqP (M : List Lf) (w : World) (e : Ending) (w' : World) : Prop := ∃ A c, e = .returned (.slice A M.length c) ∧ rk.Lay E4 w' A M ∧ M.length ≤ c ∧ c ≤ 9223372036854775807 ∧ (∀ b off, A = some ⟨b, off, none⟩ → w.heap.size ≤ b) ∧ Below w.heap.size w w'
def GSq (S : Nat) (A : Option Addr) (c : Nat) (L : List Nat) (k : Nat) : Prop := ∀ (q : Q) (x y : Nat) (w : World), Gt S L q k x y → rk.Lay E1 w A L → L.length = S * S → S ≤ 256 →
  Calls Try.prog 13 #[.agg #[.int .i64 (S : Nat), .slice A L.length c], .int .i64 (x : Nat), .int .i64 (y : Nat), .int .i64 ((2 ^ k : Nat) : Int)] w (SqP (ls S q k x y) w)
set_option maxRecDepth 100000 in
set_option maxHeartbeats 4000000 in
theorem gsq_leaf (S : Nat) (A : Option Addr) (c : Nat) (L : List Nat) (k v x y : Nat) (w : World) (h : Gt S L (.leaf v) k x y) (hL : rk.Lay E1 w A L) (hn : L.length = S * S) (hS : S ≤ 256) :
    Calls Try.prog 13 #[.agg #[.int .i64 (S : Nat), .slice A L.length c], .int .i64 (x : Nat), .int .i64 (y : Nat), .int .i64 ((2 ^ k : Nat) : Int)] w (SqP (ls S (.leaf v) k x y) w) := by
  have EQ := Lib.hid (ls_leaf h hS)
  obtain ⟨w1, hw1⟩ : ∃ w1, w.alloc (.cells #[.int .i64 (S : Nat), .slice A L.length c] 28) = w1 := ⟨_, rfl⟩
  have M1 := Lib.hid (show Below w.heap.size w w1 from by rw [← hw1]; exact made w _)
  have B1 := Lib.hid (show Blk w1 w.heap.size 28 #[.int .i64 (S : Nat), .slice A L.length c] from by rw [← hw1]; exact Blk.new _ _ _)
  have HW1 := Lib.hid hw1
  have ON := Lib.hid (one_any S x y (2 ^ k) A c L w1 (hL.below M1.out) hn hS h.hx h.hy)
  have YES := Lib.hid (h.one.2 ⟨v, rfl⟩)
  have hQ : y * S + x < L.length := by
    have := tile_lt (a := 0) (b := 0) h.hx h.hy (pow_pos k) (pow_pos k)
    rw [hn]; simpa using this
  have hle : L.length ≤ 65536 := by rw [hn]; exact Nat.mul_le_mul hS hS
  have hLv := h.leaf
  obtain ⟨bb, off, rfl, e1⟩ := lay1 hL hQ
  rw [hLv] at e1
  have E1W := Lib.hid e1
  clear hw1 hL hn h e1 hLv
  generalize ((2 ^ k : Nat) : Int) = s at *
  have hmul2 : (y : Int) * (S : Int) = ((y * S : Nat) : Int) := by rw [← Int.natCast_mul]
  generalize y * S = M2 at *
  have t6 : ((M2 : Int) + (x : Int)).toNat = M2 + x := by rw [← Int.natCast_add, Int.toNat_natCast]
  have p2 : (0 : Int) ≤ (M2 : Int) + (x : Int) := by omega
  have p3 : (M2 : Int) + (x : Int) < (L.length : Int) := by omega
  have k5 : IntKind.i64.wrap ((M2 : Nat) : Int) = (M2 : Int) := IntWalk.i64_in _ (by omega)
  have k6 : IntKind.i64.wrap ((M2 : Int) + (x : Int)) = (M2 : Int) + (x : Int) := IntWalk.i64_in _ (by omega)
  have j5 := (IntWalk.i64_left _).symm.trans k5
  have j6 := (IntWalk.i64_left _).symm.trans k6
  go_enter Try.func13, Try.ntmps13
  go_upto_region 1 with fail
  have hw1 := HW1.out
  simp only [hw1]
  clear hw1 HW1
  have x0 := B1.out.cell 0
  have x1 := B1.out.cell 1
  go_wp2_with fail
  refine ON.out.mono ?_
  rintro e w2 ⟨⟨r, rfl, hr⟩, hb2⟩
  obtain rfl : r = true := hr.2 YES.out
  have BX := Lib.hid (B1.out.below hb2 B1.out.lt)
  have E1X : w2.cell? ⟨bb, off + (M2 + x), none⟩ = some (.int .i64 (v : Nat)) := (hb2.cell (World.block_lt_of_cell? _ _ ((M1.out.cell (World.block_lt_of_cell? _ _ E1W.out)).trans E1W.out))).trans ((M1.out.cell (World.block_lt_of_cell? _ _ E1W.out)).trans E1W.out)
  have M2 := Lib.hid (up M1.out hb2 M1.out.size)
  have FIN := Lib.hid (show SqP [((x : Int), (y : Int), s, v)] w (.returned (.slice (some ⟨w2.heap.size, 0, none⟩) 1 1)) (w2.alloc (.cells #[.int .i64 (x : Nat), .int .i64 (y : Nat), .int .i64 s, .int .i64 (v : Nat)] 44)) from
    ⟨_, 1, rfl, rk.Lay.lit (E := E4) _ ((x : Int), (y : Int), s, v) 44 w2.heap.size (Blk.new _ _ _), Nat.le_refl _, by omega, fun b off e => by cases e; exact M2.out.size, up M2.out (made w2 _) M2.out.size⟩)
  clear x0 x1 hr hb2 ON
  have x0 := BX.out.cell 0
  have x1 := BX.out.cell 1
  go_wp2_with fail
  go_ret
  rw [EQ.out]
  exact FIN.out
set_option maxRecDepth 100000 in
set_option maxHeartbeats 8000000 in
theorem gsq_node (S : Nat) (A : Option Addr) (c : Nat) (L : List Nat) (k v g : Nat) (t : Nat → Q) (ih : GSq S A c L k) (hk8 : k ≤ 8) (x y : Nat) (w : World) (h : Gt S L (.node v g t) (k + 1) x y) (hL : rk.Lay E1 w A L) (hn : L.length = S * S) (hS : S ≤ 256) :
    Calls Try.prog 13 #[.agg #[.int .i64 (S : Nat), .slice A L.length c], .int .i64 (x : Nat), .int .i64 (y : Nat), .int .i64 ((2 ^ (k + 1) : Nat) : Int)] w (SqP (ls S (.node v g t) (k + 1) x y) w) := by
  obtain ⟨w1, hw1⟩ : ∃ w1, w.alloc (.cells #[.int .i64 (S : Nat), .slice A L.length c] 28) = w1 := ⟨_, rfl⟩
  have M1 := Lib.hid (show Below w.heap.size w w1 from by rw [← hw1]; exact made w _)
  have B1 := Lib.hid (show Blk w1 w.heap.size 28 #[.int .i64 (S : Nat), .slice A L.length c] from by rw [← hw1]; exact Blk.new _ _ _)
  have HW1 := Lib.hid hw1
  have ON := Lib.hid (one_any S x y (2 ^ (k + 1)) A c L w1 (hL.below M1.out) hn hS h.hx h.hy)
  have NO := Lib.hid (show ¬ OneP S x y (2 ^ (k + 1)) L from fun q => by obtain ⟨v, e⟩ := h.one.1 q; cases e)
  have hp := pow_pos k
  have h8 : 2 ^ k ≤ 2 ^ 8 := Nat.pow_le_pow_right (by decide) hk8
  have hp2 : ((2 ^ (k + 1) : Nat) : Int) = 2 * ((2 ^ k : Nat) : Int) := by rw [Nat.pow_succ]; omega
  have h48 : 4 ^ k ≤ 4 ^ 8 := Nat.pow_le_pow_right (by decide) hk8
  have e48 : 4 ^ 8 = 65536 := by decide
  have l0 : (ls S (t 0) k (x + 0 % 2 * 2 ^ k) (y + 0 / 2 * 2 ^ k)).length ≤ 65536 := Nat.le_trans (lv_len (h.fits 0 (by omega))) (by omega)
  have l1 : (ls S (t 1) k (x + 1 % 2 * 2 ^ k) (y + 1 / 2 * 2 ^ k)).length ≤ 65536 := Nat.le_trans (lv_len (h.fits 1 (by omega))) (by omega)
  have l2 : (ls S (t 2) k (x + 2 % 2 * 2 ^ k) (y + 2 / 2 * 2 ^ k)).length ≤ 65536 := Nat.le_trans (lv_len (h.fits 2 (by omega))) (by omega)
  have l3 : (ls S (t 3) k (x + 3 % 2 * 2 ^ k) (y + 3 / 2 * 2 ^ k)).length ≤ 65536 := Nat.le_trans (lv_len (h.fits 3 (by omega))) (by omega)
  have LS := Lib.hid (And.intro l0 (And.intro l1 (And.intro l2 l3)))
  have hx := h.hx
  have hy := h.hy
  have e2 : 2 ^ (k + 1) = 2 ^ k + 2 ^ k := by rw [Nat.pow_succ]; omega
  rw [e2] at hx hy
  have C0 := Lib.hid (fun (W : World) (hb : Below w.heap.size w W) => by
    have := ih (t 0) _ _ W (h.child (i := 0) (by omega)) (hL.below hb) hn hS
    rw [show ((x + 0 % 2 * 2 ^ k : Nat) : Int) = (x : Int) by omega, show ((y + 0 / 2 * 2 ^ k : Nat) : Int) = (y : Int) by omega] at this
    exact this)
  have C1 := Lib.hid (fun (W : World) (hb : Below w.heap.size w W) => by
    have := ih (t 1) _ _ W (h.child (i := 1) (by omega)) (hL.below hb) hn hS
    rw [show ((x + 1 % 2 * 2 ^ k : Nat) : Int) = (x : Int) + ((2 ^ k : Nat) : Int) by omega, show ((y + 1 / 2 * 2 ^ k : Nat) : Int) = (y : Int) by omega] at this
    exact this)
  have C2 := Lib.hid (fun (W : World) (hb : Below w.heap.size w W) => by
    have := ih (t 2) _ _ W (h.child (i := 2) (by omega)) (hL.below hb) hn hS
    rw [show ((x + 2 % 2 * 2 ^ k : Nat) : Int) = (x : Int) by omega, show ((y + 2 / 2 * 2 ^ k : Nat) : Int) = (y : Int) + ((2 ^ k : Nat) : Int) by omega] at this
    exact this)
  have C3 := Lib.hid (fun (W : World) (hb : Below w.heap.size w W) => by
    have := ih (t 3) _ _ W (h.child (i := 3) (by omega)) (hL.below hb) hn hS
    rw [show ((x + 3 % 2 * 2 ^ k : Nat) : Int) = (x : Int) + ((2 ^ k : Nat) : Int) by omega, show ((y + 3 / 2 * 2 ^ k : Nat) : Int) = (y : Int) + ((2 ^ k : Nat) : Int) by omega] at this
    exact this)
  rw [ls_node h hS, hp2]
  rw [hp2] at ON
  have hs1 : 1 ≤ ((2 ^ k : Nat) : Int) ∧ ((2 ^ k : Nat) : Int) ≤ 256 := by omega
  have hxs : (x : Int) + ((2 ^ k : Nat) : Int) ≤ 256 ∧ (y : Int) + ((2 ^ k : Nat) : Int) ≤ 256 := by omega
  generalize ls S (t 0) k (x + 0 % 2 * 2 ^ k) (y + 0 / 2 * 2 ^ k) = q0 at *
  generalize ls S (t 1) k (x + 1 % 2 * 2 ^ k) (y + 1 / 2 * 2 ^ k) = q1 at *
  generalize ls S (t 2) k (x + 2 % 2 * 2 ^ k) (y + 2 / 2 * 2 ^ k) = q2 at *
  generalize ls S (t 3) k (x + 3 % 2 * 2 ^ k) (y + 3 / 2 * 2 ^ k) = q3 at *
  generalize ((2 ^ k : Nat) : Int) = s at *
  clear h hw1 hp h8 hk8 hn hS hx hy e2 hp2 l0 l1 l2 l3 h48 e48
  have m1 : (2 * s).tdiv 2 = s := by rw [Int.mul_comm]; exact Int.mul_tdiv_cancel _ (by decide)
  have w0 : IntKind.i64.wrap s = s := IntWalk.i64_in _ (by omega)
  have w2 : IntKind.i64.wrap ((x : Int) + s) = (x : Int) + s := IntWalk.i64_in _ (by omega)
  have w3 : IntKind.i64.wrap ((y : Int) + s) = (y : Int) + s := IntWalk.i64_in _ (by omega)
  have v0 := (IntWalk.i64_left _).symm.trans w0
  have v2 := (IntWalk.i64_left _).symm.trans w2
  have v3 := (IntWalk.i64_left _).symm.trans w3
  clear hs1 hxs
  go_enter Try.func13, Try.ntmps13
  go_upto_region 1 with fail
  have hw1 := HW1.out
  simp only [hw1]
  clear hw1 HW1
  have x0 := B1.out.cell 0
  have x1 := B1.out.cell 1
  go_wp2_with fail
  refine ON.out.mono ?_
  rintro e wb ⟨⟨r, rfl, hr⟩, hbb⟩
  have hrf : r = false := by
    cases r with
    | false => rfl
    | true => exact absurd (hr.1 rfl) NO.out
  subst hrf
  have G0 := Lib.hid (B1.out.below hbb B1.out.lt)
  have D0 := Lib.hid (up M1.out hbb M1.out.size)
  have O0 := Lib.hid (rk.Own.nil (E := E4) wb w.heap.size 44)
  clear x0 x1 hr hbb ON NO B1 M1
  have x0 := G0.out.cell 0
  have x1 := G0.out.cell 1
  go_wp2_with fail
  refine (C0.out wb D0.out).mono ?_
  rintro e wc0 ⟨A1, c1, rfl, hl, hcc, hcm, hbl, hb⟩
  have GC0 := Lib.hid (G0.out.below hb G0.out.lt)
  have DC0 := Lib.hid (up D0.out hb D0.out.size)
  have HB0 := Lib.hid (show ([] : List Lf).length + q0.length ≤ 100000000 by have := LS.out; (try simp only [List.length_append, List.length_nil]); omega)
  have OC0 := Lib.hid (rk.Own.below (E := E4) O0.out hb)
  have LC0 := Lib.hid hl
  have ZC0 := Lib.hid (And.intro hbl (And.intro hb.size D0.out.size))
  clear x0 x1 hl hcc hcm hbl hb C0 G0 D0 O0
  go_wp2_with ((with_reducible show wpList _ _ _ (⟨some 39, _, _, _, _, _⟩ :: _) _ _); go_must (refine rk.wp_app T4 (c := c1) (n := q0.length) rfl _ _ rfl rfl rfl rfl rfl OC0.out LC0.out HB0.out DC0.out.size ?_))
  intro vn1 wn1 own1 grew1
  have D1 := Lib.hid (show Below w.heap.size w wn1 from DC0.out.trans (grew1.below OC0.out DC0.out.size))
  have O1 := Lib.hid (show rk.Own E4 wn1 w.heap.size 44 vn1 (q0 : List Lf) from by first | exact own1 | simpa [List.append_assoc] using own1)
  have G1 := Lib.hid (show Blk wn1 w.heap.size 28 #[.int .i64 (S : Nat), .slice A L.length c] from GC0.out.grown grew1.grown (by
    intro e
    obtain ⟨-, -, cs, hcs⟩ := OC0.out.lt' _ e.symm
    have h1 := GC0.out
    unfold Blk at h1 hcs
    rw [h1] at hcs
    injection hcs with hcs
    injection hcs with _ hty
    revert hty
    decide))
  obtain ⟨Av1, nv1, cv1, rfl⟩ : ∃ A n c, vn1 = .slice A n c := by
    obtain ⟨A, c, h, -⟩ := own1.open_
    exact ⟨A, _, c, h⟩
  clear own1 grew1 HB0 OC0 LC0 GC0 DC0 ZC0
  have x0 := G1.out.cell 0
  have x1 := G1.out.cell 1
  go_wp2_with fail
  refine (C1.out wn1 D1.out).mono ?_
  rintro e wc1 ⟨A2, c2, rfl, hl, hcc, hcm, hbl, hb⟩
  have GC1 := Lib.hid (G1.out.below hb G1.out.lt)
  have DC1 := Lib.hid (up D1.out hb D1.out.size)
  have HB1 := Lib.hid (show (q0 : List Lf).length + q1.length ≤ 100000000 by have := LS.out; (try simp only [List.length_append, List.length_nil]); omega)
  have OC1 := Lib.hid (rk.Own.below (E := E4) O1.out hb)
  have LC1 := Lib.hid hl
  have ZC1 := Lib.hid (And.intro hbl (And.intro hb.size D1.out.size))
  clear x0 x1 hl hcc hcm hbl hb C1 G1 D1 O1
  go_wp2_with ((with_reducible show wpList _ _ _ (⟨some 48, _, _, _, _, _⟩ :: _) _ _); go_must (refine rk.wp_app T4 (c := c2) (n := q1.length) rfl _ _ rfl rfl rfl rfl rfl OC1.out LC1.out HB1.out DC1.out.size ?_))
  intro vn2 wn2 own2 grew2
  have D2 := Lib.hid (show Below w.heap.size w wn2 from DC1.out.trans (grew2.below OC1.out DC1.out.size))
  have O2 := Lib.hid (show rk.Own E4 wn2 w.heap.size 44 vn2 (q0 ++ q1 : List Lf) from by first | exact own2 | simpa [List.append_assoc] using own2)
  have G2 := Lib.hid (show Blk wn2 w.heap.size 28 #[.int .i64 (S : Nat), .slice A L.length c] from GC1.out.grown grew2.grown (by
    intro e
    obtain ⟨-, -, cs, hcs⟩ := OC1.out.lt' _ e.symm
    have h1 := GC1.out
    unfold Blk at h1 hcs
    rw [h1] at hcs
    injection hcs with hcs
    injection hcs with _ hty
    revert hty
    decide))
  obtain ⟨Av2, nv2, cv2, rfl⟩ : ∃ A n c, vn2 = .slice A n c := by
    obtain ⟨A, c, h, -⟩ := own2.open_
    exact ⟨A, _, c, h⟩
  clear own2 grew2 HB1 OC1 LC1 GC1 DC1 ZC1
  have x0 := G2.out.cell 0
  have x1 := G2.out.cell 1
  go_wp2_with fail
  refine (C2.out wn2 D2.out).mono ?_
  rintro e wc2 ⟨A3, c3, rfl, hl, hcc, hcm, hbl, hb⟩
  have GC2 := Lib.hid (G2.out.below hb G2.out.lt)
  have DC2 := Lib.hid (up D2.out hb D2.out.size)
  have HB2 := Lib.hid (show (q0 ++ q1 : List Lf).length + q2.length ≤ 100000000 by have := LS.out; (try simp only [List.length_append, List.length_nil]); omega)
  have OC2 := Lib.hid (rk.Own.below (E := E4) O2.out hb)
  have LC2 := Lib.hid hl
  have ZC2 := Lib.hid (And.intro hbl (And.intro hb.size D2.out.size))
  clear x0 x1 hl hcc hcm hbl hb C2 G2 D2 O2
  go_wp2_with ((with_reducible show wpList _ _ _ (⟨some 57, _, _, _, _, _⟩ :: _) _ _); go_must (refine rk.wp_app T4 (c := c3) (n := q2.length) rfl _ _ rfl rfl rfl rfl rfl OC2.out LC2.out HB2.out DC2.out.size ?_))
  intro vn3 wn3 own3 grew3
  have D3 := Lib.hid (show Below w.heap.size w wn3 from DC2.out.trans (grew3.below OC2.out DC2.out.size))
  have O3 := Lib.hid (show rk.Own E4 wn3 w.heap.size 44 vn3 (q0 ++ (q1 ++ q2) : List Lf) from by first | exact own3 | simpa [List.append_assoc] using own3)
  have G3 := Lib.hid (show Blk wn3 w.heap.size 28 #[.int .i64 (S : Nat), .slice A L.length c] from GC2.out.grown grew3.grown (by
    intro e
    obtain ⟨-, -, cs, hcs⟩ := OC2.out.lt' _ e.symm
    have h1 := GC2.out
    unfold Blk at h1 hcs
    rw [h1] at hcs
    injection hcs with hcs
    injection hcs with _ hty
    revert hty
    decide))
  obtain ⟨Av3, nv3, cv3, rfl⟩ : ∃ A n c, vn3 = .slice A n c := by
    obtain ⟨A, c, h, -⟩ := own3.open_
    exact ⟨A, _, c, h⟩
  clear own3 grew3 HB2 OC2 LC2 GC2 DC2 ZC2
  have x0 := G3.out.cell 0
  have x1 := G3.out.cell 1
  go_wp2_with fail
  refine (C3.out wn3 D3.out).mono ?_
  rintro e wc3 ⟨A4, c4, rfl, hl, hcc, hcm, hbl, hb⟩
  have GC3 := Lib.hid (G3.out.below hb G3.out.lt)
  have DC3 := Lib.hid (up D3.out hb D3.out.size)
  have HB3 := Lib.hid (show (q0 ++ (q1 ++ q2) : List Lf).length + q3.length ≤ 100000000 by have := LS.out; (try simp only [List.length_append, List.length_nil]); omega)
  have OC3 := Lib.hid (rk.Own.below (E := E4) O3.out hb)
  have LC3 := Lib.hid hl
  have ZC3 := Lib.hid (And.intro hbl (And.intro hb.size D3.out.size))
  clear x0 x1 hl hcc hcm hbl hb C3 G3 D3 O3
  go_wp2_with ((with_reducible show wpList _ _ _ (⟨some 68, _, _, _, _, _⟩ :: _) _ _); go_must (refine rk.wp_app T4 (c := c4) (n := q3.length) rfl _ _ rfl rfl rfl rfl rfl OC3.out LC3.out HB3.out DC3.out.size ?_))
  intro vn4 wn4 own4 grew4
  have D4 := Lib.hid (show Below w.heap.size w wn4 from DC3.out.trans (grew4.below OC3.out DC3.out.size))
  have O4 := Lib.hid (show rk.Own E4 wn4 w.heap.size 44 vn4 (q0 ++ (q1 ++ (q2 ++ q3)) : List Lf) from by first | exact own4 | simpa [List.append_assoc] using own4)
  have G4 := Lib.hid (show Blk wn4 w.heap.size 28 #[.int .i64 (S : Nat), .slice A L.length c] from GC3.out.grown grew4.grown (by
    intro e
    obtain ⟨-, -, cs, hcs⟩ := OC3.out.lt' _ e.symm
    have h1 := GC3.out
    unfold Blk at h1 hcs
    rw [h1] at hcs
    injection hcs with hcs
    injection hcs with _ hty
    revert hty
    decide))
  obtain ⟨Av4, nv4, cv4, rfl⟩ : ∃ A n c, vn4 = .slice A n c := by
    obtain ⟨A, c, h, -⟩ := own4.open_
    exact ⟨A, _, c, h⟩
  clear own4 grew4 HB3 OC3 LC3 GC3 DC3 ZC3
  go_wp2_with fail
  obtain ⟨A', c', e', hl', hc', hm'⟩ := O4.out.open_
  go_ret
  refine ⟨A', c', ?_, ?_, ?_, hm', fun b off e => (O4.out.lt' b (by rw [e', e]; rfl)).1, D4.out⟩
  · show Ending.returned _ = _
    refine congrArg Ending.returned (e'.trans ?_)
    simp [List.append_assoc]
  · simpa [List.append_assoc] using hl'
  · simpa [List.append_assoc] using hc'
theorem gsq_ok (S : Nat) (A : Option Addr) (c : Nat) (L : List Nat) : ∀ k, k ≤ 9 → GSq S A c L k
  | 0, _ => fun q x y w h hL hn hS => by
    cases q with
    | leaf v => exact gsq_leaf S A c L 0 v x y w h hL hn hS
    | node v g t => exact h.fits.elim
  | k + 1, hk => fun q x y w h hL hn hS => by
    cases q with
    | leaf v => exact gsq_leaf S A c L (k + 1) v x y w h hL hn hS
    | node v g t => exact gsq_node S A c L k v g t (gsq_ok S A c L k (by omega)) (by omega) x y w h hL hn hS
end Go.Proofs.Ytpfnkmlfpkjkpaa.qd
