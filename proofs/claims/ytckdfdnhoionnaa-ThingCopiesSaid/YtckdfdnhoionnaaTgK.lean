/-
  Contracts of the reference of package thing: Find, Make, Destroy.
-/
import Derived.Test.YtckdfdnhoionnaaTgJ
import Derived.Test.YtckdfdnhoionnaaBase2
namespace Go.Proofs.Ytckdfdnhoionnaa.tg
open Go.RowKit
open Go.Maps (Keyed)
open base (ret_bool ret_int made up Blk Only)
open rk mk il nm
set_option linter.unusedVariables false
set_option linter.unusedSimpArgs false
variable {B g m K : Nat} {w w1 w2 w5 w' : World} {L : List Th} {nx : Int}

theorem blk2 {w : World} {r : Nat} {t : TypeId} {a0 a1 : Value} (h : Blk w r t #[a0, a1]) (v0 v1 : Value) :
    Blk ((w.setCell ⟨r, 0, none⟩ v0).setCell ⟨r, 1, none⟩ v1) r t #[v0, v1] := by
  have h7 := (h.put 0 v0).put 1 v1
  simp only [List.setIfInBounds_toArray, List.set_cons_zero, List.set_cons_succ] at h7
  exact h7
theorem below2 {B : Nat} {w w' : World} {r : Nat} (h : Below B w w') (hB : B ≤ r) (v0 v1 : Value) :
    Below B w ((w'.setCell ⟨r, 0, none⟩ v0).setCell ⟨r, 1, none⟩ v1) := (h.setCell (p := ⟨r, 0, none⟩) hB _).setCell (p := ⟨r, 1, none⟩) hB _
theorem own2 {α : Type} {E : Enc α} {w : World} {B r : Nat} {t t' : TypeId} {v : Value} {L : List α} {cs : Array Value} (h : Own E w B t v L) (hb : Blk w r t' cs) (ht : t ≠ t') (v0 v1 : Value) : Own E ((w.setCell ⟨r, 0, none⟩ v0).setCell ⟨r, 1, none⟩ v1) B t v L := h.keep (fun k hk => by
  have hne := own_blk_ne h hb ht k hk
  exact (Below.heap_setCell _ ⟨r, 1, none⟩ v1 k hne).trans (Below.heap_setCell _ ⟨r, 0, none⟩ v0 k hne))
theorem erase_snoc (L : List Th) (i : Nat) {k : Nat} (hk : k < L.length) : (L.take (k + 1)).eraseIdx i = if k = i then (L.take k).eraseIdx i else (L.take k).eraseIdx i ++ [L[k]] := by
  rw [List.take_succ_eq_append_getElem hk]
  have hl : (L.take k).length = k := by rw [List.length_take]; omega
  by_cases e : k = i
  · subst e
    have e2 : (L.take k).eraseIdx k = L.take k := List.eraseIdx_of_length_le (by omega)
    rw [if_pos rfl, e2, List.eraseIdx_append_of_length_le (by omega), hl, Nat.sub_self]
    exact List.append_nil _
  · rw [if_neg e]
    by_cases q : i < k
    · rw [List.eraseIdx_append_of_lt_length (by omega)]
    · rw [List.eraseIdx_append_of_length_le (by omega), List.eraseIdx_of_length_le (l := L.take k) (by omega), hl]
      congr 1
      rw [List.eraseIdx_of_length_le (by simp; omega)]
def RIP (B : Nat) (r : St × Int × Int) (w : World) (e : Ending) (w' : World) : Prop :=
  ∃ v, e = .returned (.tuple #[.agg #[v, .int .i64 r.1.2], .int .i64 r.2.1, .int .i64 r.2.2]) ∧ Own E6 w' B 43 v r.1.1 ∧ Below w.heap.size w w'
def ROP (B : Nat) (r : St × Int) (w : World) (e : Ending) (w' : World) : Prop :=
  ∃ v, e = .returned (.tuple #[.agg #[v, .int .i64 r.1.2], .int .i64 r.2]) ∧ Own E6 w' B 43 v r.1.1 ∧ Below w.heap.size w w'
theorem own_lay {t : TypeId} {A : Option Addr} {c : Nat} (h : Own E6 w B t (.slice A L.length c) L) : Lay E6 w A L := by
  obtain ⟨A', c', e, h2, _⟩ := h.open_
  injection e with e1 e2 e3
  subst e1
  exact h2
set_option maxRecDepth 100000 in
set_option maxHeartbeats 2000000 in
theorem rfind_any (A : Option Addr) (c : Nat) (L : List Th) (nx n : Int) (w : World) (hA : Lay E6 w A L) (hl : L.length ≤ 100000) :
    Calls Try.prog 17 #[.agg #[.slice A L.length c, .int .i64 nx], .int .i64 n] w fun e w' => e = .returned (.int .i64 (ix (fi (isId n) L))) ∧ Below w.heap.size w w' := by
  have hm := made w (.cells #[.slice A L.length c, .int .i64 nx] 29)
  have bx : Blk (w.alloc (.cells #[.slice A L.length c, .int .i64 nx] 29)) w.heap.size 29 #[.slice A L.length c, .int .i64 nx] := Blk.new _ _ _
  have b0 := bx.cell 0
  have HA := Lib.hid (hA.below hm)
  have M := Lib.hid hm
  clear hA hm bx
  generalize hw1 : w.alloc (.cells #[.slice A L.length c, .int .i64 nx] 29) = w1 at *
  go_enter Try.func17, Try.ntmps17
  go_wp2_with (rw [hw1])
  go_loop [5] (fun i => ∃ k : Nat, i = .int .i64 k ∧ k ≤ L.length ∧ Upto (isId n) L k) (fun i => L.length - (intOf i).toNat)
  case atStart => exact ⟨0, rfl, by omega, Upto.zero _ _⟩
  case round =>
    obtain ⟨k, rfl, hk, hno⟩ := hrel
    have NO := Lib.hid hno
    clear hno
    by_cases hkl : k < L.length
    · obtain ⟨b, off, rfl, e0, -, -, -, -, -⟩ := lay6 HA.out hkl
      obtain ⟨d, hd⟩ : ∃ d, d = L[k] := ⟨_, rfl⟩
      rw [← hd] at e0
      have DD := Lib.hid hd
      clear hd
      obtain ⟨d0, d1, d2, d3, d4, d5⟩ := d
      dsimp only at e0
      obtain ⟨q, hq⟩ : ∃ q, q = (d0 == n) := ⟨_, rfl⟩
      have Q := Lib.hid (show q = isId n L[k] by rw [hq, ← DD.out]; rfl)
      have hq2 := hq.symm
      clear hq
      cases q with
      | true =>
        go_wp2_with fail
        go_ret
        exact ⟨by rw [NO.out.found hkl Q.out.symm]; rfl, M.out⟩
      | false =>
        go_wp2_with fail
        refine ⟨⟨k + 1, by go_num, by omega, NO.out.succ hkl Q.out.symm⟩, by simp [intOf]; omega⟩
    · go_wp2_with fail
      go_ret
      exact ⟨by rw [NO.out.none (by omega)]; rfl, M.out⟩
set_option maxRecDepth 100000 in
set_option maxHeartbeats 4000000 in
theorem rmake_any (A : Option Addr) (c : Nat) (L : List Th) (nx : Int) (n : ByteArray) (o : Int) (B : Nat) (w : World) (ho : Own E6 w B 43 (.slice A L.length c) L) (hl : L.length ≤ 100000) (hn : 0 ≤ nx ∧ nx ≤ 4398046511104) (hs : n.size ≤ 9223372036854775807) (hB : B ≤ w.heap.size) :
    Calls Try.prog 30 #[.agg #[.slice A L.length c, .int .i64 nx], .string n, .int .i64 o] w (RIP B (make (L, nx) n o) w) := by
  obtain ⟨hn0, hn1⟩ := hn
  have IS := Lib.hid (show make (L, nx) n o = if okN n = false then ((L, nx), 0, 16) else if o < 1 then ((L, nx), 0, 10) else if 4096 ≤ L.length then ((L, nx), 0, 12) else ((L ++ [⟨nx, n, o, 1, o, 0⟩], nx + 1), nx, 0) from rfl)
  generalize make (L, nx) n o = r at *
  have NM := Lib.hid (fun ws => rname_any n ws hs)
  generalize okN n = ok at *
  clear hs
  have hm1 : Below w.heap.size w (w.alloc (.cells #[.slice A L.length c, .int .i64 nx] 29)) := made w _
  have hm2 : Below w.heap.size w ((w.alloc (.cells #[.slice A L.length c, .int .i64 nx] 29)).alloc (.cells #[.slice none 0 0, .int .i64 0] 29)) := hm1.alloc (by rw [asz]; omega) _
  have bx : Blk ((w.alloc (.cells #[.slice A L.length c, .int .i64 nx] 29)).alloc (.cells #[.slice none 0 0, .int .i64 0] 29)) w.heap.size 29 #[.slice A L.length c, .int .i64 nx] := (Blk.new _ _ _).alloc _
  have br : Blk ((w.alloc (.cells #[.slice A L.length c, .int .i64 nx] 29)).alloc (.cells #[.slice none 0 0, .int .i64 0] 29)) (w.heap.size + 1) 29 #[.slice none 0 0, .int .i64 0] := by
    have := Blk.new (w.alloc (.cells #[.slice A L.length c, .int .i64 nx] 29)) 29 #[.slice none 0 0, .int .i64 0]
    rw [asz] at this
    exact this
  have hs2 : ((w.alloc (.cells #[.slice A L.length c, .int .i64 nx] 29)).alloc (.cells #[.slice none 0 0, .int .i64 0] 29)).heap.size = w.heap.size + 2 := by rw [asz, asz]
  have BX := Lib.hid bx
  have BR := Lib.hid br
  have M := Lib.hid hm2
  have Z2 := Lib.hid hs2
  have HO := Lib.hid (ho.below hm2)
  have HB := Lib.hid hB
  have LAY := Lib.hid (fun ws B' (h : Own E6 ws B' 43 (.slice A L.length c) L) => own_lay h)
  have b0 := bx.cell 0
  have b1 := bx.cell 1
  have r0 := br.cell 0
  have r1 := br.cell 1
  have f0 := br.free 0
  have f1 := br.free 1
  clear ho hB hm1 hm2 bx br hs2
  generalize hw2 : (w.alloc (.cells #[.slice A L.length c, .int .i64 nx] 29)).alloc (.cells #[.slice none 0 0, .int .i64 0] 29) = w2 at *
  cases ok with
  | false =>
    rw [if_pos rfl] at IS
    obtain rfl := IS.out
    go_enter Try.func30, Try.ntmps30
    go_wp2_with (first | rw [hw2] | (go_at_call 43; refine (NM.out _).mono ?_; rintro e w3 ⟨rfl, rfl⟩))
    have K := blk2 BR.out (.slice A L.length c) (.int .i64 nx)
    have g0 := K.cell 0
    have g1 := K.cell 1
    refine bodyPost_ret (v := .tuple #[.agg #[.slice A L.length c, .int .i64 nx], .int .i64 0, .int .i64 16]) (by simp [results, Try.results30, go_sem, g0, g1]) rfl ?_
    exact ⟨_, rfl, own2 HO.out BR.out (by decide) _ _, below2 M.out (Nat.le_succ _) _ _⟩
  | true =>
    rw [if_neg (by simp)] at IS
    by_cases q1 : o < 1
    · rw [if_pos q1] at IS
      obtain rfl := IS.out
      go_enter Try.func30, Try.ntmps30
      go_wp2_with (first | rw [hw2] | (go_at_call 43; refine (NM.out _).mono ?_; rintro e w3 ⟨rfl, rfl⟩))
      have K := blk2 BR.out (.slice A L.length c) (.int .i64 nx)
      have g0 := K.cell 0
      have g1 := K.cell 1
      refine bodyPost_ret (v := .tuple #[.agg #[.slice A L.length c, .int .i64 nx], .int .i64 0, .int .i64 10]) (by simp [results, Try.results30, go_sem, g0, g1]) rfl ?_
      exact ⟨_, rfl, own2 HO.out BR.out (by decide) _ _, below2 M.out (Nat.le_succ _) _ _⟩
    rw [if_neg q1] at IS
    by_cases q2 : 4096 ≤ L.length
    · rw [if_pos q2] at IS
      obtain rfl := IS.out
      go_enter Try.func30, Try.ntmps30
      go_wp2_with (first | rw [hw2] | (go_at_call 43; refine (NM.out _).mono ?_; rintro e w3 ⟨rfl, rfl⟩))
      have K := blk2 BR.out (.slice A L.length c) (.int .i64 nx)
      have g0 := K.cell 0
      have g1 := K.cell 1
      refine bodyPost_ret (v := .tuple #[.agg #[.slice A L.length c, .int .i64 nx], .int .i64 0, .int .i64 12]) (by simp [results, Try.results30, go_sem, g0, g1]) rfl ?_
      exact ⟨_, rfl, own2 HO.out BR.out (by decide) _ _, below2 M.out (Nat.le_succ _) _ _⟩
    rw [if_neg q2] at IS
    obtain rfl := IS.out
    clear IS
    go_enter Try.func30, Try.ntmps30
    go_wp2_with (first | rw [hw2] | (go_at_call 43; refine (NM.out _).mono ?_; rintro e w3 ⟨rfl, rfl⟩))
    clear b0 b1 r0 r1 f0 f1 NM
    go_loopw [9, 10] (fun o i wr => ∃ (k : Nat) (W : World), W = wr ∧ k ≤ L.length ∧ i = .int .i64 k ∧ Own E6 wr w2.heap.size 43 o (L.take k) ∧ Below w2.heap.size w2 wr) (fun _ i _ => L.length - (intOf i).toNat)
    case atStart => exact ⟨0, _, rfl, by omega, rfl, Own.nil _ _ _, Below.refl _ _⟩
    case round =>
      obtain ⟨k, w5, rfl, hk, rfl, hown, hb5⟩ := hrel
      have O5 := Lib.hid hown
      have B5 := Lib.hid hb5
      have b0 := (BX.out.below hb5 BX.out.lt).cell 0
      have b1 := (BX.out.below hb5 BX.out.lt).cell 1
      by_cases hkl : k < L.length
      · obtain ⟨bb, off, rfl, e0, e1, e2, e3, e4, e5⟩ := lay6 (LAY.out _ _ (HO.out.below hb5)) hkl
        have TK := Lib.hid (List.take_succ_eq_append_getElem hkl)
        clear hown hb5
        generalize L[k] = d at *
        obtain ⟨d0, d1, d2, d3, d4, d5⟩ := d
        dsimp only at e0 e1 e2 e3 e4 e5
        have O6 := Lib.hid (O5.out.below (made w5 (.cells #[.int .i64 d0, .string d1, .int .i64 d2, .int .i64 d3, .int .i64 d4, .int .i64 d5] 43)))
        have LY := Lib.hid (Lay.lit (E := E6) (w5.alloc (.cells #[.int .i64 d0, .string d1, .int .i64 d2, .int .i64 d3, .int .i64 d4, .int .i64 d5] 43)) ⟨d0, d1, d2, d3, d4, d5⟩ 43 w5.heap.size (Blk.new _ _ _))
        have B6 := Lib.hid (up B5.out (made w5 (.cells #[.int .i64 d0, .string d1, .int .i64 d2, .int .i64 d3, .int .i64 d4, .int .i64 d5] 43)) B5.out.size)
        have HT := Lib.hid (show (L.take k).length + 1 ≤ 100000000 by rw [List.length_take]; omega)
        go_wp2_with ((with_reducible show wpList _ _ _ (⟨some 37, _, _, _, _, _⟩ :: _) _ _); go_must (refine wp_app TR (c := 1) (n := 1) rfl _ _ rfl rfl rfl rfl rfl O6.out LY.out HT.out B6.out.size ?_))
        intro v7 w7 own7 gr7
        have B7 := Lib.hid (B6.out.trans (gr7.below O6.out B6.out.size))
        rw [← TK.out] at own7
        have O7 := Lib.hid own7
        obtain ⟨A2, c2, rfl, -⟩ := own7.open_
        clear own7 gr7 O6 LY B6 e0 e1 e2 e3 e4 e5 b0 b1 HT
        go_wp2_with fail
        refine ⟨⟨k + 1, _, rfl, by omega, by go_num, O7.out, B7.out⟩, by simp [intOf]; omega⟩
      · obtain rfl : k = L.length := by omega
        rw [List.take_length] at O5
        have br5 := BR.out.below hb5 BR.out.lt
        have bx5 := BX.out.below hb5 BX.out.lt
        have BR5 := Lib.hid br5
        have BX5 := Lib.hid bx5
        obtain ⟨Av, cv, rfl, -⟩ := O5.out.open_
        clear hown hb5 b0 b1
        have b0 := bx5.cell 0
        have b1 := bx5.cell 1
        clear br5 bx5
        have O6 := Lib.hid (O5.out.below (made w5 (.cells #[.int .i64 nx, .string n, .int .i64 o, .int .i64 1, .int .i64 o, .int .i64 0] 43)))
        have LY := Lib.hid (Lay.lit (E := E6) (w5.alloc (.cells #[.int .i64 nx, .string n, .int .i64 o, .int .i64 1, .int .i64 o, .int .i64 0] 43)) ⟨nx, n, o, 1, o, 0⟩ 43 w5.heap.size (Blk.new _ _ _))
        have B6 := Lib.hid (up B5.out (made w5 (.cells #[.int .i64 nx, .string n, .int .i64 o, .int .i64 1, .int .i64 o, .int .i64 0] 43)) B5.out.size)
        have HT := Lib.hid (show (L).length + 1 ≤ 100000000 by omega)
        go_wp2_with ((with_reducible show wpList _ _ _ (⟨some 47, _, _, _, _, _⟩ :: _) _ _); go_must (refine wp_app TR (c := 1) (n := 1) rfl _ _ rfl rfl rfl rfl rfl O6.out LY.out HT.out B6.out.size ?_))
        intro v7 w7 own7 gr7
        have B7 := Lib.hid (B6.out.trans (gr7.below O6.out B6.out.size))
        have O7 := Lib.hid own7
        obtain ⟨A2, c2, rfl, -⟩ := own7.open_
        have BX7 := Lib.hid (BX.out.below B7.out BX.out.lt)
        have BR7 := Lib.hid (BR.out.below B7.out BR.out.lt)
        have B0 := Lib.hid (up M.out B7.out M.out.size)
        clear own7 gr7 O6 LY B6 b0 b1 HT BR5 BX5
        have b0 := BX7.out.cell 0
        have b1 := BX7.out.cell 1
        have r0 := BR7.out.cell 0
        have r1 := BR7.out.cell 1
        have f0 := BR7.out.free 0
        have f1 := BR7.out.free 1
        have hx1 : IntKind.i64.wrap (nx + 1) = nx + 1 := IntWalk.i64_in _ (by omega)
        have O7' : Hid (Own E6 w7 w2.heap.size 43 (.slice A2 (L.length + 1) c2) (L ++ [⟨nx, n, o, 1, o, 0⟩])) := Lib.hid (by
          have := O7.out
          rw [show (L ++ [(⟨nx, n, o, 1, o, 0⟩ : Th)]).length = L.length + 1 by simp] at this
          exact this)
        go_wp2_with fail
        refine wp_region_held_drew (S := (fun ws => ws.cell? ⟨w.heap.size, 1, none⟩ = some (.int .i64 nx))) (by kernel_rfl) b1 (fun hHeld => ?_)
        refine wpAnyH_take (i := 0) (v := ?_) rfl (by kernel_rfl) (by kernel_rfl) (by kernel_rfl) (fun _ _ _ h => h) (Or.inl ⟨by rfl, ?_⟩) (by assumption) ?_
        rotate_left
        · (intro w hSw; (try dsimp only at hSw); first | (go_simp; done) | (go_simp; with_reducible rfl))
        simp only [Act.put, List.getElem_toArray, List.getElem_cons_zero, List.getElem_cons_succ, List.setIfInBounds_toArray, List.set_cons_zero, List.set_cons_succ]
        refine wpAnyH_take (i := 1) (v := ?_) rfl (by kernel_rfl) (by kernel_rfl) (by kernel_rfl) (fun _ _ _ h => h) (Or.inl ⟨by rfl, ?_⟩) (by assumption) ?_
        rotate_left
        · (intro w hSw; (try dsimp only at hSw); first | (go_simp; done) | (go_simp; with_reducible rfl))
        simp only [Act.put, List.getElem_toArray, List.getElem_cons_zero, List.getElem_cons_succ, List.setIfInBounds_toArray, List.set_cons_zero, List.set_cons_succ]
        refine wpAnyH_take (i := 2) (v := ?_) rfl (by kernel_rfl) (by kernel_rfl) (by kernel_rfl) (fun _ _ _ h => h) (Or.inl ⟨by rfl, ?_⟩) (by assumption) ?_
        rotate_left
        · (intro w hSw; (try dsimp only at hSw); first | (go_simp; done) | (go_simp; with_reducible rfl))
        simp only [Act.put, List.getElem_toArray, List.getElem_cons_zero, List.getElem_cons_succ, List.setIfInBounds_toArray, List.set_cons_zero, List.set_cons_succ]
        refine wpAnyH_take (i := 3) (v := ?_) rfl (by kernel_rfl) (by kernel_rfl) (by kernel_rfl) (fun _ _ _ h => h) (Or.inl ⟨by rfl, ?_⟩) (by assumption) ?_
        rotate_left
        · (intro w hSw; (try dsimp only at hSw); first | (go_simp; done) | (go_simp; with_reducible rfl))
        simp only [Act.put, List.getElem_toArray, List.getElem_cons_zero, List.getElem_cons_succ, List.setIfInBounds_toArray, List.set_cons_zero, List.set_cons_succ]
        refine wpAnyH_take (i := 4) (v := ?_) rfl (by kernel_rfl) (by kernel_rfl) (by kernel_rfl) (fun _ _ _ h => h) (Or.inl ⟨by rfl, ?_⟩) (by assumption) ?_
        rotate_left
        · (intro w hSw; (try dsimp only at hSw); first | (go_simp; done) | (go_simp; with_reducible rfl))
        simp only [Act.put, List.getElem_toArray, List.getElem_cons_zero, List.getElem_cons_succ, List.setIfInBounds_toArray, List.set_cons_zero, List.set_cons_succ]
        refine wpAnyH_take (i := 5) (v := ?_) rfl (by kernel_rfl) (by kernel_rfl) (by kernel_rfl) (fun _ _ _ h => h) (Or.inl ⟨by rfl, ?_⟩) (by assumption) ?_
        rotate_left
        · (intro w hSw; (try dsimp only at hSw); first | (go_simp; done) | (go_simp; with_reducible rfl))
        simp only [Act.put, List.getElem_toArray, List.getElem_cons_zero, List.getElem_cons_succ, List.setIfInBounds_toArray, List.set_cons_zero, List.set_cons_succ]
        refine wpAnyH_take (i := 6) (v := ?_) rfl (by kernel_rfl) (by kernel_rfl) (by kernel_rfl) (fun _ _ _ h => h) (Or.inl ⟨by rfl, ?_⟩) (by assumption) ?_
        rotate_left
        · (intro w hSw; (try dsimp only at hSw); first | (go_simp; done) | (go_simp; with_reducible rfl))
        simp only [Act.put, List.getElem_toArray, List.getElem_cons_zero, List.getElem_cons_succ, List.setIfInBounds_toArray, List.set_cons_zero, List.set_cons_succ]
        have S7 := Lib.hid ((BX7.out.far (p := ⟨w.heap.size + 1, 0, none⟩) (show w.heap.size ≠ w.heap.size + 1 by omega) (.slice A2 (L.length + 1) c2)).far (p := ⟨w.heap.size + 1, 1, none⟩) (show w.heap.size ≠ w.heap.size + 1 by omega) (.int .i64 (nx + 1)))
        refine wpAnyH_ready (rs := [7]) (by kernel_rfl) (by simp) ?_
        refine AllReadyH.cons rfl (fun K hK => ?_) AllReadyH.nil
        go_simp
        refine hK.out _ _ (S7.out.cell 1) (fun hH1 => ?_)
        clear hK K hHeld
        refine wpAnyH_take (i := 8) (v := ?_) rfl (by kernel_rfl) (by kernel_rfl) (by kernel_rfl) (fun _ _ _ h => h) (Or.inl ⟨by rfl, ?_⟩) (by assumption) ?_
        rotate_left
        · (intro w hSw; (try dsimp only at hSw); first | (go_simp; done) | (go_simp; with_reducible rfl))
        simp only [Act.put, List.getElem_toArray, List.getElem_cons_zero, List.getElem_cons_succ, List.setIfInBounds_toArray, List.set_cons_zero, List.set_cons_succ]
        refine wpAnyH_take (i := 9) (v := ?_) rfl (by kernel_rfl) (by kernel_rfl) (by kernel_rfl) (fun _ _ _ h => h) (Or.inl ⟨by rfl, ?_⟩) (by assumption) ?_
        rotate_left
        · (intro w hSw; (try dsimp only at hSw); first | (go_simp; done) | (go_simp; with_reducible rfl))
        simp only [Act.put, List.getElem_toArray, List.getElem_cons_zero, List.getElem_cons_succ, List.setIfInBounds_toArray, List.set_cons_zero, List.set_cons_succ]
        refine wpAnyH_done (by kernel_rfl) ?_ _
        clear hH1
        have K : Blk ((w7.setCell ⟨w.heap.size + 1, 0, none⟩ (.slice A2 (L.length + 1) c2)).setCell ⟨w.heap.size + 1, 1, none⟩ (.int .i64 (nx + 1))).drew (w.heap.size + 1) 29 #[.slice A2 (L.length + 1) c2, .int .i64 (nx + 1)] := (blk2 BR7.out (.slice A2 (L.length + 1) c2) (.int .i64 (nx + 1))).drewN 1
        have P7 : Hid (Own E6 ((w7.setCell ⟨w.heap.size + 1, 0, none⟩ (.slice A2 (L.length + 1) c2)).setCell ⟨w.heap.size + 1, 1, none⟩ (.int .i64 (nx + 1))).drew w2.heap.size 43 (.slice A2 (L.length + 1) c2) (L ++ [⟨nx, n, o, 1, o, 0⟩])) := Lib.hid (own2 O7'.out BR7.out (by decide) (.slice A2 (L.length + 1) c2) (.int .i64 (nx + 1)))
        have Q7 := Lib.hid ((below2 B0.out (Nat.le_succ _) (.slice A2 (L.length + 1) c2) (.int .i64 (nx + 1))).drew)
        clear S7
        generalize ((w7.setCell ⟨w.heap.size + 1, 0, none⟩ (.slice A2 (L.length + 1) c2)).setCell ⟨w.heap.size + 1, 1, none⟩ (.int .i64 (nx + 1))).drew = w8 at *
        have g0 := K.cell 0
        have g1 := K.cell 1
        have HBB := Lib.hid (show B ≤ w2.heap.size from Nat.le_trans HB.out M.out.size)
        clear b0 b1 r0 r1 f0 f1
        go_wp2_with fail
        refine bodyPost_ret (v := .tuple #[.agg #[.slice A2 (L.length + 1) c2, .int .i64 (nx + 1)], .int .i64 nx, .int .i64 0]) (by simp [results, Try.results30, go_sem, g0, g1]) rfl ?_
        exact ⟨_, rfl, (P7.out.mono HBB.out), Q7.out⟩
set_option maxRecDepth 100000 in
set_option maxHeartbeats 4000000 in
theorem rdestroy_any (A : Option Addr) (c : Nat) (L : List Th) (nx n : Int) (B : Nat) (w : World) (ho : Own E6 w B 43 (.slice A L.length c) L) (hl : L.length ≤ 100000) (hB : B ≤ w.heap.size) :
    Calls Try.prog 32 #[.agg #[.slice A L.length c, .int .i64 nx], .int .i64 n] w (ROP B (destroy (L, nx) n) w) := by
  have IS := Lib.hid (show destroy (L, nx) n = match fi (isId n) L with | none => ((L, nx), 14) | some i => ((L.eraseIdx i, nx), 0) from rfl)
  generalize destroy (L, nx) n = r at *
  have OF := Lib.hid (fun ws (h : Lay E6 ws A L) => rfind_any A c L nx n ws h hl)
  have FL := Lib.hid (fun i (h : fi (isId n) L = some i) => fi_lt h)
  have hm1 : Below w.heap.size w (w.alloc (.cells #[.slice A L.length c, .int .i64 nx] 29)) := made w _
  have hm2 : Below w.heap.size w ((w.alloc (.cells #[.slice A L.length c, .int .i64 nx] 29)).alloc (.cells #[.slice none 0 0, .int .i64 0] 29)) := hm1.alloc (by rw [asz]; omega) _
  have bx : Blk ((w.alloc (.cells #[.slice A L.length c, .int .i64 nx] 29)).alloc (.cells #[.slice none 0 0, .int .i64 0] 29)) w.heap.size 29 #[.slice A L.length c, .int .i64 nx] := (Blk.new _ _ _).alloc _
  have br : Blk ((w.alloc (.cells #[.slice A L.length c, .int .i64 nx] 29)).alloc (.cells #[.slice none 0 0, .int .i64 0] 29)) (w.heap.size + 1) 29 #[.slice none 0 0, .int .i64 0] := by
    have := Blk.new (w.alloc (.cells #[.slice A L.length c, .int .i64 nx] 29)) 29 #[.slice none 0 0, .int .i64 0]
    rw [asz] at this
    exact this
  have hs2 : ((w.alloc (.cells #[.slice A L.length c, .int .i64 nx] 29)).alloc (.cells #[.slice none 0 0, .int .i64 0] 29)).heap.size = w.heap.size + 2 := by rw [asz, asz]
  have BX := Lib.hid bx
  have BR := Lib.hid br
  have M := Lib.hid hm2
  have Z2 := Lib.hid hs2
  have HO := Lib.hid (ho.below hm2)
  have HB := Lib.hid hB
  have LAY := Lib.hid (fun ws B' (h : Own E6 ws B' 43 (.slice A L.length c) L) => own_lay h)
  have b0 := bx.cell 0
  have b1 := bx.cell 1
  have r0 := br.cell 0
  have r1 := br.cell 1
  have f0 := br.free 0
  have f1 := br.free 1
  clear ho hB hm1 hm2 bx br hs2
  generalize hw2 : (w.alloc (.cells #[.slice A L.length c, .int .i64 nx] 29)).alloc (.cells #[.slice none 0 0, .int .i64 0] 29) = w2 at *
  generalize fi (isId n) L = o at *
  cases o with
  | none =>
    obtain rfl := IS.out
    dsimp only [ix] at OF
    go_enter Try.func32, Try.ntmps32
    go_wp2_with (rw [hw2])
    refine (OF.out _ (LAY.out _ _ HO.out)).mono ?_
    rintro e w3 ⟨rfl, hb3⟩
    have B3 := Lib.hid (up M.out hb3 M.out.size)
    have BX3 := Lib.hid (BX.out.below hb3 BX.out.lt)
    have BR3 := Lib.hid (BR.out.below hb3 BR.out.lt)
    have HO3 := Lib.hid (HO.out.below hb3)
    clear hb3 b0 b1 r0 r1 f0 f1
    have b0 := BX3.out.cell 0
    have b1 := BX3.out.cell 1
    have r0 := BR3.out.cell 0
    have r1 := BR3.out.cell 1
    have f0 := BR3.out.free 0
    have f1 := BR3.out.free 1
    go_wp2_with fail
    have K := blk2 BR3.out (.slice A L.length c) (.int .i64 nx)
    have g0 := K.cell 0
    have g1 := K.cell 1
    refine bodyPost_ret (v := .tuple #[.agg #[.slice A L.length c, .int .i64 nx], .int .i64 14]) (by simp [results, Try.results32, go_sem, g0, g1]) rfl ?_
    exact ⟨_, rfl, own2 HO3.out BR3.out (by decide) _ _, below2 B3.out (Nat.le_succ _) _ _⟩
  | some i =>
    obtain rfl := IS.out
    dsimp only [ix] at OF
    have hil := FL.out i rfl
    go_enter Try.func32, Try.ntmps32
    go_wp2_with (rw [hw2])
    refine (OF.out _ (LAY.out _ _ HO.out)).mono ?_
    rintro e w3 ⟨rfl, hb3⟩
    have B3 := Lib.hid (up M.out hb3 M.out.size)
    have BX3 := Lib.hid (BX.out.below hb3 BX.out.lt)
    have BR3 := Lib.hid (BR.out.below hb3 BR.out.lt)
    have HO3 := Lib.hid (HO.out.below hb3)
    clear hb3 b0 b1 r0 r1 f0 f1
    have b0 := BX3.out.cell 0
    have b1 := BX3.out.cell 1
    have r0 := BR3.out.cell 0
    have r1 := BR3.out.cell 1
    have f0 := BR3.out.free 0
    have f1 := BR3.out.free 1
    go_wp2_with fail
    clear b0 b1 r0 r1 f0 f1 OF
    go_loopw [7, 8] (fun o j wr => ∃ (k : Nat) (W : World), W = wr ∧ k ≤ L.length ∧ j = .int .i64 k ∧ Own E6 wr w3.heap.size 43 o ((L.take k).eraseIdx i) ∧ Below w3.heap.size w3 wr) (fun _ j _ => L.length - (intOf j).toNat)
    case atStart => exact ⟨0, _, rfl, by omega, rfl, Own.nil _ _ _, Below.refl _ _⟩
    case round =>
      obtain ⟨k, w5, rfl, hk, rfl, hown, hb5⟩ := hrel
      have O5 := Lib.hid hown
      have B5 := Lib.hid hb5
      have b0 := (BX3.out.below hb5 BX3.out.lt).cell 0
      have b1 := (BX3.out.below hb5 BX3.out.lt).cell 1
      by_cases hkl : k < L.length
      · have TK := Lib.hid (erase_snoc L i hkl)
        by_cases hki : k = i
        · have q : ((k : Int) != (i : Int)) = false := by simp; omega
          rw [if_pos hki] at TK
          clear hown hb5 hki
          go_wp2_with fail
          refine ⟨⟨k + 1, _, rfl, by omega, by go_num, by rw [TK.out]; exact O5.out, B5.out⟩, by simp [intOf]; omega⟩
        · have q : ((k : Int) != (i : Int)) = true := by simp; omega
          rw [if_neg hki] at TK
          obtain ⟨bb, off, rfl, e0, e1, e2, e3, e4, e5⟩ := lay6 (LAY.out _ _ (HO3.out.below hb5)) hkl
          clear hown hb5 hki
          generalize L[k] = d at *
          obtain ⟨d0, d1, d2, d3, d4, d5⟩ := d
          dsimp only at e0 e1 e2 e3 e4 e5
          have O6 := Lib.hid (O5.out.below (made w5 (.cells #[.int .i64 d0, .string d1, .int .i64 d2, .int .i64 d3, .int .i64 d4, .int .i64 d5] 43)))
          have LY := Lib.hid (Lay.lit (E := E6) (w5.alloc (.cells #[.int .i64 d0, .string d1, .int .i64 d2, .int .i64 d3, .int .i64 d4, .int .i64 d5] 43)) ⟨d0, d1, d2, d3, d4, d5⟩ 43 w5.heap.size (Blk.new _ _ _))
          have B6 := Lib.hid (up B5.out (made w5 (.cells #[.int .i64 d0, .string d1, .int .i64 d2, .int .i64 d3, .int .i64 d4, .int .i64 d5] 43)) B5.out.size)
          have HT := Lib.hid (show ((L.take k).eraseIdx i).length + 1 ≤ 100000000 by have := List.length_eraseIdx_le (L.take k) i; rw [List.length_take] at this; omega)
          go_wp2_with ((with_reducible show wpList _ _ _ (⟨some 32, _, _, _, _, _⟩ :: _) _ _); go_must (refine wp_app TR (c := 1) (n := 1) rfl _ _ rfl rfl rfl rfl rfl O6.out LY.out HT.out B6.out.size ?_))
          intro v7 w7 own7 gr7
          have B7 := Lib.hid (B6.out.trans (gr7.below O6.out B6.out.size))
          rw [← TK.out] at own7
          have O7 := Lib.hid own7
          obtain ⟨A2, c2, rfl, -⟩ := own7.open_
          clear own7 gr7 O6 LY B6 e0 e1 e2 e3 e4 e5 b0 b1 HT
          go_wp2_with fail
          refine ⟨⟨k + 1, _, rfl, by omega, by go_num, O7.out, B7.out⟩, by simp [intOf]; omega⟩
      · obtain rfl : k = L.length := by omega
        rw [List.take_length] at O5
        have br5 := BR3.out.below hb5 BR3.out.lt
        have bx5 := BX3.out.below hb5 BX3.out.lt
        have B0 := Lib.hid (up B3.out hb5 B3.out.size)
        have BR5 := Lib.hid br5
        obtain ⟨Av, cv, rfl, -⟩ := O5.out.open_
        clear hown hb5 b0 b1
        have b0 := bx5.cell 0
        have b1 := bx5.cell 1
        have r0 := br5.cell 0
        have r1 := br5.cell 1
        have f0 := br5.free 0
        have f1 := br5.free 1
        clear br5 bx5
        go_wp2_with fail
        have K := blk2 BR5.out (.slice Av (L.eraseIdx i).length cv) (.int .i64 nx)
        have g0 := K.cell 0
        have g1 := K.cell 1
        have HBB := Lib.hid (show B ≤ w3.heap.size from Nat.le_trans HB.out B3.out.size)
        refine bodyPost_ret (v := .tuple #[.agg #[.slice Av (L.eraseIdx i).length cv, .int .i64 nx], .int .i64 0]) (by simp [results, Try.results32, go_sem, g0, g1]) rfl ?_
        exact ⟨_, rfl, (own2 O5.out BR5.out (by decide) _ _).mono HBB.out, below2 B0.out (Nat.le_succ _) _ _⟩
end Go.Proofs.Ytckdfdnhoionnaa.tg
