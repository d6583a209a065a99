/-
  PoolRuns: the function that tells the rows of free numbers.
-/
import Derived.Test.YteecebklomeklaaDoorPoolM
import Derived.Test.YteecebklomeklaaDoorPoolJ
import Derived.Test.YteecebklomeklaaDoorStillIn
import Derived.Test.YteecebklomeklaaDoorRangeQ
namespace Go.Proofs.YteecebklomeklaaDoor.po
open Go.RowKit Go.Shelf
open base (ret_bool ret_int made up Blk Only Nums)
open pnum rgm
set_option linter.unusedVariables false
set_option linter.unusedSimpArgs false
attribute [local go_sem] Oper.semAt_some

/-- the row that is under way, behind L free numbers; all ahead of a has been told -/
def St (x : List Bool) (L first n a : Nat) : Prop :=
  (L = 0 ∧ n = 0 ∧ first = 0 ∧ a = 0) ∨
  (0 < n ∧ first + n = atF x L ∧ a ≤ first ∧ (∀ k, a ≤ k → k < first → x.getD k false = false) ∧ ∀ k, first ≤ k → k < first + n → x.getD k false = true)
/-- a row as it is told -/
structure Row (x : List Bool) (a first n : Nat) : Prop where
  le : a ≤ first
  pos : 0 < n
  in_ : first + n ≤ x.length
  no : ∀ k, a ≤ k → k < first → x.getD k false = false
  yes : ∀ k, first ≤ k → k < first + n → x.getD k false = true
  end_ : x.getD (first + n) false = false
section
variable {x : List Bool} {L first n a : Nat}
theorem St.len (h : St x L first n a) (hL : L ≤ (fr x).length) : first + n ≤ x.length := by
  rcases h with ⟨-, rfl, rfl, -⟩ | ⟨-, e, -⟩
  · omega
  · rw [e]; exact atF_small hL
theorem St.on (h : St x L first n a) (hL : L < (fr x).length) (hn : 0 < n) (he : (fr x).getD L 0 = first + n) : St x (L + 1) first (n + 1) a := by
  rcases h with ⟨-, rfl, -, -⟩ | ⟨h1, h2, h3, h4, h5⟩
  · omega
  · refine .inr ⟨by omega, by show first + (n + 1) = (fr x).getD L 0 + 1; omega, h3, h4, fun k k1 k2 => ?_⟩
    rcases Nat.lt_or_ge k (first + n) with q | q
    · exact h5 k k1 q
    · obtain rfl : k = first + n := by omega
      rw [← he]; exact fr_mem hL
theorem St.row (h : St x L first n a) (hL : L < (fr x).length) (hn : 0 < n) (he : (fr x).getD L 0 ≠ first + n) : Row x a first n := by
  rcases h with ⟨-, rfl, -, -⟩ | ⟨h1, h2, h3, h4, h5⟩
  · omega
  · have hx := fr_next hL
    rw [← h2] at hx
    obtain ⟨q1, q2, q3, q4⟩ := hx
    exact ⟨h3, h1, by omega, h4, h5, q4 _ (Nat.le_refl _) (by omega)⟩
theorem St.last (h : St x L first n a) (hL : L = (fr x).length) (hn : 0 < n) : Row x a first n ∧ NextIs x (first + n) none := by
  have hl := h.len (Nat.le_of_eq hL)
  rcases h with ⟨-, rfl, -, -⟩ | ⟨h1, h2, h3, h4, h5⟩
  · omega
  · have hx := fr_end x
    rw [← hL, ← h2] at hx
    exact ⟨⟨h3, h1, hl, h4, h5, hx _ (Nat.le_refl _)⟩, hx⟩
theorem St.none_ (h : St x L first n a) (hL : L = (fr x).length) (hn : n = 0) : NextIs x a none := by
  rcases h with ⟨h1, h2, h3, rfl⟩ | ⟨h1, -⟩
  · have hx := fr_end x
    rw [← hL, h1] at hx
    exact hx
  · omega
/-- the next one begins a row -/
theorem St.new (h : St x L first n a) (hL : L < (fr x).length) {b : Nat} (hb : b = if 0 < n then first + n else a) : St x (L + 1) ((fr x).getD L 0) 1 b := by
  obtain ⟨q1, q2, q3, q4⟩ := fr_next hL
  refine .inr ⟨by omega, rfl, ?_, ?_, fun k k1 k2 => by obtain rfl : k = (fr x).getD L 0 := by omega
                                                        exact q3⟩
  · rcases h with ⟨rfl, rfl, rfl, rfl⟩ | ⟨h1, h2, -⟩
    · simp at hb; omega
    · rw [if_pos h1] at hb; omega
  · intro k k1 k2
    refine q4 k ?_ k2
    rcases h with ⟨rfl, rfl, rfl, rfl⟩ | ⟨h1, h2, -⟩
    · exact Nat.zero_le _
    · rw [if_pos h1] at hb; omega
end
set_option maxRecDepth 100000 in
set_option maxHeartbeats 2000000 in
/-- all free numbers, rising, to a loop that goes on -/
theorem all_it (n : Nat) (hn : 1 ≤ n) (x : List Bool) (l Bn g gw : Nat) (Wd : List Nat) (c : Nat) (W1 : World) (J : Nat → World → Prop)
    (hJ : ∀ k W, J k W → Blk W Bn 24 #[.pointer (some ⟨g, 0, none⟩)] ∧ PAt W g gw Wd c x ∧ Tab W)
    (hJn : ∀ k W W', J k W → Nix W W' → J k W') (h0 : J 0 W1)
    (hY : ∀ k W, k < (fr x).length → J k W → YieldAt Fence.wide (n - 1) Tryd.prog l #[.int .i64 ((fr x).getD k 0 : Nat)] W fun e W' => e = .returned (.bool true) ∧ J (k + 1) W') :
    CallsIn Fence.wide n Tryd.prog 31 #[.func (.yield l) #[] #[], .pointer (some ⟨Bn, 0, none⟩)] W1 fun e W' => (∃ v, e = .returned v) ∧ J (fr x).length W' := by
  obtain ⟨hb0, hp0, ht0⟩ := hJ _ _ h0
  have c0 := hb0.cell 0
  have XS := Lib.hid hp0.small
  have NX := Lib.hid (fun (ws : World) (k : Nat) (hk : k ≤ (fr x).length) (h : J k ws) => next_fr (hJ _ _ h).2.2 (hJ _ _ h).2.1 hk)
  have N0 := Lib.hid (NX.out W1 0 (Nat.zero_le _) h0)
  rw [show ((atF x 0 : Nat) : Int) = 0 from rfl] at N0
  have HY := Lib.hid hY
  have HJ := Lib.hid hJ
  have HN := Lib.hid hJn
  have H0 := Lib.hid h0
  clear hY hJ hJn h0 hb0 hp0 ht0
  refine callsIn_of_wp Tryd.func31 rfl trivial ?_ rfl
  simp only [Tryd.ntmps31, List.size_toArray, List.length_cons, List.length_nil, Nat.reduceAdd, Nat.reduceSub, Array.replicate_succ, Array.replicate_zero, List.push_toArray, List.append_toArray, List.nil_append, List.cons_append]
  generalize hi0 : nI (fr x)[0]? = i0 at *
  generalize hb0 : ((fr x)[0]?).isSome = b0 at *
  have I0 := Lib.hid hi0
  have E0 := Lib.hid hb0
  clear hi0 hb0
  gi_wp2_with (refine ⟨trivial, ?_⟩; gi_at_call 14; refine (callsIn_wide.2 N0.out).mono ?_; rintro e w1 ⟨rfl, hb1⟩)
  have J1 := Lib.hid (HN.out _ _ _ H0.out hb1)
  clear hb1 c0 N0
  gi_loopw [3, 4] (fun i o wr => ∃ (k : Nat) (W' : World), W' = wr ∧ k ≤ (fr x).length ∧ i = .int .i64 (nI (fr x)[k]?) ∧ o = .bool ((fr x)[k]?).isSome ∧ J k wr) (fun i o _ => bN o * (x.length + 1 - (intOf i).toNat))
  case atStart => exact ⟨0, _, rfl, by omega, by rw [I0.out], by rw [E0.out], J1.out⟩
  case round =>
  obtain ⟨k, w2, rfl, hk, rfl, rfl, hj⟩ := hrel
  have J2 := Lib.hid hj
  clear hj J1
  by_cases hkl : k < (fr x).length
  · have hvx := lt_of_free (fr_mem hkl)
    have AT := Lib.hid (show atF x (k + 1) = (fr x).getD k 0 + 1 from rfl)
    have UP := Lib.hid (show ∀ u, (fr x)[k + 1]? = some u → (fr x).getD k 0 < u from fun u hu => by
      have hl := (List.getElem?_eq_some_iff.1 hu).1
      have := fr_lt (Nat.lt_succ_self k) hl
      rw [fr_some hl] at hu
      injection hu with hu
      subst hu
      exact this)
    have R := Lib.hid (HY.out k w2 hkl J2.out)
    rw [fr_some hkl, show nI (some ((fr x).getD k 0)) = (((fr x).getD k 0 : Nat) : Int) from rfl, Option.isSome_some]
    generalize (fr x).getD k 0 = v at *
    have hs := XS.out
    obtain ⟨fn, tmps, assign, body, hy, hR⟩ := R.out
    have XV := Lib.hid hvx
    clear R
    gi_wp2
    refine hR.mono ?_
    rintro e w3 ⟨rfl, hj3⟩
    have J3 := Lib.hid hj3
    have N3 := Lib.hid (NX.out w3 (k + 1) (by omega) hj3)
    rw [AT.out, show ((v + 1 : Nat) : Int) = (v : Int) + 1 by omega] at N3
    have c0 := (HJ.out _ _ hj3).1.cell 0
    clear hj3
    obtain ⟨o', ho'⟩ : ∃ o', o' = (fr x)[k + 1]? := ⟨_, rfl⟩
    rw [← ho'] at N3 UP
    have O3 := Lib.hid ho'
    clear ho'
    generalize hi3 : nI o' = i3 at *
    generalize hb3 : o'.isSome = b3 at *
    have I3 := Lib.hid hi3
    have E3 := Lib.hid hb3
    clear hi3 hb3
    gi_wp2_with (refine ⟨trivial, ?_⟩; gi_at_call 14; refine (callsIn_wide.2 N3.out).mono ?_; rintro e w4 ⟨rfl, hb4⟩)
    have J4 := Lib.hid (HN.out _ _ _ J3.out hb4)
    clear hb4 c0
    go_roundw
    case rel => exact ⟨k + 1, _, rfl, by omega, by rw [← O3.out, I3.out], by rw [← O3.out, E3.out], J4.out⟩
    case measure =>
      have hI := I3.out
      have hE := E3.out
      have hU := UP.out
      have hV := XV.out
      cases o' with
      | none =>
        obtain rfl : b3 = false := by rw [← hE]; rfl
        simp [bN, intOf, nI]
        omega
      | some u =>
        obtain rfl : b3 = true := by rw [← hE]; rfl
        have := hU u rfl
        simp [nI] at hI
        subst hI
        simp [bN, intOf, nI]
        omega
  · obtain rfl : k = (fr x).length := by omega
    rw [List.getElem?_eq_none (Nat.le_refl _)]
    gi_wp2
    go_end0
    exact ⟨⟨_, rfl⟩, J2.out⟩
/-- the boxes of Runs$1, from block B on, and the pool; the loop's own blocks are D and D + 1 -/
structure Hold (B D g gw l : Nat) (Wd : List Nat) (c : Nat) (x : List Bool) (first n : Nat) (W : World) : Prop where
  yb : Blk W B 67 #[.func (.yield l) #[] #[]]
  fb : Blk W (B + 1) 3 #[.int .i64 first]
  nb : Blk W (B + 2) 3 #[.int .i64 n]
  pb : Blk W (B + 3) 24 #[.pointer (some ⟨g, 0, none⟩)]
  pool : PAt W g gw Wd c x
  tab : Tab W
  big : D + 2 ≤ W.heap.size
  lo : g < B ∧ gw < B ∧ 0 < B ∧ B + 4 ≤ D
section
variable {B D g gw l : Nat} {Wd : List Nat} {c : Nat} {x : List Bool} {first n : Nat} {W W' : World}
theorem Hold.only {T : Nat → Prop} (h : Hold B D g gw l Wd c x first n W) (ho : Only T W W') (h1 : ¬ T g ∧ ¬ T gw ∧ ¬ T 0) (h2 : ∀ k, B ≤ k → k < B + 4 → ¬ T k) : Hold B D g gw l Wd c x first n W' := by
  obtain ⟨cs, hr, hc⟩ := h.pool.row
  have hlt := h.lo
  exact ⟨h.yb.only ho (h2 _ (by omega) (by omega)), h.fb.only ho (h2 _ (by omega) (by omega)), h.nb.only ho (h2 _ (by omega) (by omega)), h.pb.only ho (h2 _ (by omega) (by omega)), ⟨h.pool.blk.only ho h1.1, ⟨cs, hr.only ho h1.2.1, hc⟩, h.pool.bits, h.pool.le, h.pool.mx, h.pool.small, h.pool.pos⟩, h.tab.only ho h1.2.2, Nat.le_trans h.big ho.size, h.lo⟩
theorem Hold.putn (h : Hold B D g gw l Wd c x first n W) (m : Nat) : Hold B D g gw l Wd c x first m (W.setCell ⟨B + 2, 0, none⟩ (.int .i64 (m : Int))) := by
  have ho : Only (fun k => k = B + 2) W (W.setCell ⟨B + 2, 0, none⟩ (.int .i64 (m : Int))) := (Only.refl (fun k => k = B + 2) W).setCell (p := ⟨B + 2, 0, none⟩) (.inl rfl) _
  have hlt := h.lo
  obtain ⟨cs, hr, hc⟩ := h.pool.row
  exact ⟨h.yb.only ho (by omega), h.fb.only ho (by omega), h.nb.put 0 _, h.pb.only ho (by omega), ⟨h.pool.blk.only ho (by omega), ⟨cs, hr.only ho (by omega), hc⟩, h.pool.bits, h.pool.le, h.pool.mx, h.pool.small, h.pool.pos⟩, h.tab.only ho (by omega), Nat.le_trans h.big ho.size, h.lo⟩
theorem Hold.putf (h : Hold B D g gw l Wd c x first n W) (m : Nat) : Hold B D g gw l Wd c x m n (W.setCell ⟨B + 1, 0, none⟩ (.int .i64 (m : Int))) := by
  have ho : Only (fun k => k = B + 1) W (W.setCell ⟨B + 1, 0, none⟩ (.int .i64 (m : Int))) := (Only.refl (fun k => k = B + 1) W).setCell (p := ⟨B + 1, 0, none⟩) (.inl rfl) _
  have hlt := h.lo
  obtain ⟨cs, hr, hc⟩ := h.pool.row
  exact ⟨h.yb.only ho (by omega), h.fb.put 0 _, h.nb.only ho (by omega), h.pb.only ho (by omega), ⟨h.pool.blk.only ho (by omega), ⟨cs, hr.only ho (by omega), hc⟩, h.pool.bits, h.pool.le, h.pool.mx, h.pool.small, h.pool.pos⟩, h.tab.only ho (by omega), Nat.le_trans h.big ho.size, h.lo⟩
theorem only_n (h : Hold B D g gw l Wd c x first n W) (m : Int) : Only (fun k => B ≤ k ∧ k < B + 4) W (W.setCell ⟨B + 2, 0, none⟩ (.int .i64 m)) := (Only.refl _ W).setCell (.inl ⟨by show B ≤ B + 2; omega, by show B + 2 < B + 4; omega⟩) _
theorem only_fn (h : Hold B D g gw l Wd c x first n W) (a m : Int) : Only (fun k => B ≤ k ∧ k < B + 4) W ((W.setCell ⟨B + 1, 0, none⟩ (.int .i64 a)).setCell ⟨B + 2, 0, none⟩ (.int .i64 m)) := ((Only.refl _ W).setCell (.inl ⟨by show B ≤ B + 1; omega, by show B + 1 < B + 4; omega⟩) _).setCell (.inl ⟨by show B ≤ B + 2; omega, by show B + 2 < B + 4; omega⟩) _
end
/-- behind L free numbers -/
def Mid (B D g gw l : Nat) (Wd : List Nat) (c : Nat) (x : List Bool) (J : Nat → World → Prop) (L : Nat) (W : World) : Prop := ∃ first n a, Hold B D g gw l Wd c x first n W ∧ St x L first n a ∧ J a W
set_option maxRecDepth 100000 in
set_option maxHeartbeats 4000000 in
/-- all rows, rising, to a loop that goes on -/
theorem runs_it (N : Nat) (x : List Bool) (l br g gw : Nat) (Wd : List Nat) (c : Nat) (W1 : World)
    (hbr : Blk W1 br 24 #[.pointer (some ⟨g, 0, none⟩)]) (hP : PAt W1 g gw Wd c x) (hT : Tab W1)
    (J : Nat → World → Prop) (S : Nat → Prop) (hS : ∀ j, S j → j < W1.heap.size ∧ j ≠ g ∧ j ≠ gw ∧ j ≠ 0) (h0 : J 0 W1)
    (hJi : ∀ a W W', J a W → Only (fun k => W1.heap.size ≤ k) W W' → J a W')
    (hY : ∀ a first m W, J a W → Row x a first m → W1.heap.size ≤ W.heap.size → YieldAt Fence.wide 0 Tryd.prog l #[.int .i64 (first : Nat), .int .i64 (m : Nat)] W fun e W' => e = .returned (.bool true) ∧ J (first + m) W' ∧ Only S W W') :
    CallsIn Fence.wide N Tryd.prog 32 #[.func (.yield l) #[] #[], .pointer (some ⟨br, 0, none⟩)] W1 fun e W' => (∃ v, e = .returned v) ∧ ∃ a, J a W' ∧ NextIs x a none := by
  obtain ⟨B, hB⟩ : ∃ B, B = W1.heap.size := ⟨_, rfl⟩
  have LT := Lib.hid (show g < B ∧ gw < B ∧ 0 < B from by rw [hB]; exact ⟨hP.blk.lt, hP.row.choose_spec.1.lt, hT.1⟩)
  have JI := Lib.hid hJi
  have HS := Lib.hid hS
  have HY := Lib.hid hY
  obtain ⟨w2, hw2⟩ : ∃ w2, ((W1.alloc (.cells #[.func (.yield l) #[] #[]] 67)).alloc (.cells #[.int .i64 0] 3)).alloc (.cells #[.int .i64 0] 3) = w2 := ⟨_, rfl⟩
  have h2 : Below W1.heap.size W1 w2 := by
    rw [← hw2]
    exact ((made W1 _).alloc (by rw [asz]; omega) _).alloc (by rw [asz, asz]; omega) _
  have z2 : w2.heap.size = B + 3 := by rw [← hw2, asz, asz, asz, hB]
  have yb2 : Blk w2 B 67 #[.func (.yield l) #[] #[]] := by rw [← hw2, hB]; exact ((Blk.new _ _ _).alloc _).alloc _
  have fb2 : Blk w2 (B + 1) 3 #[.int .i64 0] := by
    have := (Blk.new (W1.alloc (.cells #[.func (.yield l) #[] #[]] 67)) 3 #[.int .i64 0]).alloc (.cells #[.int .i64 0] 3)
    rw [asz, ← hB, hw2] at this
    exact this
  have nb2 : Blk w2 (B + 2) 3 #[.int .i64 0] := by
    have := Blk.new ((W1.alloc (.cells #[.func (.yield l) #[] #[]] 67)).alloc (.cells #[.int .i64 0] 3)) 3 #[.int .i64 0]
    rw [asz, asz, ← hB, hw2] at this
    exact this
  have MK := Lib.hid (all_make g w2)
  rw [z2] at MK
  have J2 := Lib.hid (hJi _ _ _ h0 ((Only.refl _ W1).below h2 (fun i _ h => h)))
  have P2 := Lib.hid (hP.below h2)
  have T2 := Lib.hid (hT.below h2)
  have c0 := (hbr.below h2 hbr.lt).cell 0
  have Z2 := Lib.hid z2
  have Y2 := Lib.hid yb2
  have F2 := Lib.hid fb2
  have N2 := Lib.hid nb2
  have HB := Lib.hid hB
  clear hbr hP hT hS h0 hJi hY h2 z2 yb2 fb2 nb2 hB
  have HW2 := Lib.hid hw2
  clear hw2
  refine callsIn_of_wp_marks Tryd.func32 rfl trivial ?_ rfl
  simp only [Tryd.ntmps32, List.size_toArray, List.length_cons, List.length_nil, Nat.reduceAdd, Nat.reduceSub, Array.replicate_succ, Array.replicate_zero, List.push_toArray, List.append_toArray, List.nil_append, List.cons_append]
  refine wpIn_wide.2 (calm_wp ?_)
  go_upto_region 2 with fail
  have hw2 := HW2.out
  simp only [hw2]
  go_wp2_with fail
  refine MK.out.mono ?_
  rintro e w5 ⟨rfl, hbx, hb⟩
  rw [← Z2.out] at hb
  have P5 := Lib.hid (P2.out.below hb)
  have T5 := Lib.hid (T2.out.below hb)
  have Y5 := Lib.hid (Y2.out.below hb Y2.out.lt)
  have F5 := Lib.hid (F2.out.below hb F2.out.lt)
  have N5 := Lib.hid (N2.out.below hb N2.out.lt)
  have B5 := Lib.hid hbx
  have J5 := Lib.hid (JI.out _ _ _ J2.out ((Only.refl _ w2).below hb (fun i _ h => by have := Z2.out; have := HB.out; omega)))
  have ZD := Lib.hid (show B + 4 ≤ w5.heap.size from hbx.lt)
  clear hbx hb c0 MK P2 T2 Y2 F2 N2 J2 Z2 hw2 HW2
  go_wp2_with fail
  have hbw : W1.heap.size = B := HB.out.symm
  simp only [hbw, Nat.add_assoc, Nat.reduceAdd]
  clear hbw
  refine (wpIn_wide (n := 3)).1 ?_
  refine' wpIn_rangeFunc_free5 (α := Nat) rfl (by omega) (gf := 31) (lb := #[.pointer (some ⟨B + 3, 0, none⟩)]) rfl trivial (enters_of Tryd.func31 (by kernel_rfl) rfl)
    (encs := fun k => #[.int .i64 ((fr x).getD k 0 : Nat)]) (fun _ => rfl)
    (fun k W => k < (fr x).length ∧ Mid B w5.heap.size g gw l Wd c x J k W) (fun k _ W' => Mid B w5.heap.size g gw l Wd c x J (k + 1) W') (fun _ _ _ _ => False) (fun _ _ => False) (fun W => Mid B w5.heap.size g gw l Wd c x J (fr x).length W)
    _ ?iter ?assign ?body ?done ?stop
  case iter =>
    intro W2 Bk Bx0 hb2 hz2 hbk hlp hBk hBx hYY
    refine (all_it (3 - 1) (by omega) x (w5.heap.size + 1) (B + 3) g gw Wd c W2 (fun k W => Bk W ∧ Mid B w5.heap.size g gw l Wd c x J k W) ?_ ?_ ?_ ?_).mono ?_
    · rintro k W ⟨-, first, n, a, hh, -, -⟩
      exact ⟨hh.pb, hh.pool, hh.tab⟩
    · rintro k W W' ⟨hbk, first, n, a, hh, hst, hj⟩ hn
      exact ⟨hBk _ _ hbk (Kept.of_only hn (by have := hh.big; omega) id id), first, n, a, hh.only hn ⟨id, id, id⟩ (fun _ _ _ => id), hst, JI.out _ _ _ hj (Only.mono hn (fun _ _ q => q.elim))⟩
    · refine ⟨hbk, 0, 0, 0, ⟨Y5.out.below hb2 Y5.out.lt, F5.out.below hb2 F5.out.lt, N5.out.below hb2 N5.out.lt, B5.out.below hb2 B5.out.lt, P5.out.below hb2, T5.out.below hb2, by omega, LT.out.1, LT.out.2.1, LT.out.2.2, ZD.out⟩, .inl ⟨rfl, rfl, rfl, rfl⟩, JI.out _ _ _ J5.out ((Only.refl _ w5).below hb2 (fun i _ h => by have := ZD.out; have := HB.out; omega))⟩
    · rintro k W hk ⟨hbk, hm⟩
      refine (hYY k W hbk ⟨hk, hm⟩).mono ?_
      rintro e W' (⟨rfl, g1, g2⟩ | ⟨rfl, c', g1, g2⟩)
      · exact ⟨rfl, g1, g2⟩
      · exact g2.elim
    · rintro e W' ⟨g1, g2, g3⟩
      exact ⟨g1, .inl ⟨g2, g3⟩⟩
  case assign =>
    intro k W K hK
    simp only [List.zip_toArray, List.zip_cons_cons, List.zip_nil_right, List.foldl_toArray, List.foldl_cons, List.foldl_nil, List.setIfInBounds_toArray, List.set_cons_succ, List.set_cons_zero]
    gi_wp2
    exact hK
  case body =>
    rintro k Wb Wc ⟨hkl, first, n, a, hh0, hst, hj0⟩ hlb hO hlc hlt
    have lo := hh0.lo
    have hh := hh0.only hO (by omega) (fun i _ _ => by omega)
    have hj := JI.out _ _ _ hj0 (Only.mono hO (fun i _ e => by have := HB.out; omega))
    have hle := hst.len (Nat.le_of_lt hkl)
    have hsm := hh.pool.small
    have hvx := lt_of_free (fr_mem hkl)
    have f0 := hh.fb.cell 0
    have n0 := hh.nb.cell 0
    have y0 := hh.yb.cell 0
    have ff := hh.fb.free 0
    have fn := hh.nb.free 0
    have HH := Lib.hid hh
    have ST := Lib.hid hst
    have JJ := Lib.hid hj
    have KL := Lib.hid hkl
    have HL := Lib.hid hlc
    have LO := Lib.hid lo
    obtain ⟨v, hv⟩ : ∃ v, v = (fr x).getD k 0 := ⟨_, rfl⟩
    rw [← hv] at hvx ⊢
    have HV := Lib.hid hv
    clear hh0 hj0 hlb hO hh hst hj hkl hlc lo hv
    by_cases hn : 0 < n
    · by_cases hv : v = first + n
      · have k1 : decide ((n : Int) > 0) = true := decide_eq_true (by omega)
        have k2 : ((v : Int) == (first : Int) + (n : Int)) = true := by simp; omega
        have SN := Lib.hid (St.on ST.out KL.out hn (by rw [← HV.out]; exact hv))
        have HP := Lib.hid (HH.out.putn (n + 1))
        have OP := Lib.hid (only_n HH.out ((n + 1 : Nat) : Int))
        rw [show ((n + 1 : Nat) : Int) = (n : Int) + 1 from by omega] at HP OP
        clear hv
        gi_wp2
        have lo := LO.out
        have bg := HH.out.big
        have hb := HB.out
        exact ⟨Kept.of_only OP.out (by omega) (by omega) (by omega), fun W2 h2 => ⟨first, n + 1, a, HP.out.only h2 (by omega) (fun i _ _ => by omega), SN.out, JI.out _ _ _ (JI.out _ _ _ JJ.out (Only.mono OP.out (fun i _ e => by omega))) (Only.mono h2 (fun i _ e => by omega))⟩⟩
      · have k1 : decide ((n : Int) > 0) = true := decide_eq_true (by omega)
        have k2 : ((v : Int) == (first : Int) + (n : Int)) = false := by simp; omega
        have RW := St.row ST.out KL.out hn (by rw [← HV.out]; exact hv)
        have SN := Lib.hid (St.new ST.out KL.out (b := first + n) (by rw [if_pos hn]))
        rw [← HV.out] at SN
        have hyy := HY.out a first n Wc JJ.out RW (by have := HH.out.big; have := HB.out; have := LO.out; omega)
        obtain ⟨fn_, tmps, assign, body, hy, hR⟩ := hyy
        have HR := Lib.hid hR
        clear hv hR RW
        gi_wp2
        refine (round_any HR.out).mono ?_
        rintro e w6 ⟨rfl, hj6, ho6⟩
        have lo := LO.out
        have hb := HB.out
        have K6 := Lib.hid (Kept.of_only (b := w5.heap.size) ho6 (by have := HH.out.big; omega) (fun h => by have := HS.out _ h; omega) (fun h => by have := HS.out _ h; omega))
        have H6 := Lib.hid (HH.out.only ho6 ⟨fun h => (HS.out _ h).2.1 rfl, fun h => (HS.out _ h).2.2.1 rfl, fun h => (HS.out _ h).2.2.2 rfl⟩ (fun i _ _ h => by have := HS.out _ h; omega))
        have J6 := Lib.hid hj6
        have HP := Lib.hid ((H6.out.putf v).putn 1)
        have OP := Lib.hid (only_fn H6.out (v : Int) ((1 : Nat) : Int))
        rw [show ((1 : Nat) : Int) = 1 from rfl] at HP OP
        have g0 := H6.out.fb.cell 0
        have g1 := H6.out.nb.cell 0
        have gf := H6.out.fb.free 0
        have gn := H6.out.nb.free 0
        clear hj6 ho6 f0 n0 y0 ff fn lo hb hy
        gi_wp2
        have lo := LO.out
        have hb := HB.out
        have bg := H6.out.big
        exact ⟨K6.out.trans (Kept.of_only OP.out (by omega) (by omega) (by omega)), fun W2 h2 => ⟨v, 1, first + n, HP.out.only h2 (by omega) (fun i _ _ => by omega), SN.out, JI.out _ _ _ (JI.out _ _ _ J6.out (Only.mono OP.out (fun i _ e => by omega))) (Only.mono h2 (fun i _ e => by omega))⟩⟩
    · obtain rfl : n = 0 := by omega
      have SN := Lib.hid (St.new ST.out KL.out (b := a) (by rw [if_neg hn]))
      rw [← HV.out] at SN
      have HP := Lib.hid ((HH.out.putf v).putn 1)
      have OP := Lib.hid (only_fn HH.out (v : Int) ((1 : Nat) : Int))
      rw [show ((1 : Nat) : Int) = 1 from rfl] at HP OP
      clear hn
      gi_wp2
      refine ⟨fun _ h => (by cases h), ?_⟩
      gi_wp2
      have lo := LO.out
      have hb := HB.out
      have bg := HH.out.big
      exact ⟨Kept.of_only OP.out (by omega) (by omega) (by omega), fun W2 h2 => ⟨v, 1, a, HP.out.only h2 (by omega) (fun i _ _ => by omega), SN.out, JI.out _ _ _ (JI.out _ _ _ JJ.out (Only.mono OP.out (fun i _ e => by omega))) (Only.mono h2 (fun i _ e => by omega))⟩⟩
  case done =>
    rintro W0 W ⟨first, n, a, hh0, hst, hj0⟩ hl hO hK
    have lo := hh0.lo
    have hb := HB.out
    have hh := hh0.only hO (by omega) (fun i _ _ => by omega)
    have hj := JI.out _ _ _ hj0 (Only.mono hO (fun i _ e => by omega))
    have hle := hst.len (Nat.le_refl _)
    have hsm := hh.pool.small
    have f0 := hh.fb.cell 0
    have n0 := hh.nb.cell 0
    have y0 := hh.yb.cell 0
    have HH := Lib.hid hh
    have ST := Lib.hid hst
    have JJ := Lib.hid hj
    have LO := Lib.hid lo
    have KK := Lib.hid hK
    have PO := Lib.hid (fun (Wx : World) (o : Obj) => only_putObj Wx w5.heap.size o)
    clear hh0 hj0 hl hO hh hst hj lo hK hb
    by_cases hn : 0 < n
    · have k1 : decide ((n : Int) > 0) = true := decide_eq_true (by omega)
      have RW := St.last ST.out rfl hn
      have NX := Lib.hid RW.2
      have hyy := HY.out a first n W JJ.out RW.1 (by have := HH.out.big; have := HB.out; have := LO.out; omega)
      obtain ⟨fn_, tmps, assign, body, hy, hR⟩ := hyy
      have HR := Lib.hid hR
      clear hR RW
      gi_wp2
      refine (wpIn_wide (n := 3)).1 ?_
      gi_wp2
      refine (round_deep HR.out).mono ?_
      rintro e w6 ⟨rfl, hj6, ho6⟩
      have K6 := Lib.hid (show w6.heap[w5.heap.size]? = some (.deferred (some [])) from by
        have lo := LO.out
        have hb := HB.out
        rw [← KK.out]
        exact ho6.block _ (by have := HH.out.big; omega) (fun h => by have := HS.out _ h; omega))
      have J6 := Lib.hid (JI.out _ _ _ hj6 (Only.mono (PO.out w6 (.deferred none)) (fun i _ e => by have := LO.out; have := HB.out; omega)))
      clear hj6 ho6 f0 n0 y0 hy
      gi_wp2
      refine ⟨by simp, .inl ⟨_, _, rfl, run_takeDeferred K6.out, ?_⟩⟩
      exact ⟨_, results_none rfl _ _ _, ⟨_, rfl⟩, first + n, J6.out, NX.out⟩
    · obtain rfl : n = 0 := by omega
      have NX := Lib.hid (St.none_ ST.out rfl rfl)
      have J6 := Lib.hid (JI.out _ _ _ JJ.out (Only.mono (PO.out W (.deferred none)) (fun i _ e => by have := LO.out; have := HB.out; omega)))
      clear hn
      gi_wp2
      refine (wpIn_wide (n := 3)).1 ?_
      gi_wp2
      refine ⟨by simp, .inl ⟨_, _, rfl, run_takeDeferred KK.out, ?_⟩⟩
      exact ⟨_, results_none rfl _ _ _, ⟨_, rfl⟩, a, J6.out, NX.out⟩
  case stop =>
    rintro c' W0 W h
    exact h.elim
end Go.Proofs.YteecebklomeklaaDoor.po
