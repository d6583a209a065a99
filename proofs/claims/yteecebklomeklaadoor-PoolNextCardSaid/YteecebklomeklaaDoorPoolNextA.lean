/-
  PoolNext: the walk through a pool behind some calls.
-/
import Derived.Test.YteecebklomeklaaDoorPoolM
import Derived.Test.YteecebklomeklaaDoorPoolJ
import Derived.Test.YteecebklomeklaaDoorStillIn
import Derived.Deep.RegionHeld
import Derived.RegionIn
namespace Go.Proofs.YteecebklomeklaaDoor.poolNext
open Go.RowKit Go.Shelf
open po pnum
open base (ret_bool ret_int made up Blk Only Nums IntRows)
set_option linter.unusedVariables false
set_option linter.unusedSimpArgs false
attribute [local go_sem] Oper.semAt_some
attribute [local irreducible] wpStill
/-- A post without a panic. -/
def calm (Q : Exit → Act → World → Prop) : Exit → Act → World → Prop
  | .panic _, _, _ => False
  | e, a, w => Q e a w
theorem calm_ret (Q : Exit → Act → World → Prop) (a : Act) (w : World) : calm Q .ret a w = Q .ret a w := rfl
theorem calm_normal (Q : Exit → Act → World → Prop) (a : Act) (w : World) : calm Q .normal a w = Q .normal a w := rfl
theorem calm_wp {P : Program} {c : Code} {Q : Exit → Act → World → Prop} {a : Act} {w : World} (h : c.wp P (calm Q) a w) : c.wp P Q a w :=
  Code.wp_mono (fun e a w q => by cases e <;> first | exact q | exact False.elim q) h
attribute [local go_sem] calm_ret calm_normal

theorem asz (w : World) (o : Obj) : (w.alloc o).heap.size = w.heap.size + 1 := by first | exact Array.size_push _ | simp
theorem own_blk {w w' : World} {row : Option Nat} {g : Nat} {t : TypeId} {cs : Array Value} (h : Blk w g t cs) (hg : w.grownBy w' row) (hr : ∀ r, row = some r → ∃ o : Obj, w.heap[r]? = some o ∧ o.isCells = false) : Blk w' g t cs :=
  h.grown hg (fun e => by
    obtain ⟨o, ho, hc⟩ := hr g e.symm
    unfold Blk at h
    rw [h] at ho
    cases ho
    cases hc)
set_option maxRecDepth 100000 in
set_option maxHeartbeats 4000000 in
theorem walk_yes (w : World) (hT : Tab w) (n : Nat) (A : Option Addr) (m c : Nat) (F : Nat → Nat → Int) (h1 : IntRows w A m 2 F) (hn : n ≤ 300) (hl : m ≤ 200) (hc : m ≤ c) (hmx : c ≤ 9223372036854775807) (z : Int) (hz : -9223372036854775808 ≤ z ∧ z ≤ 9223372036854775807) :
    Calls Tryd.prog 4 #[.int .i64 n, .slice A m c, .int .i64 z] w fun e w' => e = .returned (.bool true) ∧ Below w.heap.size w w' := by
  have hm1 : Below w.heap.size w (w.alloc (.cells #[.int .i64 z] 3)) := made w _
  have hm2 : Below w.heap.size w ((w.alloc (.cells #[.int .i64 z] 3)).alloc (.cells #[.bool false] 4)) := hm1.alloc (by rw [asz]; omega) _
  have bf : Blk ((w.alloc (.cells #[.int .i64 z] 3)).alloc (.cells #[.bool false] 4)) w.heap.size 3 #[.int .i64 z] := (Blk.new _ _ _).alloc _
  have br : Blk ((w.alloc (.cells #[.int .i64 z] 3)).alloc (.cells #[.bool false] 4)) (w.heap.size + 1) 4 #[.bool false] := by
    have := Blk.new (w.alloc (.cells #[.int .i64 z] 3)) 4 #[.bool false]
    rw [asz] at this
    exact this
  have hs2 : ((w.alloc (.cells #[.int .i64 z] 3)).alloc (.cells #[.bool false] 4)).heap.size = w.heap.size + 2 := by rw [asz, asz]
  have BF := Lib.hid bf
  have BR := Lib.hid br
  have H2 := Lib.hid hm2
  have Z2 := Lib.hid hs2
  have PL := Lib.hid (played_yes ((w.alloc (.cells #[.int .i64 z] 3)).alloc (.cells #[.bool false] 4)) (hT.below hm2) n A m c F (h1.keep hm2) hn hl hc hmx)
  have HZ := Lib.hid hz
  have AWG := Lib.hid (fun ws (hb : Below w.heap.size w ws) => awake_any ws (hT.below hb))
  clear hT h1 hm1 hm2 bf br hs2
  refine (callsIn_wide (n := 3)).1 ?_
  refine callsIn_of_wp_marks Tryd.func4 rfl trivial ?_ rfl
  simp only [Tryd.ntmps4, List.size_toArray, List.length_cons, List.length_nil, Nat.reduceAdd, Nat.reduceSub, Array.replicate_succ, Array.replicate_zero, List.push_toArray, List.append_toArray, List.nil_append, List.cons_append]
  refine wpIn_wide.2 (calm_wp ?_)
  go_wp2_with fail
  generalize ((w.alloc (.cells #[.int .i64 z] 3)).alloc (.cells #[.bool false] 4)) = w2 at *
  refine PL.out.mono ?_
  rintro e w3 ⟨x, Ax, cx, rfl, hxl, hu, hr⟩
  subst hxl
  have XS := Lib.hid (show x.length ≤ 65536 by omega)
  have M3 := Lib.hid (made w3 (.cells #[.slice Ax x.length cx] 26))
  have BX := Lib.hid (Blk.new w3 26 #[.slice Ax x.length cx])
  have U4 := Lib.hid (hu.below' M3.out)
  have R4 := Lib.hid (hr.below M3.out)
  have B3 := Lib.hid hu.below
  have B4 := Lib.hid (up hu.below M3.out hu.below.size)
  have Z3 := Lib.hid (asz w3 (.cells #[.slice Ax x.length cx] 26))
  clear hu hr PL
  obtain ⟨o, ho⟩ := next_ex x z.toNat
  have c0 := (BF.out.below B4.out BF.out.lt).cell 0
  have NXT := Lib.hid (show Calls Tryd.prog 14 #[.pointer (some ⟨w2.heap.size + 1, 0, none⟩), .int .i64 z] (w3.alloc (.cells #[.slice Ax x.length cx] 26)) (NextP o _) from by
    obtain ⟨W, c, hp⟩ := U4.out.at_
    exact next_int U4.out.tab hp HZ.out.2 ho)
  have HO := Lib.hid ho
  clear ho
  rcases o with _ | j
  · go_wp2_with fail
    generalize w3.alloc (.cells #[.slice Ax x.length cx] 26) = w4 at *
    refine NXT.out.mono ?_
    rintro e w5 ⟨rfl, hn5⟩
    dsimp only [nextV]
    have U5 := Lib.hid (U4.out.nix hn5)
    have R5 := Lib.hid (R4.out.below hn5.below)
    have N5 := Lib.hid hn5.below
    have BX5 := Lib.hid (BX.out.below N5.out BX.out.lt)
    have B5 := Lib.hid (up B4.out N5.out B4.out.size)
    clear hn5 c0 NXT
    have c0 := (BF.out.below B5.out BF.out.lt).cell 0
    have c1 := BX5.out.cell 0
    have RN := Lib.hid (rnext_int Ax cx x z none w5 R5.out.lay HO.out XS.out)
    go_wp2_with fail
    refine RN.out.mono ?_
    rintro e w6 ⟨he, rfl⟩
    obtain rfl : e = .returned (.int .i64 (-1)) := he
    clear RN
    have MK := Lib.hid (fun ws => all_make (w2.heap.size + 1) ws)
    have hm7 : Below w6.heap.size w6 ((w6.alloc (.cells #[.int .i64 0] 3)).alloc (.cells #[.int .i64 0] 3)) := (made w6 (.cells #[.int .i64 0] 3)).alloc (by rw [asz]; omega) _
    have ba : Blk ((w6.alloc (.cells #[.int .i64 0] 3)).alloc (.cells #[.int .i64 0] 3)) w6.heap.size 3 #[.int .i64 0] := (Blk.new _ _ _).alloc _
    have bm : Blk ((w6.alloc (.cells #[.int .i64 0] 3)).alloc (.cells #[.int .i64 0] 3)) (w6.heap.size + 1) 3 #[.int .i64 0] := by
      have := Blk.new (w6.alloc (.cells #[.int .i64 0] 3)) 3 #[.int .i64 0]
      rw [asz] at this
      exact this
    have hz7 : ((w6.alloc (.cells #[.int .i64 0] 3)).alloc (.cells #[.int .i64 0] 3)).heap.size = w6.heap.size + 2 := by rw [asz, asz]
    have M7 := Lib.hid hm7
    have BA7 := Lib.hid ba
    have BM7 := Lib.hid bm
    have Z7 := Lib.hid hz7
    have B7 := Lib.hid (up B5.out hm7 B5.out.size)
    clear hm7 ba bm hz7 c0 c1
    go_wp2_with fail
    generalize ((w6.alloc (.cells #[.int .i64 0] 3)).alloc (.cells #[.int .i64 0] 3)) = w7 at *
    refine (MK.out _).mono ?_
    rintro e w8 ⟨rfl, hbl, hb8⟩
    have BL := Lib.hid hbl
    have BA := Lib.hid (BA7.out.below hb8 BA7.out.lt)
    have BM := Lib.hid (BM7.out.below hb8 BM7.out.lt)
    have M8 := Lib.hid (up M7.out hb8 M7.out.size)
    have Z8 := Lib.hid hb8.size
    clear hbl hb8
    have SZ := Lib.hid (show w.heap.size + 2 ≤ w6.heap.size ∧ w2.heap.size = w.heap.size + 2 ∧ w3.heap.size < w6.heap.size ∧ w2.heap.size + 1 < w6.heap.size from by
      have a1 := Z2.out
      have a2 := B5.out.size
      have a3 := Z3.out
      have a4 := N5.out.size
      obtain ⟨W, c, hp⟩ := U5.out.at_
      have a5 := hp.blk.lt
      omega)
    have P5 := Lib.hid U5.out.at_
    have KX := Lib.hid (fun ws (h : Below w6.heap.size w6 ws) => (show ws.cell? ⟨w3.heap.size, 0, none⟩ = some (.slice Ax x.length cx) ∧ ws.cell? ⟨w.heap.size, 0, none⟩ = some (.int .i64 z) ∧ ws.cell? ⟨w.heap.size + 1, 0, none⟩ = some (.bool false) ∧ ws.frozen? ⟨w.heap.size + 1, 0, none⟩ = false from
      ⟨(BX5.out.below h BX5.out.lt).cell 0, (BF.out.below (up B5.out h B5.out.size) BF.out.lt).cell 0, (BR.out.below (up B5.out h B5.out.size) BR.out.lt).cell 0, (BR.out.below (up B5.out h B5.out.size) BR.out.lt).free 0⟩))
    obtain ⟨Wd, cw, hp8⟩ := U5.out.at_
    have P6 := Lib.hid hp8
    have P8 := Lib.hid (hp8.below M8.out)
    have T8 := Lib.hid (U5.out.tab.below M8.out)
    clear hp8
    have FL := Lib.hid (fr_len x)
    go_wp2_with fail
    refine (wpIn_wide (n := 3)).1 ?_
    refine' wpIn_rangeFunc_ownF rfl (by omega) (gf := 31) (lb := #[.pointer (some ⟨w7.heap.size, 0, none⟩)]) rfl trivial (enters_of Tryd.func31 (by kernel_rfl) rfl)
      (all_stops (3 - 1) (by omega) x w7.heap.size (w2.heap.size + 1) w2.heap.size Wd cw w8 BL.out P8.out T8.out (fr x).length rfl) kf_t (kf_b ⟨BL.out.lt, P8.out.blk.lt, P8.out.row.choose_spec.1.lt, T8.out.1⟩) (Below.refl _ _) (fun _ => rfl)
      (fun pre W => (pre = (fr x).take pre.length ∧ Blk W w6.heap.size 3 #[.int .i64 (atF x pre.length : Nat)] ∧ Blk W (w6.heap.size + 1) 3 #[.int .i64 (pre.length : Nat)]) ∧ Below w6.heap.size w6 W)
      (fun c pre W => (c = .ret ∧ pre ≠ (fr x).take pre.length) ∨ (c = .exit 0 ∧ Blk W (w6.heap.size + 1) 3 #[.int .i64 z] ∧ Below w6.heap.size w6 W))
      (OwnFrom.and (Own.from (fun s A B row hs hg hr => ⟨hs.1, own_blk hs.2.1 hg hr, own_blk hs.2.2 hg hr⟩) _) (ownFrom_below (Nat.le_refl _) M8.out.size))
      (fun c s A B row hs hg hr => hs.imp id (fun h => ⟨h.1, own_blk h.2.1 hg (fun r e => (hr r e).2), ownFrom_below (β := List Nat) (Nat.le_refl _) M8.out.size s A B row h.2.2 hg hr⟩))
      ⟨⟨rfl, BA.out, BM.out⟩, M8.out⟩
      _ ?assign ?body ?done ?stop
    case assign =>
      intro l k W K hK
      simp only [encN, List.zip_toArray, List.zip_cons_cons, List.zip_nil_right, List.foldl_toArray, List.foldl_cons, List.foldl_nil, List.setIfInBounds_toArray, List.set_cons_succ, List.set_cons_zero]
      gi_wp2
      exact hK
    case body =>
      rintro l pre k W ⟨⟨hp, hba, hbm⟩, hb⟩ hlt
      obtain ⟨L, hL⟩ : ∃ L, L = pre.length := ⟨_, rfl⟩
      rw [← hL] at hba hbm hp hlt
      have HL := Lib.hid hL
      clear hL
      have HP := Lib.hid hp
      have HB := Lib.hid hb
      have HBA := Lib.hid hba
      have HBM := Lib.hid hbm
      have hvx := lt_of_free (fr_mem hlt)
      have hLx : L < x.length := by have := FL.out; have := List.count_le_length (a := true) (l := x); omega
      have TK := Lib.hid (fr_take hlt)
      have AT := Lib.hid (show atF x (L + 1) = (fr x).getD L 0 + 1 from rfl)
      have RN := Lib.hid (rnext_any Ax cx x (atF x L) (some ((fr x).getD L 0)) W (R5.out.below hb).lay (fr_next hlt) XS.out)
      rw [show nextI (some ((fr x).getD L 0)) = (((fr x).getD L 0 : Nat) : Int) from rfl] at RN
      generalize (fr x).getD L 0 = v at *
      generalize atF x L = a0 at *
      obtain ⟨c0, c1, c2, c3⟩ := KX.out W hb
      have d0 := hba.cell 0
      have d1 := hbm.cell 0
      have f0 := hba.free 0
      have f1 := hbm.free 0
      have e1 := SZ.out.1
      have xs := XS.out
      have n1 : w.heap.size ≠ w6.heap.size := by omega
      have n2 : w.heap.size ≠ w6.heap.size + 1 := by omega
      have LP := Lib.hid (show (pre ++ [k]).length = L + 1 by rw [List.length_append, ← HL.out]; rfl)
      clear hp hb hba hbm hlt e1
      by_cases hkv : k = v
      · subst hkv
        have q1 : ((k : Int) != (k : Int)) = false := by simp
        have OK := Lib.hid (show pre ++ [k] = (fr x).take (pre ++ [k]).length by rw [LP.out, TK.out, ← HP.out])
        have HK := Lib.hid hvx
        have wk : IntKind.i64.wrap ((k : Int) + 1) = (k : Int) + 1 := IntWalk.i64_in _ (by omega)
        have wl : IntKind.i64.wrap ((L : Int) + 1) = (L : Int) + 1 := IntWalk.i64_in _ (by omega)
        have ne1 : w6.heap.size ≠ w6.heap.size + 1 := by omega
        have ne2 : w6.heap.size + 1 ≠ w6.heap.size := by omega
        obtain ⟨W', hW'⟩ : ∃ W', W' = ((W.setCell ⟨w6.heap.size, 0, none⟩ (.int .i64 ((k : Int) + 1))).setCell ⟨w6.heap.size + 1, 0, none⟩ (.int .i64 ((L : Int) + 1))).drew := ⟨_, rfl⟩
        have BA2 : Hid (Blk W' w6.heap.size 3 #[.int .i64 (atF x (L + 1) : Nat)]) := Lib.hid (by
          rw [AT.out, hW', show ((k + 1 : Nat) : Int) = (k : Int) + 1 by omega]
          exact ((HBA.out.put 0 (.int .i64 ((k : Int) + 1))).far (p := ⟨w6.heap.size + 1, 0, none⟩) ne1 _).drewN 1)
        have BM2 : Hid (Blk W' (w6.heap.size + 1) 3 #[.int .i64 ((L : Int) + 1)]) := Lib.hid (by
          rw [hW']
          exact ((HBM.out.far (p := ⟨w6.heap.size, 0, none⟩) ne2 _).put 0 (.int .i64 ((L : Int) + 1))).drewN 1)
        have BB : Hid (Below w6.heap.size w6 W') := Lib.hid (by
          rw [hW']
          exact ((HB.out.setCell (p := ⟨w6.heap.size, 0, none⟩) (Nat.le_refl _) _).setCell (p := ⟨w6.heap.size + 1, 0, none⟩) (by show w6.heap.size ≤ w6.heap.size + 1; omega) _).drew)
        have KO : Hid (KeepsOthers W W') := Lib.hid (by
          rw [hW']
          exact ((KeepsOthers.setCell _ _ _).trans (KeepsOthers.setCell _ _ _)).trans (KeepsOthers.drew _))
        have KK : Hid (Kf w7.heap.size (w2.heap.size + 1) w2.heap.size W W') := Lib.hid (by
          have s1 := SZ.out
          have s2 := Z7.out
          rw [hW']
          have key : ∀ i, i ≠ w6.heap.size → i ≠ w6.heap.size + 1 → (((W.setCell ⟨w6.heap.size, 0, none⟩ (.int .i64 ((k : Int) + 1))).setCell ⟨w6.heap.size + 1, 0, none⟩ (.int .i64 ((L : Int) + 1))).drew).heap[i]? = W.heap[i]? := fun i h1 h2 =>
            (Below.heap_setCell _ ⟨w6.heap.size + 1, 0, none⟩ _ i h2).trans (Below.heap_setCell _ ⟨w6.heap.size, 0, none⟩ _ i h1)
          exact ⟨key _ (by omega) (by omega), key _ (by omega) (by omega), key _ (by omega) (by omega), key _ (by omega) (by omega)⟩)
        have HW' := Lib.hid hW'
        clear hW'
        by_cases hLz : ((L : Int) + 1) = z
        · have q2 : (((L : Int) + 1) == z) = true := by simpa using hLz
          have LZ := Lib.hid hLz
          clear hLz
          gi_wp2_with (refine ⟨trivial, ?_⟩; gi_at_call 15; refine ((still.round l).calls RN.out).mono ?_; rintro e w1 ⟨rfl, rfl⟩)
          have hW' := HW'.out
          gi_region
          all_goals rw [← hW']
          all_goals clear hW'
          all_goals have a1 := (KX.out W' BB.out).2.1
          all_goals have a2 := BM2.out.cell 0
          all_goals clear d0 d1 c0 c1 c2 c3 f0 f1
          all_goals gi_wp2
          all_goals exact ⟨KO.out, .inr ⟨rfl, by rw [← LZ.out]; exact BM2.out, BB.out⟩⟩
        · have q2 : (((L : Int) + 1) == z) = false := by simpa using hLz
          clear hLz
          gi_wp2_with (refine ⟨trivial, ?_⟩; gi_at_call 15; refine ((still.round l).calls RN.out).mono ?_; rintro e w1 ⟨rfl, rfl⟩)
          have hW' := HW'.out
          gi_region
          all_goals rw [← hW']
          all_goals clear hW'
          all_goals have a1 := (KX.out W' BB.out).2.1
          all_goals have a2 := BM2.out.cell 0
          all_goals clear d0 d1 c0 c1 c2 c3 f0 f1
          all_goals gi_wp2
          all_goals exact ⟨KO.out, KK.out, ⟨OK.out, by rw [LP.out]; exact BA2.out, by rw [LP.out]; exact BM2.out⟩, BB.out⟩
      · have q1 : ((k : Int) != (v : Int)) = true := by simp; omega
        have NO := Lib.hid (show pre ++ [k] ≠ (fr x).take (pre ++ [k]).length by
          rw [LP.out, TK.out, ← HP.out]
          intro h
          have := List.append_cancel_left h
          simp at this
          exact hkv this)
        gi_wp2_with (refine ⟨trivial, ?_⟩; gi_at_call 15; refine ((still.round l).calls RN.out).mono ?_; rintro e w1 ⟨rfl, rfl⟩)
        exact ⟨KeepsOthers.setCell _ _ _, .inl ⟨rfl, NO.out⟩⟩
    case done =>
      rintro D xs W hD rfl ⟨⟨-, -, hbm⟩, hb⟩ hK
      rw [FL.out] at hbm
      have HBM := Lib.hid hbm
      have HB := Lib.hid hb
      have KK := Lib.hid hK
      have HD := Lib.hid hD
      have KT := Lib.hid (fun ws (h : Below W.heap.size W ws) => (show ws.cell? ⟨w6.heap.size + 1, 0, none⟩ = some (.int .i64 (x.count true : Nat)) ∧ ws.cell? ⟨w.heap.size, 0, none⟩ = some (.int .i64 z) from ⟨(HBM.out.below h HBM.out.lt).cell 0, (KX.out _ (up HB.out h HB.out.size)).2.1⟩))
      have FRE := Lib.hid (free_any _ _ Wd cw x W.drew (P6.out.below HB.out.drew))
      have B0 := Lib.hid (up H2.out (up B5.out HB.out B5.out.size) H2.out.size)
      have AW := Lib.hid (AWG.out W.drew B0.out.drew)
      clear hbm hb hK hD
      go_wp2
      refine wp_region_held_drew (S := (fun ws => ws.cell? ⟨w6.heap.size + 1, 0, none⟩ = some (.int .i64 (x.count true : Nat)) ∧ ws.cell? ⟨w.heap.size, 0, none⟩ = some (.int .i64 z))) (by kernel_rfl) (KT.out _ (Below.refl _ _).drew) (fun hHeld => ?_)
      refine wpAnyH_take (i := 0) (v := ?_) rfl (by kernel_rfl) (by kernel_rfl) (by kernel_rfl) (fun _ _ _ h => h) (Or.inl ⟨by rfl, ?_⟩) (by assumption) ?_
      rotate_left
      · (intro w hSw; (try dsimp only at hSw); first | (go_simp; done) | (go_simp; with_reducible rfl))
      simp only [Act.put, List.getElem_toArray, List.getElem_cons_zero, List.getElem_cons_succ, List.setIfInBounds_toArray, List.set_cons_zero, List.set_cons_succ]
      refine wpAnyH_take (i := 1) (v := ?_) rfl (by kernel_rfl) (by kernel_rfl) (by kernel_rfl) (fun _ _ _ h => h) (Or.inl ⟨by rfl, ?_⟩) (by assumption) ?_
      rotate_left
      · (intro w hSw; (try dsimp only at hSw); first | (go_simp; done) | (go_simp; with_reducible rfl))
      simp only [Act.put, List.getElem_toArray, List.getElem_cons_zero, List.getElem_cons_succ, List.setIfInBounds_toArray, List.set_cons_zero, List.set_cons_succ]
      refine wpAnyH_ready (rs := [2]) (by kernel_rfl) (by simp) ?_
      refine AllReadyH.cons rfl (fun K hK => ?_) AllReadyH.nil
      go_simp
      go_wp2_with (go_at_call 17; refine FRE.out.mono ?_; rintro e w13 ⟨rfl, rfl⟩)
      refine hK.out _ _ (KT.out _ (Below.refl _ _).drew) (fun hH1 => ?_)
      clear hK K hHeld
      refine wpAnyH_take (i := 3) (v := ?_) rfl (by kernel_rfl) (by kernel_rfl) (by kernel_rfl) (fun _ _ _ h => h) (Or.inl ⟨by rfl, ?_⟩) (by assumption) ?_
      rotate_left
      · (intro w hSw; (try dsimp only at hSw); first | (go_simp; done) | (go_simp; with_reducible rfl))
      simp only [Act.put, List.getElem_toArray, List.getElem_cons_zero, List.getElem_cons_succ, List.setIfInBounds_toArray, List.set_cons_zero, List.set_cons_succ]
      refine wpAnyH_take (i := 4) (v := ?_) rfl (by kernel_rfl) (by kernel_rfl) (by kernel_rfl) (fun _ _ _ h => h) (Or.inl ⟨by rfl, ?_⟩) (by assumption) ?_
      rotate_left
      · (intro w hSw; (try dsimp only at hSw); first | (go_simp; done) | (go_simp; with_reducible rfl))
      simp only [Act.put, List.getElem_toArray, List.getElem_cons_zero, List.getElem_cons_succ, List.setIfInBounds_toArray, List.set_cons_zero, List.set_cons_succ]
      refine wpAnyH_take (i := 5) (v := undef) rfl (by kernel_rfl) (by kernel_rfl) (by kernel_rfl) (fun _ _ _ h => h) (Or.inr ⟨by rfl, rfl⟩) (by assumption) ?_
      simp only [Act.put, List.getElem_toArray, List.getElem_cons_zero, List.getElem_cons_succ, List.setIfInBounds_toArray, List.set_cons_zero, List.set_cons_succ]
      refine wpAnyH_take (i := 6) (v := undef) rfl (by kernel_rfl) (by kernel_rfl) (by kernel_rfl) (fun _ _ _ h => h) (Or.inr ⟨by rfl, rfl⟩) (by assumption) ?_
      simp only [Act.put, List.getElem_toArray, List.getElem_cons_zero, List.getElem_cons_succ, List.setIfInBounds_toArray, List.set_cons_zero, List.set_cons_succ]
      refine wpAnyH_take (i := 7) (v := undef) rfl (by kernel_rfl) (by kernel_rfl) (by kernel_rfl) (fun _ _ _ h => h) (Or.inr ⟨by rfl, rfl⟩) (by assumption) ?_
      simp only [Act.put, List.getElem_toArray, List.getElem_cons_zero, List.getElem_cons_succ, List.setIfInBounds_toArray, List.set_cons_zero, List.set_cons_succ]
      refine wpAnyH_take (i := 8) (v := ?_) rfl (by kernel_rfl) (by kernel_rfl) (by kernel_rfl) (fun _ _ _ h => h) (Or.inl ⟨by rfl, ?_⟩) (by assumption) ?_
      rotate_left
      · (intro w hSw; (try dsimp only at hSw); first | (go_simp; done) | (go_simp; with_reducible rfl))
      simp only [Act.put, List.getElem_toArray, List.getElem_cons_zero, List.getElem_cons_succ, List.setIfInBounds_toArray, List.set_cons_zero, List.set_cons_succ]
      refine wpAnyH_take (i := 9) (v := ?_) rfl (by kernel_rfl) (by kernel_rfl) (by kernel_rfl) (fun _ _ _ h => h) (Or.inl ⟨by rfl, ?_⟩) (by assumption) ?_
      rotate_left
      · (intro w hSw; (try dsimp only at hSw); first | (go_simp; done) | (go_simp; with_reducible rfl))
      simp only [Act.put, List.getElem_toArray, List.getElem_cons_zero, List.getElem_cons_succ, List.setIfInBounds_toArray, List.set_cons_zero, List.set_cons_succ]
      refine wpAnyH_ready (rs := [10]) (by kernel_rfl) (by simp) ?_
      refine AllReadyH.cons rfl (fun K hK => ?_) AllReadyH.nil
      go_simp
      go_wp2_with (go_at_call 8; refine AW.out.mono ?_; rintro e w15 ⟨rfl, hb15⟩)
      have B15 := Lib.hid (show Below W.heap.size W w15 from up (Below.refl _ _).drew hb15 (Nat.le_refl _))
      refine hK.out _ _ (KT.out _ B15.out) (fun hH3 => ?_)
      clear hK K hH1 hb15
      refine wpAnyH_take (i := 11) (v := ?_) rfl (by kernel_rfl) (by kernel_rfl) (by kernel_rfl) (fun _ _ _ h => h) (Or.inl ⟨by rfl, ?_⟩) (by assumption) ?_
      rotate_left
      · (intro w hSw; (try dsimp only at hSw); first | (go_simp; done) | (go_simp; with_reducible rfl))
      simp only [Act.put, List.getElem_toArray, List.getElem_cons_zero, List.getElem_cons_succ, List.setIfInBounds_toArray, List.set_cons_zero, List.set_cons_succ]
      have BZ := Lib.hid (up HB.out B15.out HB.out.size)
      have BE := Lib.hid (BR.out.below (up B5.out BZ.out B5.out.size) BR.out.lt)
      have d0 := BE.out.cell 0
      have f0 := BE.out.free 0
      have G0 := Lib.hid ((BE.out.put 0 (.bool true)).cell 0)
      have HQ := Lib.hid ((up B0.out B15.out B0.out.size).setCell (p := ⟨w.heap.size + 1, 0, none⟩) (by show w.heap.size ≤ w.heap.size + 1; omega) (.bool true))
      have hDlt : D < W.heap.size := (Array.getElem?_eq_some_iff.1 KK.out).1
      have KD := Lib.hid ((KeepsOthers.setCell w15 ⟨w.heap.size + 1, 0, none⟩ (.bool true)).same D _ ((B15.out.block D hDlt).trans KK.out) rfl)
      have s1 := SZ.out
      have A1 := Lib.hid ((World.cell?_setCell_far w15 ⟨w.heap.size + 1, 0, none⟩ ⟨w6.heap.size + 1, 0, none⟩ (.bool true) (by show w.heap.size + 1 ≠ w6.heap.size + 1; omega)).trans (KT.out _ B15.out).1)
      have A2 := Lib.hid ((World.cell?_setCell_far w15 ⟨w.heap.size + 1, 0, none⟩ ⟨w.heap.size, 0, none⟩ (.bool true) (by show w.heap.size + 1 ≠ w.heap.size; omega)).trans (KT.out _ B15.out).2)
      have DW := Lib.hid (show w.heap.size ≤ D by have := HD.out; have := M8.out.size; omega)
      clear s1
      refine wpAnyH_ready (rs := [12]) (by kernel_rfl) (by simp) ?_
      refine AllReadyH.cons rfl (fun K hK => ?_) AllReadyH.nil
      go_simp
      refine hK.out _ _ ⟨A1.out, A2.out⟩ (fun hH4 => ?_)
      clear hK K hH3
      refine wpAnyH_done (by kernel_rfl) ?_ _
      clear hH4 d0 f0
      go_wp2_with fail
      refine ⟨by simp, .inl ⟨_, _, rfl, run_takeDeferred KD.out, ?_⟩⟩
      have hc5 := cell_kept G0.out (grownBy_putObj' _ D (.deferred none)) (fun r e => by cases e; exact ⟨_, KD.out, rfl⟩)
      refine ⟨.bool true, ?_, rfl, HQ.out.trans (belowK_b (w := w) (Nat.le_refl _) _ D _ _ DW.out KD.out rfl rfl)⟩
      simp [results, Tryd.f4, go_sem, hc5]
    case stop =>
      rintro D c pre W hD ⟨k2, hk2, hpre⟩ (⟨rfl, hne⟩ | ⟨rfl, hbm, hb⟩) hK
      · exact absurd (show pre = (fr x).take pre.length by rw [hpre, List.length_take, Nat.min_eq_left hk2]) hne
      refine wpIn_wide.2 ?_
      by_cases hzc : z = ((x.count true : Nat) : Int)
      · rw [hzc] at hbm
        have HBM := Lib.hid hbm
        have HB := Lib.hid hb
        have KK := Lib.hid hK
        have HD := Lib.hid hD
        have KT := Lib.hid (fun ws (h : Below W.heap.size W ws) => (show ws.cell? ⟨w6.heap.size + 1, 0, none⟩ = some (.int .i64 (x.count true : Nat)) ∧ ws.cell? ⟨w.heap.size, 0, none⟩ = some (.int .i64 z) from ⟨(HBM.out.below h HBM.out.lt).cell 0, (KX.out _ (up HB.out h HB.out.size)).2.1⟩))
        have FRE := Lib.hid (free_any _ _ Wd cw x W.drew (P6.out.below HB.out.drew))
        have B0 := Lib.hid (up H2.out (up B5.out HB.out B5.out.size) H2.out.size)
        have AW := Lib.hid (AWG.out W.drew B0.out.drew)
        clear hbm hb hK hD
        clear hzc
        go_wp2
        refine wp_region_held_drew (S := (fun ws => ws.cell? ⟨w6.heap.size + 1, 0, none⟩ = some (.int .i64 (x.count true : Nat)) ∧ ws.cell? ⟨w.heap.size, 0, none⟩ = some (.int .i64 z))) (by kernel_rfl) (KT.out _ (Below.refl _ _).drew) (fun hHeld => ?_)
        refine wpAnyH_take (i := 0) (v := ?_) rfl (by kernel_rfl) (by kernel_rfl) (by kernel_rfl) (fun _ _ _ h => h) (Or.inl ⟨by rfl, ?_⟩) (by assumption) ?_
        rotate_left
        · (intro w hSw; (try dsimp only at hSw); first | (go_simp; done) | (go_simp; with_reducible rfl))
        simp only [Act.put, List.getElem_toArray, List.getElem_cons_zero, List.getElem_cons_succ, List.setIfInBounds_toArray, List.set_cons_zero, List.set_cons_succ]
        refine wpAnyH_take (i := 1) (v := ?_) rfl (by kernel_rfl) (by kernel_rfl) (by kernel_rfl) (fun _ _ _ h => h) (Or.inl ⟨by rfl, ?_⟩) (by assumption) ?_
        rotate_left
        · (intro w hSw; (try dsimp only at hSw); first | (go_simp; done) | (go_simp; with_reducible rfl))
        simp only [Act.put, List.getElem_toArray, List.getElem_cons_zero, List.getElem_cons_succ, List.setIfInBounds_toArray, List.set_cons_zero, List.set_cons_succ]
        refine wpAnyH_ready (rs := [2]) (by kernel_rfl) (by simp) ?_
        refine AllReadyH.cons rfl (fun K hK => ?_) AllReadyH.nil
        go_simp
        go_wp2_with (go_at_call 17; refine FRE.out.mono ?_; rintro e w13 ⟨rfl, rfl⟩)
        refine hK.out _ _ (KT.out _ (Below.refl _ _).drew) (fun hH1 => ?_)
        clear hK K hHeld
        refine wpAnyH_take (i := 3) (v := ?_) rfl (by kernel_rfl) (by kernel_rfl) (by kernel_rfl) (fun _ _ _ h => h) (Or.inl ⟨by rfl, ?_⟩) (by assumption) ?_
        rotate_left
        · (intro w hSw; (try dsimp only at hSw); first | (go_simp; done) | (go_simp; with_reducible rfl))
        simp only [Act.put, List.getElem_toArray, List.getElem_cons_zero, List.getElem_cons_succ, List.setIfInBounds_toArray, List.set_cons_zero, List.set_cons_succ]
        refine wpAnyH_take (i := 4) (v := ?_) rfl (by kernel_rfl) (by kernel_rfl) (by kernel_rfl) (fun _ _ _ h => h) (Or.inl ⟨by rfl, ?_⟩) (by assumption) ?_
        rotate_left
        · (intro w hSw; (try dsimp only at hSw); first | (go_simp; done) | (go_simp; with_reducible rfl))
        simp only [Act.put, List.getElem_toArray, List.getElem_cons_zero, List.getElem_cons_succ, List.setIfInBounds_toArray, List.set_cons_zero, List.set_cons_succ]
        refine wpAnyH_take (i := 5) (v := undef) rfl (by kernel_rfl) (by kernel_rfl) (by kernel_rfl) (fun _ _ _ h => h) (Or.inr ⟨by rfl, rfl⟩) (by assumption) ?_
        simp only [Act.put, List.getElem_toArray, List.getElem_cons_zero, List.getElem_cons_succ, List.setIfInBounds_toArray, List.set_cons_zero, List.set_cons_succ]
        refine wpAnyH_take (i := 6) (v := undef) rfl (by kernel_rfl) (by kernel_rfl) (by kernel_rfl) (fun _ _ _ h => h) (Or.inr ⟨by rfl, rfl⟩) (by assumption) ?_
        simp only [Act.put, List.getElem_toArray, List.getElem_cons_zero, List.getElem_cons_succ, List.setIfInBounds_toArray, List.set_cons_zero, List.set_cons_succ]
        refine wpAnyH_take (i := 7) (v := undef) rfl (by kernel_rfl) (by kernel_rfl) (by kernel_rfl) (fun _ _ _ h => h) (Or.inr ⟨by rfl, rfl⟩) (by assumption) ?_
        simp only [Act.put, List.getElem_toArray, List.getElem_cons_zero, List.getElem_cons_succ, List.setIfInBounds_toArray, List.set_cons_zero, List.set_cons_succ]
        refine wpAnyH_take (i := 8) (v := ?_) rfl (by kernel_rfl) (by kernel_rfl) (by kernel_rfl) (fun _ _ _ h => h) (Or.inl ⟨by rfl, ?_⟩) (by assumption) ?_
        rotate_left
        · (intro w hSw; (try dsimp only at hSw); first | (go_simp; done) | (go_simp; with_reducible rfl))
        simp only [Act.put, List.getElem_toArray, List.getElem_cons_zero, List.getElem_cons_succ, List.setIfInBounds_toArray, List.set_cons_zero, List.set_cons_succ]
        refine wpAnyH_take (i := 9) (v := ?_) rfl (by kernel_rfl) (by kernel_rfl) (by kernel_rfl) (fun _ _ _ h => h) (Or.inl ⟨by rfl, ?_⟩) (by assumption) ?_
        rotate_left
        · (intro w hSw; (try dsimp only at hSw); first | (go_simp; done) | (go_simp; with_reducible rfl))
        simp only [Act.put, List.getElem_toArray, List.getElem_cons_zero, List.getElem_cons_succ, List.setIfInBounds_toArray, List.set_cons_zero, List.set_cons_succ]
        refine wpAnyH_ready (rs := [10]) (by kernel_rfl) (by simp) ?_
        refine AllReadyH.cons rfl (fun K hK => ?_) AllReadyH.nil
        go_simp
        go_wp2_with (go_at_call 8; refine AW.out.mono ?_; rintro e w15 ⟨rfl, hb15⟩)
        have B15 := Lib.hid (show Below W.heap.size W w15 from up (Below.refl _ _).drew hb15 (Nat.le_refl _))
        refine hK.out _ _ (KT.out _ B15.out) (fun hH3 => ?_)
        clear hK K hH1 hb15
        refine wpAnyH_take (i := 11) (v := ?_) rfl (by kernel_rfl) (by kernel_rfl) (by kernel_rfl) (fun _ _ _ h => h) (Or.inl ⟨by rfl, ?_⟩) (by assumption) ?_
        rotate_left
        · (intro w hSw; (try dsimp only at hSw); first | (go_simp; done) | (go_simp; with_reducible rfl))
        simp only [Act.put, List.getElem_toArray, List.getElem_cons_zero, List.getElem_cons_succ, List.setIfInBounds_toArray, List.set_cons_zero, List.set_cons_succ]
        have BZ := Lib.hid (up HB.out B15.out HB.out.size)
        have BE := Lib.hid (BR.out.below (up B5.out BZ.out B5.out.size) BR.out.lt)
        have d0 := BE.out.cell 0
        have f0 := BE.out.free 0
        have G0 := Lib.hid ((BE.out.put 0 (.bool true)).cell 0)
        have HQ := Lib.hid ((up B0.out B15.out B0.out.size).setCell (p := ⟨w.heap.size + 1, 0, none⟩) (by show w.heap.size ≤ w.heap.size + 1; omega) (.bool true))
        have hDlt : D < W.heap.size := (Array.getElem?_eq_some_iff.1 KK.out).1
        have KD := Lib.hid ((KeepsOthers.setCell w15 ⟨w.heap.size + 1, 0, none⟩ (.bool true)).same D _ ((B15.out.block D hDlt).trans KK.out) rfl)
        have s1 := SZ.out
        have A1 := Lib.hid ((World.cell?_setCell_far w15 ⟨w.heap.size + 1, 0, none⟩ ⟨w6.heap.size + 1, 0, none⟩ (.bool true) (by show w.heap.size + 1 ≠ w6.heap.size + 1; omega)).trans (KT.out _ B15.out).1)
        have A2 := Lib.hid ((World.cell?_setCell_far w15 ⟨w.heap.size + 1, 0, none⟩ ⟨w.heap.size, 0, none⟩ (.bool true) (by show w.heap.size + 1 ≠ w.heap.size; omega)).trans (KT.out _ B15.out).2)
        have DW := Lib.hid (show w.heap.size ≤ D by have := HD.out; have := M8.out.size; omega)
        clear s1
        refine wpAnyH_ready (rs := [12]) (by kernel_rfl) (by simp) ?_
        refine AllReadyH.cons rfl (fun K hK => ?_) AllReadyH.nil
        go_simp
        refine hK.out _ _ ⟨A1.out, A2.out⟩ (fun hH4 => ?_)
        clear hK K hH3
        refine wpAnyH_done (by kernel_rfl) ?_ _
        clear hH4 d0 f0
        go_wp2_with fail
        refine ⟨by simp, .inl ⟨_, _, rfl, run_takeDeferred KD.out, ?_⟩⟩
        have hc5 := cell_kept G0.out (grownBy_putObj' _ D (.deferred none)) (fun r e => by cases e; exact ⟨_, KD.out, rfl⟩)
        refine ⟨.bool true, ?_, rfl, HQ.out.trans (belowK_b (w := w) (Nat.le_refl _) _ D _ _ DW.out KD.out rfl rfl)⟩
        simp [results, Tryd.f4, go_sem, hc5]

      · have q1 : (z == ((x.count true : Nat) : Int)) = false := by simpa using hzc
        clear hzc
        have HBM := Lib.hid hbm
        have HB := Lib.hid hb
        have KK := Lib.hid hK
        have HD := Lib.hid hD
        have KT := Lib.hid (fun ws (h : Below W.heap.size W ws) => (show ws.cell? ⟨w6.heap.size + 1, 0, none⟩ = some (.int .i64 z) ∧ ws.cell? ⟨w.heap.size, 0, none⟩ = some (.int .i64 z) from ⟨(HBM.out.below h HBM.out.lt).cell 0, (KX.out _ (up HB.out h HB.out.size)).2.1⟩))
        have FRE := Lib.hid (free_any _ _ Wd cw x W.drew (P6.out.below HB.out.drew))
        have B0 := Lib.hid (up H2.out (up B5.out HB.out B5.out.size) H2.out.size)
        have AW := Lib.hid (AWG.out W.drew B0.out.drew)
        clear hbm hb hK hD
        go_wp2
        refine wp_region_held_drew (S := (fun ws => ws.cell? ⟨w6.heap.size + 1, 0, none⟩ = some (.int .i64 z) ∧ ws.cell? ⟨w.heap.size, 0, none⟩ = some (.int .i64 z))) (by kernel_rfl) (KT.out _ (Below.refl _ _).drew) (fun hHeld => ?_)
        refine wpAnyH_take (i := 0) (v := ?_) rfl (by kernel_rfl) (by kernel_rfl) (by kernel_rfl) (fun _ _ _ h => h) (Or.inl ⟨by rfl, ?_⟩) (by assumption) ?_
        rotate_left
        · (intro w hSw; (try dsimp only at hSw); first | (go_simp; done) | (go_simp; with_reducible rfl))
        simp only [Act.put, List.getElem_toArray, List.getElem_cons_zero, List.getElem_cons_succ, List.setIfInBounds_toArray, List.set_cons_zero, List.set_cons_succ]
        refine wpAnyH_take (i := 1) (v := ?_) rfl (by kernel_rfl) (by kernel_rfl) (by kernel_rfl) (fun _ _ _ h => h) (Or.inl ⟨by rfl, ?_⟩) (by assumption) ?_
        rotate_left
        · (intro w hSw; (try dsimp only at hSw); first | (go_simp; done) | (go_simp; with_reducible rfl))
        simp only [Act.put, List.getElem_toArray, List.getElem_cons_zero, List.getElem_cons_succ, List.setIfInBounds_toArray, List.set_cons_zero, List.set_cons_succ]
        refine wpAnyH_ready (rs := [2]) (by kernel_rfl) (by simp) ?_
        refine AllReadyH.cons rfl (fun K hK => ?_) AllReadyH.nil
        go_simp
        go_wp2_with (go_at_call 17; refine FRE.out.mono ?_; rintro e w13 ⟨rfl, rfl⟩)
        refine hK.out _ _ (KT.out _ (Below.refl _ _).drew) (fun hH1 => ?_)
        clear hK K hHeld
        refine wpAnyH_take (i := 3) (v := ?_) rfl (by kernel_rfl) (by kernel_rfl) (by kernel_rfl) (fun _ _ _ h => h) (Or.inl ⟨by rfl, ?_⟩) (by assumption) ?_
        rotate_left
        · (intro w hSw; (try dsimp only at hSw); first | (go_simp; done) | (go_simp; with_reducible rfl))
        simp only [Act.put, List.getElem_toArray, List.getElem_cons_zero, List.getElem_cons_succ, List.setIfInBounds_toArray, List.set_cons_zero, List.set_cons_succ]
        refine wpAnyH_take (i := 4) (v := ?_) rfl (by kernel_rfl) (by kernel_rfl) (by kernel_rfl) (fun _ _ _ h => h) (Or.inl ⟨by rfl, ?_⟩) (by assumption) ?_
        rotate_left
        · (intro w hSw; (try dsimp only at hSw); first | (go_simp; done) | (go_simp; with_reducible rfl))
        simp only [Act.put, List.getElem_toArray, List.getElem_cons_zero, List.getElem_cons_succ, List.setIfInBounds_toArray, List.set_cons_zero, List.set_cons_succ]
        refine wpAnyH_take (i := 5) (v := ?_) rfl (by kernel_rfl) (by kernel_rfl) (by kernel_rfl) (fun _ _ _ h => h) (Or.inl ⟨by rfl, ?_⟩) (by assumption) ?_
        rotate_left
        · (intro w hSw; (try dsimp only at hSw); first | (go_simp; done) | (go_simp; with_reducible rfl))
        simp only [Act.put, List.getElem_toArray, List.getElem_cons_zero, List.getElem_cons_succ, List.setIfInBounds_toArray, List.set_cons_zero, List.set_cons_succ]
        refine wpAnyH_take (i := 6) (v := ?_) rfl (by kernel_rfl) (by kernel_rfl) (by kernel_rfl) (fun _ _ _ h => h) (Or.inl ⟨by rfl, ?_⟩) (by assumption) ?_
        rotate_left
        · (intro w hSw; (try dsimp only at hSw); first | (go_simp; done) | (go_simp; with_reducible rfl))
        simp only [Act.put, List.getElem_toArray, List.getElem_cons_zero, List.getElem_cons_succ, List.setIfInBounds_toArray, List.set_cons_zero, List.set_cons_succ]
        refine wpAnyH_take (i := 7) (v := ?_) rfl (by kernel_rfl) (by kernel_rfl) (by kernel_rfl) (fun _ _ _ h => h) (Or.inl ⟨by rfl, ?_⟩) (by assumption) ?_
        rotate_left
        · (intro w hSw; (try dsimp only at hSw); first | (go_simp; done) | (go_simp; with_reducible rfl))
        simp only [Act.put, List.getElem_toArray, List.getElem_cons_zero, List.getElem_cons_succ, List.setIfInBounds_toArray, List.set_cons_zero, List.set_cons_succ]
        refine wpAnyH_take (i := 8) (v := ?_) rfl (by kernel_rfl) (by kernel_rfl) (by kernel_rfl) (fun _ _ _ h => h) (Or.inl ⟨by rfl, ?_⟩) (by assumption) ?_
        rotate_left
        · (intro w hSw; (try dsimp only at hSw); first | (go_simp; done) | (go_simp; with_reducible rfl))
        simp only [Act.put, List.getElem_toArray, List.getElem_cons_zero, List.getElem_cons_succ, List.setIfInBounds_toArray, List.set_cons_zero, List.set_cons_succ]
        refine wpAnyH_take (i := 9) (v := ?_) rfl (by kernel_rfl) (by kernel_rfl) (by kernel_rfl) (fun _ _ _ h => h) (Or.inl ⟨by rfl, ?_⟩) (by assumption) ?_
        rotate_left
        · (intro w hSw; (try dsimp only at hSw); first | (go_simp; done) | (go_simp; with_reducible rfl))
        simp only [Act.put, List.getElem_toArray, List.getElem_cons_zero, List.getElem_cons_succ, List.setIfInBounds_toArray, List.set_cons_zero, List.set_cons_succ]
        refine wpAnyH_ready (rs := [10]) (by kernel_rfl) (by simp) ?_
        refine AllReadyH.cons rfl (fun K hK => ?_) AllReadyH.nil
        go_simp
        go_wp2_with (go_at_call 8; refine AW.out.mono ?_; rintro e w15 ⟨rfl, hb15⟩)
        have B15 := Lib.hid (show Below W.heap.size W w15 from up (Below.refl _ _).drew hb15 (Nat.le_refl _))
        refine hK.out _ _ (KT.out _ B15.out) (fun hH3 => ?_)
        clear hK K hH1 hb15
        refine wpAnyH_take (i := 11) (v := ?_) rfl (by kernel_rfl) (by kernel_rfl) (by kernel_rfl) (fun _ _ _ h => h) (Or.inl ⟨by rfl, ?_⟩) (by assumption) ?_
        rotate_left
        · (intro w hSw; (try dsimp only at hSw); first | (go_simp; done) | (go_simp; with_reducible rfl))
        simp only [Act.put, List.getElem_toArray, List.getElem_cons_zero, List.getElem_cons_succ, List.setIfInBounds_toArray, List.set_cons_zero, List.set_cons_succ]
        have BZ := Lib.hid (up HB.out B15.out HB.out.size)
        have BE := Lib.hid (BR.out.below (up B5.out BZ.out B5.out.size) BR.out.lt)
        have d0 := BE.out.cell 0
        have f0 := BE.out.free 0
        have G0 := Lib.hid ((BE.out.put 0 (.bool true)).cell 0)
        have HQ := Lib.hid ((up B0.out B15.out B0.out.size).setCell (p := ⟨w.heap.size + 1, 0, none⟩) (by show w.heap.size ≤ w.heap.size + 1; omega) (.bool true))
        have hDlt : D < W.heap.size := (Array.getElem?_eq_some_iff.1 KK.out).1
        have KD := Lib.hid ((KeepsOthers.setCell w15 ⟨w.heap.size + 1, 0, none⟩ (.bool true)).same D _ ((B15.out.block D hDlt).trans KK.out) rfl)
        have s1 := SZ.out
        have A1 := Lib.hid ((World.cell?_setCell_far w15 ⟨w.heap.size + 1, 0, none⟩ ⟨w6.heap.size + 1, 0, none⟩ (.bool true) (by show w.heap.size + 1 ≠ w6.heap.size + 1; omega)).trans (KT.out _ B15.out).1)
        have A2 := Lib.hid ((World.cell?_setCell_far w15 ⟨w.heap.size + 1, 0, none⟩ ⟨w.heap.size, 0, none⟩ (.bool true) (by show w.heap.size + 1 ≠ w.heap.size; omega)).trans (KT.out _ B15.out).2)
        have DW := Lib.hid (show w.heap.size ≤ D by have := HD.out; have := M8.out.size; omega)
        clear s1
        refine wpAnyH_ready (rs := [12]) (by kernel_rfl) (by simp) ?_
        refine AllReadyH.cons rfl (fun K hK => ?_) AllReadyH.nil
        go_simp
        refine hK.out _ _ ⟨A1.out, A2.out⟩ (fun hH4 => ?_)
        clear hK K hH3
        refine wpAnyH_done (by kernel_rfl) ?_ _
        clear hH4 d0 f0
        go_wp2_with fail
        refine ⟨by simp, .inl ⟨_, _, rfl, run_takeDeferred KD.out, ?_⟩⟩
        have hc5 := cell_kept G0.out (grownBy_putObj' _ D (.deferred none)) (fun r e => by cases e; exact ⟨_, KD.out, rfl⟩)
        refine ⟨.bool true, ?_, rfl, HQ.out.trans (belowK_b (w := w) (Nat.le_refl _) _ D _ _ DW.out KD.out rfl rfl)⟩
        simp [results, Tryd.f4, go_sem, hc5]

  · go_wp2_with fail
    generalize w3.alloc (.cells #[.slice Ax x.length cx] 26) = w4 at *
    refine NXT.out.mono ?_
    rintro e w5 ⟨rfl, hn5⟩
    dsimp only [nextV]
    have U5 := Lib.hid (U4.out.nix hn5)
    have R5 := Lib.hid (R4.out.below hn5.below)
    have N5 := Lib.hid hn5.below
    have BX5 := Lib.hid (BX.out.below N5.out BX.out.lt)
    have B5 := Lib.hid (up B4.out N5.out B4.out.size)
    clear hn5 c0 NXT
    have c0 := (BF.out.below B5.out BF.out.lt).cell 0
    have c1 := BX5.out.cell 0
    have RN := Lib.hid (rnext_int Ax cx x z (some j) w5 R5.out.lay HO.out XS.out)
    go_wp2_with fail
    refine RN.out.mono ?_
    rintro e w6 ⟨he, rfl⟩
    obtain rfl : e = .returned (.int .i64 (j : Nat)) := he
    clear RN
    have MK := Lib.hid (fun ws => all_make (w2.heap.size + 1) ws)
    have hm7 : Below w6.heap.size w6 ((w6.alloc (.cells #[.int .i64 0] 3)).alloc (.cells #[.int .i64 0] 3)) := (made w6 (.cells #[.int .i64 0] 3)).alloc (by rw [asz]; omega) _
    have ba : Blk ((w6.alloc (.cells #[.int .i64 0] 3)).alloc (.cells #[.int .i64 0] 3)) w6.heap.size 3 #[.int .i64 0] := (Blk.new _ _ _).alloc _
    have bm : Blk ((w6.alloc (.cells #[.int .i64 0] 3)).alloc (.cells #[.int .i64 0] 3)) (w6.heap.size + 1) 3 #[.int .i64 0] := by
      have := Blk.new (w6.alloc (.cells #[.int .i64 0] 3)) 3 #[.int .i64 0]
      rw [asz] at this
      exact this
    have hz7 : ((w6.alloc (.cells #[.int .i64 0] 3)).alloc (.cells #[.int .i64 0] 3)).heap.size = w6.heap.size + 2 := by rw [asz, asz]
    have M7 := Lib.hid hm7
    have BA7 := Lib.hid ba
    have BM7 := Lib.hid bm
    have Z7 := Lib.hid hz7
    have B7 := Lib.hid (up B5.out hm7 B5.out.size)
    clear hm7 ba bm hz7 c0 c1
    go_wp2_with fail
    generalize ((w6.alloc (.cells #[.int .i64 0] 3)).alloc (.cells #[.int .i64 0] 3)) = w7 at *
    refine (MK.out _).mono ?_
    rintro e w8 ⟨rfl, hbl, hb8⟩
    have BL := Lib.hid hbl
    have BA := Lib.hid (BA7.out.below hb8 BA7.out.lt)
    have BM := Lib.hid (BM7.out.below hb8 BM7.out.lt)
    have M8 := Lib.hid (up M7.out hb8 M7.out.size)
    have Z8 := Lib.hid hb8.size
    clear hbl hb8
    have SZ := Lib.hid (show w.heap.size + 2 ≤ w6.heap.size ∧ w2.heap.size = w.heap.size + 2 ∧ w3.heap.size < w6.heap.size ∧ w2.heap.size + 1 < w6.heap.size from by
      have a1 := Z2.out
      have a2 := B5.out.size
      have a3 := Z3.out
      have a4 := N5.out.size
      obtain ⟨W, c, hp⟩ := U5.out.at_
      have a5 := hp.blk.lt
      omega)
    have P5 := Lib.hid U5.out.at_
    have KX := Lib.hid (fun ws (h : Below w6.heap.size w6 ws) => (show ws.cell? ⟨w3.heap.size, 0, none⟩ = some (.slice Ax x.length cx) ∧ ws.cell? ⟨w.heap.size, 0, none⟩ = some (.int .i64 z) ∧ ws.cell? ⟨w.heap.size + 1, 0, none⟩ = some (.bool false) ∧ ws.frozen? ⟨w.heap.size + 1, 0, none⟩ = false from
      ⟨(BX5.out.below h BX5.out.lt).cell 0, (BF.out.below (up B5.out h B5.out.size) BF.out.lt).cell 0, (BR.out.below (up B5.out h B5.out.size) BR.out.lt).cell 0, (BR.out.below (up B5.out h B5.out.size) BR.out.lt).free 0⟩))
    obtain ⟨Wd, cw, hp8⟩ := U5.out.at_
    have P6 := Lib.hid hp8
    have P8 := Lib.hid (hp8.below M8.out)
    have T8 := Lib.hid (U5.out.tab.below M8.out)
    clear hp8
    have FL := Lib.hid (fr_len x)
    go_wp2_with fail
    refine (wpIn_wide (n := 3)).1 ?_
    refine' wpIn_rangeFunc_ownF rfl (by omega) (gf := 31) (lb := #[.pointer (some ⟨w7.heap.size, 0, none⟩)]) rfl trivial (enters_of Tryd.func31 (by kernel_rfl) rfl)
      (all_stops (3 - 1) (by omega) x w7.heap.size (w2.heap.size + 1) w2.heap.size Wd cw w8 BL.out P8.out T8.out (fr x).length rfl) kf_t (kf_b ⟨BL.out.lt, P8.out.blk.lt, P8.out.row.choose_spec.1.lt, T8.out.1⟩) (Below.refl _ _) (fun _ => rfl)
      (fun pre W => (pre = (fr x).take pre.length ∧ Blk W w6.heap.size 3 #[.int .i64 (atF x pre.length : Nat)] ∧ Blk W (w6.heap.size + 1) 3 #[.int .i64 (pre.length : Nat)]) ∧ Below w6.heap.size w6 W)
      (fun c pre W => (c = .ret ∧ pre ≠ (fr x).take pre.length) ∨ (c = .exit 0 ∧ Blk W (w6.heap.size + 1) 3 #[.int .i64 z] ∧ Below w6.heap.size w6 W))
      (OwnFrom.and (Own.from (fun s A B row hs hg hr => ⟨hs.1, own_blk hs.2.1 hg hr, own_blk hs.2.2 hg hr⟩) _) (ownFrom_below (Nat.le_refl _) M8.out.size))
      (fun c s A B row hs hg hr => hs.imp id (fun h => ⟨h.1, own_blk h.2.1 hg (fun r e => (hr r e).2), ownFrom_below (β := List Nat) (Nat.le_refl _) M8.out.size s A B row h.2.2 hg hr⟩))
      ⟨⟨rfl, BA.out, BM.out⟩, M8.out⟩
      _ ?assign ?body ?done ?stop
    case assign =>
      intro l k W K hK
      simp only [encN, List.zip_toArray, List.zip_cons_cons, List.zip_nil_right, List.foldl_toArray, List.foldl_cons, List.foldl_nil, List.setIfInBounds_toArray, List.set_cons_succ, List.set_cons_zero]
      gi_wp2
      exact hK
    case body =>
      rintro l pre k W ⟨⟨hp, hba, hbm⟩, hb⟩ hlt
      obtain ⟨L, hL⟩ : ∃ L, L = pre.length := ⟨_, rfl⟩
      rw [← hL] at hba hbm hp hlt
      have HL := Lib.hid hL
      clear hL
      have HP := Lib.hid hp
      have HB := Lib.hid hb
      have HBA := Lib.hid hba
      have HBM := Lib.hid hbm
      have hvx := lt_of_free (fr_mem hlt)
      have hLx : L < x.length := by have := FL.out; have := List.count_le_length (a := true) (l := x); omega
      have TK := Lib.hid (fr_take hlt)
      have AT := Lib.hid (show atF x (L + 1) = (fr x).getD L 0 + 1 from rfl)
      have RN := Lib.hid (rnext_any Ax cx x (atF x L) (some ((fr x).getD L 0)) W (R5.out.below hb).lay (fr_next hlt) XS.out)
      rw [show nextI (some ((fr x).getD L 0)) = (((fr x).getD L 0 : Nat) : Int) from rfl] at RN
      generalize (fr x).getD L 0 = v at *
      generalize atF x L = a0 at *
      obtain ⟨c0, c1, c2, c3⟩ := KX.out W hb
      have d0 := hba.cell 0
      have d1 := hbm.cell 0
      have f0 := hba.free 0
      have f1 := hbm.free 0
      have e1 := SZ.out.1
      have xs := XS.out
      have n1 : w.heap.size ≠ w6.heap.size := by omega
      have n2 : w.heap.size ≠ w6.heap.size + 1 := by omega
      have LP := Lib.hid (show (pre ++ [k]).length = L + 1 by rw [List.length_append, ← HL.out]; rfl)
      clear hp hb hba hbm hlt e1
      by_cases hkv : k = v
      · subst hkv
        have q1 : ((k : Int) != (k : Int)) = false := by simp
        have OK := Lib.hid (show pre ++ [k] = (fr x).take (pre ++ [k]).length by rw [LP.out, TK.out, ← HP.out])
        have HK := Lib.hid hvx
        have wk : IntKind.i64.wrap ((k : Int) + 1) = (k : Int) + 1 := IntWalk.i64_in _ (by omega)
        have wl : IntKind.i64.wrap ((L : Int) + 1) = (L : Int) + 1 := IntWalk.i64_in _ (by omega)
        have ne1 : w6.heap.size ≠ w6.heap.size + 1 := by omega
        have ne2 : w6.heap.size + 1 ≠ w6.heap.size := by omega
        obtain ⟨W', hW'⟩ : ∃ W', W' = ((W.setCell ⟨w6.heap.size, 0, none⟩ (.int .i64 ((k : Int) + 1))).setCell ⟨w6.heap.size + 1, 0, none⟩ (.int .i64 ((L : Int) + 1))).drew := ⟨_, rfl⟩
        have BA2 : Hid (Blk W' w6.heap.size 3 #[.int .i64 (atF x (L + 1) : Nat)]) := Lib.hid (by
          rw [AT.out, hW', show ((k + 1 : Nat) : Int) = (k : Int) + 1 by omega]
          exact ((HBA.out.put 0 (.int .i64 ((k : Int) + 1))).far (p := ⟨w6.heap.size + 1, 0, none⟩) ne1 _).drewN 1)
        have BM2 : Hid (Blk W' (w6.heap.size + 1) 3 #[.int .i64 ((L : Int) + 1)]) := Lib.hid (by
          rw [hW']
          exact ((HBM.out.far (p := ⟨w6.heap.size, 0, none⟩) ne2 _).put 0 (.int .i64 ((L : Int) + 1))).drewN 1)
        have BB : Hid (Below w6.heap.size w6 W') := Lib.hid (by
          rw [hW']
          exact ((HB.out.setCell (p := ⟨w6.heap.size, 0, none⟩) (Nat.le_refl _) _).setCell (p := ⟨w6.heap.size + 1, 0, none⟩) (by show w6.heap.size ≤ w6.heap.size + 1; omega) _).drew)
        have KO : Hid (KeepsOthers W W') := Lib.hid (by
          rw [hW']
          exact ((KeepsOthers.setCell _ _ _).trans (KeepsOthers.setCell _ _ _)).trans (KeepsOthers.drew _))
        have KK : Hid (Kf w7.heap.size (w2.heap.size + 1) w2.heap.size W W') := Lib.hid (by
          have s1 := SZ.out
          have s2 := Z7.out
          rw [hW']
          have key : ∀ i, i ≠ w6.heap.size → i ≠ w6.heap.size + 1 → (((W.setCell ⟨w6.heap.size, 0, none⟩ (.int .i64 ((k : Int) + 1))).setCell ⟨w6.heap.size + 1, 0, none⟩ (.int .i64 ((L : Int) + 1))).drew).heap[i]? = W.heap[i]? := fun i h1 h2 =>
            (Below.heap_setCell _ ⟨w6.heap.size + 1, 0, none⟩ _ i h2).trans (Below.heap_setCell _ ⟨w6.heap.size, 0, none⟩ _ i h1)
          exact ⟨key _ (by omega) (by omega), key _ (by omega) (by omega), key _ (by omega) (by omega), key _ (by omega) (by omega)⟩)
        have HW' := Lib.hid hW'
        clear hW'
        by_cases hLz : ((L : Int) + 1) = z
        · have q2 : (((L : Int) + 1) == z) = true := by simpa using hLz
          have LZ := Lib.hid hLz
          clear hLz
          gi_wp2_with (refine ⟨trivial, ?_⟩; gi_at_call 15; refine ((still.round l).calls RN.out).mono ?_; rintro e w1 ⟨rfl, rfl⟩)
          have hW' := HW'.out
          gi_region
          all_goals rw [← hW']
          all_goals clear hW'
          all_goals have a1 := (KX.out W' BB.out).2.1
          all_goals have a2 := BM2.out.cell 0
          all_goals clear d0 d1 c0 c1 c2 c3 f0 f1
          all_goals gi_wp2
          all_goals exact ⟨KO.out, .inr ⟨rfl, by rw [← LZ.out]; exact BM2.out, BB.out⟩⟩
        · have q2 : (((L : Int) + 1) == z) = false := by simpa using hLz
          clear hLz
          gi_wp2_with (refine ⟨trivial, ?_⟩; gi_at_call 15; refine ((still.round l).calls RN.out).mono ?_; rintro e w1 ⟨rfl, rfl⟩)
          have hW' := HW'.out
          gi_region
          all_goals rw [← hW']
          all_goals clear hW'
          all_goals have a1 := (KX.out W' BB.out).2.1
          all_goals have a2 := BM2.out.cell 0
          all_goals clear d0 d1 c0 c1 c2 c3 f0 f1
          all_goals gi_wp2
          all_goals exact ⟨KO.out, KK.out, ⟨OK.out, by rw [LP.out]; exact BA2.out, by rw [LP.out]; exact BM2.out⟩, BB.out⟩
      · have q1 : ((k : Int) != (v : Int)) = true := by simp; omega
        have NO := Lib.hid (show pre ++ [k] ≠ (fr x).take (pre ++ [k]).length by
          rw [LP.out, TK.out, ← HP.out]
          intro h
          have := List.append_cancel_left h
          simp at this
          exact hkv this)
        gi_wp2_with (refine ⟨trivial, ?_⟩; gi_at_call 15; refine ((still.round l).calls RN.out).mono ?_; rintro e w1 ⟨rfl, rfl⟩)
        exact ⟨KeepsOthers.setCell _ _ _, .inl ⟨rfl, NO.out⟩⟩
    case done =>
      rintro D xs W hD rfl ⟨⟨-, -, hbm⟩, hb⟩ hK
      rw [FL.out] at hbm
      have HBM := Lib.hid hbm
      have HB := Lib.hid hb
      have KK := Lib.hid hK
      have HD := Lib.hid hD
      have KT := Lib.hid (fun ws (h : Below W.heap.size W ws) => (show ws.cell? ⟨w6.heap.size + 1, 0, none⟩ = some (.int .i64 (x.count true : Nat)) ∧ ws.cell? ⟨w.heap.size, 0, none⟩ = some (.int .i64 z) from ⟨(HBM.out.below h HBM.out.lt).cell 0, (KX.out _ (up HB.out h HB.out.size)).2.1⟩))
      have FRE := Lib.hid (free_any _ _ Wd cw x W.drew (P6.out.below HB.out.drew))
      have B0 := Lib.hid (up H2.out (up B5.out HB.out B5.out.size) H2.out.size)
      have AW := Lib.hid (AWG.out W.drew B0.out.drew)
      clear hbm hb hK hD
      go_wp2
      refine wp_region_held_drew (S := (fun ws => ws.cell? ⟨w6.heap.size + 1, 0, none⟩ = some (.int .i64 (x.count true : Nat)) ∧ ws.cell? ⟨w.heap.size, 0, none⟩ = some (.int .i64 z))) (by kernel_rfl) (KT.out _ (Below.refl _ _).drew) (fun hHeld => ?_)
      refine wpAnyH_take (i := 0) (v := ?_) rfl (by kernel_rfl) (by kernel_rfl) (by kernel_rfl) (fun _ _ _ h => h) (Or.inl ⟨by rfl, ?_⟩) (by assumption) ?_
      rotate_left
      · (intro w hSw; (try dsimp only at hSw); first | (go_simp; done) | (go_simp; with_reducible rfl))
      simp only [Act.put, List.getElem_toArray, List.getElem_cons_zero, List.getElem_cons_succ, List.setIfInBounds_toArray, List.set_cons_zero, List.set_cons_succ]
      refine wpAnyH_take (i := 1) (v := ?_) rfl (by kernel_rfl) (by kernel_rfl) (by kernel_rfl) (fun _ _ _ h => h) (Or.inl ⟨by rfl, ?_⟩) (by assumption) ?_
      rotate_left
      · (intro w hSw; (try dsimp only at hSw); first | (go_simp; done) | (go_simp; with_reducible rfl))
      simp only [Act.put, List.getElem_toArray, List.getElem_cons_zero, List.getElem_cons_succ, List.setIfInBounds_toArray, List.set_cons_zero, List.set_cons_succ]
      refine wpAnyH_ready (rs := [2]) (by kernel_rfl) (by simp) ?_
      refine AllReadyH.cons rfl (fun K hK => ?_) AllReadyH.nil
      go_simp
      go_wp2_with (go_at_call 17; refine FRE.out.mono ?_; rintro e w13 ⟨rfl, rfl⟩)
      refine hK.out _ _ (KT.out _ (Below.refl _ _).drew) (fun hH1 => ?_)
      clear hK K hHeld
      refine wpAnyH_take (i := 3) (v := ?_) rfl (by kernel_rfl) (by kernel_rfl) (by kernel_rfl) (fun _ _ _ h => h) (Or.inl ⟨by rfl, ?_⟩) (by assumption) ?_
      rotate_left
      · (intro w hSw; (try dsimp only at hSw); first | (go_simp; done) | (go_simp; with_reducible rfl))
      simp only [Act.put, List.getElem_toArray, List.getElem_cons_zero, List.getElem_cons_succ, List.setIfInBounds_toArray, List.set_cons_zero, List.set_cons_succ]
      refine wpAnyH_take (i := 4) (v := ?_) rfl (by kernel_rfl) (by kernel_rfl) (by kernel_rfl) (fun _ _ _ h => h) (Or.inl ⟨by rfl, ?_⟩) (by assumption) ?_
      rotate_left
      · (intro w hSw; (try dsimp only at hSw); first | (go_simp; done) | (go_simp; with_reducible rfl))
      simp only [Act.put, List.getElem_toArray, List.getElem_cons_zero, List.getElem_cons_succ, List.setIfInBounds_toArray, List.set_cons_zero, List.set_cons_succ]
      refine wpAnyH_take (i := 5) (v := undef) rfl (by kernel_rfl) (by kernel_rfl) (by kernel_rfl) (fun _ _ _ h => h) (Or.inr ⟨by rfl, rfl⟩) (by assumption) ?_
      simp only [Act.put, List.getElem_toArray, List.getElem_cons_zero, List.getElem_cons_succ, List.setIfInBounds_toArray, List.set_cons_zero, List.set_cons_succ]
      refine wpAnyH_take (i := 6) (v := undef) rfl (by kernel_rfl) (by kernel_rfl) (by kernel_rfl) (fun _ _ _ h => h) (Or.inr ⟨by rfl, rfl⟩) (by assumption) ?_
      simp only [Act.put, List.getElem_toArray, List.getElem_cons_zero, List.getElem_cons_succ, List.setIfInBounds_toArray, List.set_cons_zero, List.set_cons_succ]
      refine wpAnyH_take (i := 7) (v := undef) rfl (by kernel_rfl) (by kernel_rfl) (by kernel_rfl) (fun _ _ _ h => h) (Or.inr ⟨by rfl, rfl⟩) (by assumption) ?_
      simp only [Act.put, List.getElem_toArray, List.getElem_cons_zero, List.getElem_cons_succ, List.setIfInBounds_toArray, List.set_cons_zero, List.set_cons_succ]
      refine wpAnyH_take (i := 8) (v := ?_) rfl (by kernel_rfl) (by kernel_rfl) (by kernel_rfl) (fun _ _ _ h => h) (Or.inl ⟨by rfl, ?_⟩) (by assumption) ?_
      rotate_left
      · (intro w hSw; (try dsimp only at hSw); first | (go_simp; done) | (go_simp; with_reducible rfl))
      simp only [Act.put, List.getElem_toArray, List.getElem_cons_zero, List.getElem_cons_succ, List.setIfInBounds_toArray, List.set_cons_zero, List.set_cons_succ]
      refine wpAnyH_take (i := 9) (v := ?_) rfl (by kernel_rfl) (by kernel_rfl) (by kernel_rfl) (fun _ _ _ h => h) (Or.inl ⟨by rfl, ?_⟩) (by assumption) ?_
      rotate_left
      · (intro w hSw; (try dsimp only at hSw); first | (go_simp; done) | (go_simp; with_reducible rfl))
      simp only [Act.put, List.getElem_toArray, List.getElem_cons_zero, List.getElem_cons_succ, List.setIfInBounds_toArray, List.set_cons_zero, List.set_cons_succ]
      refine wpAnyH_ready (rs := [10]) (by kernel_rfl) (by simp) ?_
      refine AllReadyH.cons rfl (fun K hK => ?_) AllReadyH.nil
      go_simp
      go_wp2_with (go_at_call 8; refine AW.out.mono ?_; rintro e w15 ⟨rfl, hb15⟩)
      have B15 := Lib.hid (show Below W.heap.size W w15 from up (Below.refl _ _).drew hb15 (Nat.le_refl _))
      refine hK.out _ _ (KT.out _ B15.out) (fun hH3 => ?_)
      clear hK K hH1 hb15
      refine wpAnyH_take (i := 11) (v := ?_) rfl (by kernel_rfl) (by kernel_rfl) (by kernel_rfl) (fun _ _ _ h => h) (Or.inl ⟨by rfl, ?_⟩) (by assumption) ?_
      rotate_left
      · (intro w hSw; (try dsimp only at hSw); first | (go_simp; done) | (go_simp; with_reducible rfl))
      simp only [Act.put, List.getElem_toArray, List.getElem_cons_zero, List.getElem_cons_succ, List.setIfInBounds_toArray, List.set_cons_zero, List.set_cons_succ]
      have BZ := Lib.hid (up HB.out B15.out HB.out.size)
      have BE := Lib.hid (BR.out.below (up B5.out BZ.out B5.out.size) BR.out.lt)
      have d0 := BE.out.cell 0
      have f0 := BE.out.free 0
      have G0 := Lib.hid ((BE.out.put 0 (.bool true)).cell 0)
      have HQ := Lib.hid ((up B0.out B15.out B0.out.size).setCell (p := ⟨w.heap.size + 1, 0, none⟩) (by show w.heap.size ≤ w.heap.size + 1; omega) (.bool true))
      have hDlt : D < W.heap.size := (Array.getElem?_eq_some_iff.1 KK.out).1
      have KD := Lib.hid ((KeepsOthers.setCell w15 ⟨w.heap.size + 1, 0, none⟩ (.bool true)).same D _ ((B15.out.block D hDlt).trans KK.out) rfl)
      have s1 := SZ.out
      have A1 := Lib.hid ((World.cell?_setCell_far w15 ⟨w.heap.size + 1, 0, none⟩ ⟨w6.heap.size + 1, 0, none⟩ (.bool true) (by show w.heap.size + 1 ≠ w6.heap.size + 1; omega)).trans (KT.out _ B15.out).1)
      have A2 := Lib.hid ((World.cell?_setCell_far w15 ⟨w.heap.size + 1, 0, none⟩ ⟨w.heap.size, 0, none⟩ (.bool true) (by show w.heap.size + 1 ≠ w.heap.size; omega)).trans (KT.out _ B15.out).2)
      have DW := Lib.hid (show w.heap.size ≤ D by have := HD.out; have := M8.out.size; omega)
      clear s1
      refine wpAnyH_ready (rs := [12]) (by kernel_rfl) (by simp) ?_
      refine AllReadyH.cons rfl (fun K hK => ?_) AllReadyH.nil
      go_simp
      refine hK.out _ _ ⟨A1.out, A2.out⟩ (fun hH4 => ?_)
      clear hK K hH3
      refine wpAnyH_done (by kernel_rfl) ?_ _
      clear hH4 d0 f0
      go_wp2_with fail
      refine ⟨by simp, .inl ⟨_, _, rfl, run_takeDeferred KD.out, ?_⟩⟩
      have hc5 := cell_kept G0.out (grownBy_putObj' _ D (.deferred none)) (fun r e => by cases e; exact ⟨_, KD.out, rfl⟩)
      refine ⟨.bool true, ?_, rfl, HQ.out.trans (belowK_b (w := w) (Nat.le_refl _) _ D _ _ DW.out KD.out rfl rfl)⟩
      simp [results, Tryd.f4, go_sem, hc5]
    case stop =>
      rintro D c pre W hD ⟨k2, hk2, hpre⟩ (⟨rfl, hne⟩ | ⟨rfl, hbm, hb⟩) hK
      · exact absurd (show pre = (fr x).take pre.length by rw [hpre, List.length_take, Nat.min_eq_left hk2]) hne
      refine wpIn_wide.2 ?_
      by_cases hzc : z = ((x.count true : Nat) : Int)
      · rw [hzc] at hbm
        have HBM := Lib.hid hbm
        have HB := Lib.hid hb
        have KK := Lib.hid hK
        have HD := Lib.hid hD
        have KT := Lib.hid (fun ws (h : Below W.heap.size W ws) => (show ws.cell? ⟨w6.heap.size + 1, 0, none⟩ = some (.int .i64 (x.count true : Nat)) ∧ ws.cell? ⟨w.heap.size, 0, none⟩ = some (.int .i64 z) from ⟨(HBM.out.below h HBM.out.lt).cell 0, (KX.out _ (up HB.out h HB.out.size)).2.1⟩))
        have FRE := Lib.hid (free_any _ _ Wd cw x W.drew (P6.out.below HB.out.drew))
        have B0 := Lib.hid (up H2.out (up B5.out HB.out B5.out.size) H2.out.size)
        have AW := Lib.hid (AWG.out W.drew B0.out.drew)
        clear hbm hb hK hD
        clear hzc
        go_wp2
        refine wp_region_held_drew (S := (fun ws => ws.cell? ⟨w6.heap.size + 1, 0, none⟩ = some (.int .i64 (x.count true : Nat)) ∧ ws.cell? ⟨w.heap.size, 0, none⟩ = some (.int .i64 z))) (by kernel_rfl) (KT.out _ (Below.refl _ _).drew) (fun hHeld => ?_)
        refine wpAnyH_take (i := 0) (v := ?_) rfl (by kernel_rfl) (by kernel_rfl) (by kernel_rfl) (fun _ _ _ h => h) (Or.inl ⟨by rfl, ?_⟩) (by assumption) ?_
        rotate_left
        · (intro w hSw; (try dsimp only at hSw); first | (go_simp; done) | (go_simp; with_reducible rfl))
        simp only [Act.put, List.getElem_toArray, List.getElem_cons_zero, List.getElem_cons_succ, List.setIfInBounds_toArray, List.set_cons_zero, List.set_cons_succ]
        refine wpAnyH_take (i := 1) (v := ?_) rfl (by kernel_rfl) (by kernel_rfl) (by kernel_rfl) (fun _ _ _ h => h) (Or.inl ⟨by rfl, ?_⟩) (by assumption) ?_
        rotate_left
        · (intro w hSw; (try dsimp only at hSw); first | (go_simp; done) | (go_simp; with_reducible rfl))
        simp only [Act.put, List.getElem_toArray, List.getElem_cons_zero, List.getElem_cons_succ, List.setIfInBounds_toArray, List.set_cons_zero, List.set_cons_succ]
        refine wpAnyH_ready (rs := [2]) (by kernel_rfl) (by simp) ?_
        refine AllReadyH.cons rfl (fun K hK => ?_) AllReadyH.nil
        go_simp
        go_wp2_with (go_at_call 17; refine FRE.out.mono ?_; rintro e w13 ⟨rfl, rfl⟩)
        refine hK.out _ _ (KT.out _ (Below.refl _ _).drew) (fun hH1 => ?_)
        clear hK K hHeld
        refine wpAnyH_take (i := 3) (v := ?_) rfl (by kernel_rfl) (by kernel_rfl) (by kernel_rfl) (fun _ _ _ h => h) (Or.inl ⟨by rfl, ?_⟩) (by assumption) ?_
        rotate_left
        · (intro w hSw; (try dsimp only at hSw); first | (go_simp; done) | (go_simp; with_reducible rfl))
        simp only [Act.put, List.getElem_toArray, List.getElem_cons_zero, List.getElem_cons_succ, List.setIfInBounds_toArray, List.set_cons_zero, List.set_cons_succ]
        refine wpAnyH_take (i := 4) (v := ?_) rfl (by kernel_rfl) (by kernel_rfl) (by kernel_rfl) (fun _ _ _ h => h) (Or.inl ⟨by rfl, ?_⟩) (by assumption) ?_
        rotate_left
        · (intro w hSw; (try dsimp only at hSw); first | (go_simp; done) | (go_simp; with_reducible rfl))
        simp only [Act.put, List.getElem_toArray, List.getElem_cons_zero, List.getElem_cons_succ, List.setIfInBounds_toArray, List.set_cons_zero, List.set_cons_succ]
        refine wpAnyH_take (i := 5) (v := undef) rfl (by kernel_rfl) (by kernel_rfl) (by kernel_rfl) (fun _ _ _ h => h) (Or.inr ⟨by rfl, rfl⟩) (by assumption) ?_
        simp only [Act.put, List.getElem_toArray, List.getElem_cons_zero, List.getElem_cons_succ, List.setIfInBounds_toArray, List.set_cons_zero, List.set_cons_succ]
        refine wpAnyH_take (i := 6) (v := undef) rfl (by kernel_rfl) (by kernel_rfl) (by kernel_rfl) (fun _ _ _ h => h) (Or.inr ⟨by rfl, rfl⟩) (by assumption) ?_
        simp only [Act.put, List.getElem_toArray, List.getElem_cons_zero, List.getElem_cons_succ, List.setIfInBounds_toArray, List.set_cons_zero, List.set_cons_succ]
        refine wpAnyH_take (i := 7) (v := undef) rfl (by kernel_rfl) (by kernel_rfl) (by kernel_rfl) (fun _ _ _ h => h) (Or.inr ⟨by rfl, rfl⟩) (by assumption) ?_
        simp only [Act.put, List.getElem_toArray, List.getElem_cons_zero, List.getElem_cons_succ, List.setIfInBounds_toArray, List.set_cons_zero, List.set_cons_succ]
        refine wpAnyH_take (i := 8) (v := ?_) rfl (by kernel_rfl) (by kernel_rfl) (by kernel_rfl) (fun _ _ _ h => h) (Or.inl ⟨by rfl, ?_⟩) (by assumption) ?_
        rotate_left
        · (intro w hSw; (try dsimp only at hSw); first | (go_simp; done) | (go_simp; with_reducible rfl))
        simp only [Act.put, List.getElem_toArray, List.getElem_cons_zero, List.getElem_cons_succ, List.setIfInBounds_toArray, List.set_cons_zero, List.set_cons_succ]
        refine wpAnyH_take (i := 9) (v := ?_) rfl (by kernel_rfl) (by kernel_rfl) (by kernel_rfl) (fun _ _ _ h => h) (Or.inl ⟨by rfl, ?_⟩) (by assumption) ?_
        rotate_left
        · (intro w hSw; (try dsimp only at hSw); first | (go_simp; done) | (go_simp; with_reducible rfl))
        simp only [Act.put, List.getElem_toArray, List.getElem_cons_zero, List.getElem_cons_succ, List.setIfInBounds_toArray, List.set_cons_zero, List.set_cons_succ]
        refine wpAnyH_ready (rs := [10]) (by kernel_rfl) (by simp) ?_
        refine AllReadyH.cons rfl (fun K hK => ?_) AllReadyH.nil
        go_simp
        go_wp2_with (go_at_call 8; refine AW.out.mono ?_; rintro e w15 ⟨rfl, hb15⟩)
        have B15 := Lib.hid (show Below W.heap.size W w15 from up (Below.refl _ _).drew hb15 (Nat.le_refl _))
        refine hK.out _ _ (KT.out _ B15.out) (fun hH3 => ?_)
        clear hK K hH1 hb15
        refine wpAnyH_take (i := 11) (v := ?_) rfl (by kernel_rfl) (by kernel_rfl) (by kernel_rfl) (fun _ _ _ h => h) (Or.inl ⟨by rfl, ?_⟩) (by assumption) ?_
        rotate_left
        · (intro w hSw; (try dsimp only at hSw); first | (go_simp; done) | (go_simp; with_reducible rfl))
        simp only [Act.put, List.getElem_toArray, List.getElem_cons_zero, List.getElem_cons_succ, List.setIfInBounds_toArray, List.set_cons_zero, List.set_cons_succ]
        have BZ := Lib.hid (up HB.out B15.out HB.out.size)
        have BE := Lib.hid (BR.out.below (up B5.out BZ.out B5.out.size) BR.out.lt)
        have d0 := BE.out.cell 0
        have f0 := BE.out.free 0
        have G0 := Lib.hid ((BE.out.put 0 (.bool true)).cell 0)
        have HQ := Lib.hid ((up B0.out B15.out B0.out.size).setCell (p := ⟨w.heap.size + 1, 0, none⟩) (by show w.heap.size ≤ w.heap.size + 1; omega) (.bool true))
        have hDlt : D < W.heap.size := (Array.getElem?_eq_some_iff.1 KK.out).1
        have KD := Lib.hid ((KeepsOthers.setCell w15 ⟨w.heap.size + 1, 0, none⟩ (.bool true)).same D _ ((B15.out.block D hDlt).trans KK.out) rfl)
        have s1 := SZ.out
        have A1 := Lib.hid ((World.cell?_setCell_far w15 ⟨w.heap.size + 1, 0, none⟩ ⟨w6.heap.size + 1, 0, none⟩ (.bool true) (by show w.heap.size + 1 ≠ w6.heap.size + 1; omega)).trans (KT.out _ B15.out).1)
        have A2 := Lib.hid ((World.cell?_setCell_far w15 ⟨w.heap.size + 1, 0, none⟩ ⟨w.heap.size, 0, none⟩ (.bool true) (by show w.heap.size + 1 ≠ w.heap.size; omega)).trans (KT.out _ B15.out).2)
        have DW := Lib.hid (show w.heap.size ≤ D by have := HD.out; have := M8.out.size; omega)
        clear s1
        refine wpAnyH_ready (rs := [12]) (by kernel_rfl) (by simp) ?_
        refine AllReadyH.cons rfl (fun K hK => ?_) AllReadyH.nil
        go_simp
        refine hK.out _ _ ⟨A1.out, A2.out⟩ (fun hH4 => ?_)
        clear hK K hH3
        refine wpAnyH_done (by kernel_rfl) ?_ _
        clear hH4 d0 f0
        go_wp2_with fail
        refine ⟨by simp, .inl ⟨_, _, rfl, run_takeDeferred KD.out, ?_⟩⟩
        have hc5 := cell_kept G0.out (grownBy_putObj' _ D (.deferred none)) (fun r e => by cases e; exact ⟨_, KD.out, rfl⟩)
        refine ⟨.bool true, ?_, rfl, HQ.out.trans (belowK_b (w := w) (Nat.le_refl _) _ D _ _ DW.out KD.out rfl rfl)⟩
        simp [results, Tryd.f4, go_sem, hc5]

      · have q1 : (z == ((x.count true : Nat) : Int)) = false := by simpa using hzc
        clear hzc
        have HBM := Lib.hid hbm
        have HB := Lib.hid hb
        have KK := Lib.hid hK
        have HD := Lib.hid hD
        have KT := Lib.hid (fun ws (h : Below W.heap.size W ws) => (show ws.cell? ⟨w6.heap.size + 1, 0, none⟩ = some (.int .i64 z) ∧ ws.cell? ⟨w.heap.size, 0, none⟩ = some (.int .i64 z) from ⟨(HBM.out.below h HBM.out.lt).cell 0, (KX.out _ (up HB.out h HB.out.size)).2.1⟩))
        have FRE := Lib.hid (free_any _ _ Wd cw x W.drew (P6.out.below HB.out.drew))
        have B0 := Lib.hid (up H2.out (up B5.out HB.out B5.out.size) H2.out.size)
        have AW := Lib.hid (AWG.out W.drew B0.out.drew)
        clear hbm hb hK hD
        go_wp2
        refine wp_region_held_drew (S := (fun ws => ws.cell? ⟨w6.heap.size + 1, 0, none⟩ = some (.int .i64 z) ∧ ws.cell? ⟨w.heap.size, 0, none⟩ = some (.int .i64 z))) (by kernel_rfl) (KT.out _ (Below.refl _ _).drew) (fun hHeld => ?_)
        refine wpAnyH_take (i := 0) (v := ?_) rfl (by kernel_rfl) (by kernel_rfl) (by kernel_rfl) (fun _ _ _ h => h) (Or.inl ⟨by rfl, ?_⟩) (by assumption) ?_
        rotate_left
        · (intro w hSw; (try dsimp only at hSw); first | (go_simp; done) | (go_simp; with_reducible rfl))
        simp only [Act.put, List.getElem_toArray, List.getElem_cons_zero, List.getElem_cons_succ, List.setIfInBounds_toArray, List.set_cons_zero, List.set_cons_succ]
        refine wpAnyH_take (i := 1) (v := ?_) rfl (by kernel_rfl) (by kernel_rfl) (by kernel_rfl) (fun _ _ _ h => h) (Or.inl ⟨by rfl, ?_⟩) (by assumption) ?_
        rotate_left
        · (intro w hSw; (try dsimp only at hSw); first | (go_simp; done) | (go_simp; with_reducible rfl))
        simp only [Act.put, List.getElem_toArray, List.getElem_cons_zero, List.getElem_cons_succ, List.setIfInBounds_toArray, List.set_cons_zero, List.set_cons_succ]
        refine wpAnyH_ready (rs := [2]) (by kernel_rfl) (by simp) ?_
        refine AllReadyH.cons rfl (fun K hK => ?_) AllReadyH.nil
        go_simp
        go_wp2_with (go_at_call 17; refine FRE.out.mono ?_; rintro e w13 ⟨rfl, rfl⟩)
        refine hK.out _ _ (KT.out _ (Below.refl _ _).drew) (fun hH1 => ?_)
        clear hK K hHeld
        refine wpAnyH_take (i := 3) (v := ?_) rfl (by kernel_rfl) (by kernel_rfl) (by kernel_rfl) (fun _ _ _ h => h) (Or.inl ⟨by rfl, ?_⟩) (by assumption) ?_
        rotate_left
        · (intro w hSw; (try dsimp only at hSw); first | (go_simp; done) | (go_simp; with_reducible rfl))
        simp only [Act.put, List.getElem_toArray, List.getElem_cons_zero, List.getElem_cons_succ, List.setIfInBounds_toArray, List.set_cons_zero, List.set_cons_succ]
        refine wpAnyH_take (i := 4) (v := ?_) rfl (by kernel_rfl) (by kernel_rfl) (by kernel_rfl) (fun _ _ _ h => h) (Or.inl ⟨by rfl, ?_⟩) (by assumption) ?_
        rotate_left
        · (intro w hSw; (try dsimp only at hSw); first | (go_simp; done) | (go_simp; with_reducible rfl))
        simp only [Act.put, List.getElem_toArray, List.getElem_cons_zero, List.getElem_cons_succ, List.setIfInBounds_toArray, List.set_cons_zero, List.set_cons_succ]
        refine wpAnyH_take (i := 5) (v := ?_) rfl (by kernel_rfl) (by kernel_rfl) (by kernel_rfl) (fun _ _ _ h => h) (Or.inl ⟨by rfl, ?_⟩) (by assumption) ?_
        rotate_left
        · (intro w hSw; (try dsimp only at hSw); first | (go_simp; done) | (go_simp; with_reducible rfl))
        simp only [Act.put, List.getElem_toArray, List.getElem_cons_zero, List.getElem_cons_succ, List.setIfInBounds_toArray, List.set_cons_zero, List.set_cons_succ]
        refine wpAnyH_take (i := 6) (v := ?_) rfl (by kernel_rfl) (by kernel_rfl) (by kernel_rfl) (fun _ _ _ h => h) (Or.inl ⟨by rfl, ?_⟩) (by assumption) ?_
        rotate_left
        · (intro w hSw; (try dsimp only at hSw); first | (go_simp; done) | (go_simp; with_reducible rfl))
        simp only [Act.put, List.getElem_toArray, List.getElem_cons_zero, List.getElem_cons_succ, List.setIfInBounds_toArray, List.set_cons_zero, List.set_cons_succ]
        refine wpAnyH_take (i := 7) (v := ?_) rfl (by kernel_rfl) (by kernel_rfl) (by kernel_rfl) (fun _ _ _ h => h) (Or.inl ⟨by rfl, ?_⟩) (by assumption) ?_
        rotate_left
        · (intro w hSw; (try dsimp only at hSw); first | (go_simp; done) | (go_simp; with_reducible rfl))
        simp only [Act.put, List.getElem_toArray, List.getElem_cons_zero, List.getElem_cons_succ, List.setIfInBounds_toArray, List.set_cons_zero, List.set_cons_succ]
        refine wpAnyH_take (i := 8) (v := ?_) rfl (by kernel_rfl) (by kernel_rfl) (by kernel_rfl) (fun _ _ _ h => h) (Or.inl ⟨by rfl, ?_⟩) (by assumption) ?_
        rotate_left
        · (intro w hSw; (try dsimp only at hSw); first | (go_simp; done) | (go_simp; with_reducible rfl))
        simp only [Act.put, List.getElem_toArray, List.getElem_cons_zero, List.getElem_cons_succ, List.setIfInBounds_toArray, List.set_cons_zero, List.set_cons_succ]
        refine wpAnyH_take (i := 9) (v := ?_) rfl (by kernel_rfl) (by kernel_rfl) (by kernel_rfl) (fun _ _ _ h => h) (Or.inl ⟨by rfl, ?_⟩) (by assumption) ?_
        rotate_left
        · (intro w hSw; (try dsimp only at hSw); first | (go_simp; done) | (go_simp; with_reducible rfl))
        simp only [Act.put, List.getElem_toArray, List.getElem_cons_zero, List.getElem_cons_succ, List.setIfInBounds_toArray, List.set_cons_zero, List.set_cons_succ]
        refine wpAnyH_ready (rs := [10]) (by kernel_rfl) (by simp) ?_
        refine AllReadyH.cons rfl (fun K hK => ?_) AllReadyH.nil
        go_simp
        go_wp2_with (go_at_call 8; refine AW.out.mono ?_; rintro e w15 ⟨rfl, hb15⟩)
        have B15 := Lib.hid (show Below W.heap.size W w15 from up (Below.refl _ _).drew hb15 (Nat.le_refl _))
        refine hK.out _ _ (KT.out _ B15.out) (fun hH3 => ?_)
        clear hK K hH1 hb15
        refine wpAnyH_take (i := 11) (v := ?_) rfl (by kernel_rfl) (by kernel_rfl) (by kernel_rfl) (fun _ _ _ h => h) (Or.inl ⟨by rfl, ?_⟩) (by assumption) ?_
        rotate_left
        · (intro w hSw; (try dsimp only at hSw); first | (go_simp; done) | (go_simp; with_reducible rfl))
        simp only [Act.put, List.getElem_toArray, List.getElem_cons_zero, List.getElem_cons_succ, List.setIfInBounds_toArray, List.set_cons_zero, List.set_cons_succ]
        have BZ := Lib.hid (up HB.out B15.out HB.out.size)
        have BE := Lib.hid (BR.out.below (up B5.out BZ.out B5.out.size) BR.out.lt)
        have d0 := BE.out.cell 0
        have f0 := BE.out.free 0
        have G0 := Lib.hid ((BE.out.put 0 (.bool true)).cell 0)
        have HQ := Lib.hid ((up B0.out B15.out B0.out.size).setCell (p := ⟨w.heap.size + 1, 0, none⟩) (by show w.heap.size ≤ w.heap.size + 1; omega) (.bool true))
        have hDlt : D < W.heap.size := (Array.getElem?_eq_some_iff.1 KK.out).1
        have KD := Lib.hid ((KeepsOthers.setCell w15 ⟨w.heap.size + 1, 0, none⟩ (.bool true)).same D _ ((B15.out.block D hDlt).trans KK.out) rfl)
        have s1 := SZ.out
        have A1 := Lib.hid ((World.cell?_setCell_far w15 ⟨w.heap.size + 1, 0, none⟩ ⟨w6.heap.size + 1, 0, none⟩ (.bool true) (by show w.heap.size + 1 ≠ w6.heap.size + 1; omega)).trans (KT.out _ B15.out).1)
        have A2 := Lib.hid ((World.cell?_setCell_far w15 ⟨w.heap.size + 1, 0, none⟩ ⟨w.heap.size, 0, none⟩ (.bool true) (by show w.heap.size + 1 ≠ w.heap.size; omega)).trans (KT.out _ B15.out).2)
        have DW := Lib.hid (show w.heap.size ≤ D by have := HD.out; have := M8.out.size; omega)
        clear s1
        refine wpAnyH_ready (rs := [12]) (by kernel_rfl) (by simp) ?_
        refine AllReadyH.cons rfl (fun K hK => ?_) AllReadyH.nil
        go_simp
        refine hK.out _ _ ⟨A1.out, A2.out⟩ (fun hH4 => ?_)
        clear hK K hH3
        refine wpAnyH_done (by kernel_rfl) ?_ _
        clear hH4 d0 f0
        go_wp2_with fail
        refine ⟨by simp, .inl ⟨_, _, rfl, run_takeDeferred KD.out, ?_⟩⟩
        have hc5 := cell_kept G0.out (grownBy_putObj' _ D (.deferred none)) (fun r e => by cases e; exact ⟨_, KD.out, rfl⟩)
        refine ⟨.bool true, ?_, rfl, HQ.out.trans (belowK_b (w := w) (Nat.le_refl _) _ D _ _ DW.out KD.out rfl rfl)⟩
        simp [results, Tryd.f4, go_sem, hc5]

end Go.Proofs.YteecebklomeklaaDoor.poolNext
