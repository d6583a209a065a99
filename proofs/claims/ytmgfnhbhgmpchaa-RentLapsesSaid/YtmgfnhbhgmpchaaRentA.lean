/-
  Contracts of package rent: rows by houses, in a map.
-/
import Derived.Test.YtmgfnhbhgmpchaaMk
import Derived.Test.YtmgfnhbhgmpchaaRentG
import Derived.Deep.RegionHeld
namespace Go.Proofs.Ytmgfnhbhgmpchaa.rn
open Go.RowKit
open base (ret_bool ret_int made up Blk Only)
open mk
set_option linter.unusedVariables false
set_option linter.unusedSimpArgs false

theorem asz (w : World) (o : Obj) : (w.alloc o).heap.size = w.heap.size + 1 := by first | exact Array.size_push _ | simp
/-- house, rate, due -/
abbrev R3 := Int × Int × Int
def row (d : R3) : Value := .agg #[.int .i64 d.1, .int .i64 d.2.1, .int .i64 d.2.2]
def gv (m : Int → Option R3) : Int → Option Value := fun n => (m n).map row
open Classical in
noncomputable def set (m : Int → Option R3) (n : Int) (d : Option R3) : Int → Option R3 := fun k => if k = n then d else m k
theorem set_same (m : Int → Option R3) (n : Int) (d : Option R3) : set m n d n = d := if_pos rfl
theorem set_other (m : Int → Option R3) {n k : Int} (d : Option R3) (h : k ≠ n) : set m n d k = m k := if_neg h
theorem gv_set (m : Int → Option R3) (n : Int) (d : Option R3) : upd (gv m) n (d.map row) = gv (set m n d) := by
  funext k
  by_cases e : k = n
  · subst e
    unfold gv
    rw [upd_same, set_same]
  · unfold gv
    rw [upd_other _ _ e, set_other _ _ e]
/-- rents stand at g, their map at b -/
structure RAt (w : World) (g b : Nat) (m : Int → Option R3) (c : Nat) : Prop where
  blk : Blk w g 58 #[.map (some b)]
  map : IMap w Try.prog 3 b (gv m) c
theorem RAt.below {w w' : World} {g b c : Nat} {m : Int → Option R3} (h : RAt w g b m c) (hb : Below w.heap.size w w') : RAt w' g b m c := ⟨h.blk.below hb h.blk.lt, MapIs.below h.map hb (MapIs.lt h.map)⟩
/-- of what there was only the map at b may have turned -/
abbrev Mut (b : Nat) (w w' : World) : Prop := Only (fun k => k = b) w w'
theorem RAt.other {w w' : World} {g b b' c : Nat} {m : Int → Option R3} (h : RAt w g b m c) (ho : Mut b' w w') (hb : b ≠ b') (hg : g ≠ b') : RAt w' g b m c := ⟨h.blk.only ho hg, MapIs.only h.map ho hb⟩
theorem RAt.ne {w : World} {g b c : Nat} {m : Int → Option R3} (h : RAt w g b m c) : b ≠ g := MapIs.ne h.map h.blk
theorem Mut.of_below {b : Nat} {w w' : World} (h : Below w.heap.size w w') : Mut b w w' := (Only.refl _ w).below h (fun i h1 h2 => by omega)
theorem Mut.then_ {b : Nat} {w w1 w2 : World} (h : Mut b w w1) (k : Mut b w1 w2) : Mut b w w2 := h.trans k (fun _ _ q => q)
theorem Mut.to {b B : Nat} {w w' : World} (h : Mut b w w') (hb : B ≤ b) (hB : B ≤ w.heap.size) : Below B w w' := h.to_below (fun i hi e => by omega) hB
theorem law : Maps.Keyed Try.prog 3 := Maps.int_keyed Try.underlying3
theorem zrow (w : World) : (zeroValue 38).run Try.prog w = .ok (.agg #[.int .i64 0, .int .i64 0, .int .i64 0]) w := by first | exact Try.zeroValue38 w | kernel_rfl

def okRate (n : Int) : Bool := decide (1 ≤ n ∧ n ≤ 1099511627776)
def okTick (n : Int) : Bool := decide (0 ≤ n ∧ n ≤ 1099511627776)
def okPer (n : Int) : Bool := decide (1 ≤ n ∧ n ≤ 12)
set_option maxHeartbeats 400000 in
theorem rate_any (n : Int) (w : World) : Calls Try.prog 36 #[.int .i64 n] w fun e w' => e = .returned (.bool (okRate n)) ∧ w = w' := by
  go_enter Try.func36, Try.ntmps36
  go_wp2
  all_goals (go_ret; exact ⟨ret_bool (by simp [okRate]; omega), rfl⟩)
set_option maxHeartbeats 400000 in
theorem tick_any (n : Int) (w : World) : Calls Try.prog 38 #[.int .i64 n] w fun e w' => e = .returned (.bool (okTick n)) ∧ w = w' := by
  go_enter Try.func38, Try.ntmps38
  go_wp2
  all_goals (go_ret; exact ⟨ret_bool (by simp [okTick]; omega), rfl⟩)
set_option maxHeartbeats 400000 in
theorem per_any (n : Int) (w : World) : Calls Try.prog 31 #[.int .i64 n] w fun e w' => e = .returned (.bool (okPer n)) ∧ w = w' := by
  go_enter Try.func31, Try.ntmps31
  go_wp2
  all_goals (go_ret; exact ⟨ret_bool (by simp [okPer]; omega), rfl⟩)
set_option maxHeartbeats 400000 in
theorem new_any (w : World) : Calls Try.prog 8 #[] w fun e w' => e = .returned (.pointer (some ⟨w.heap.size + 1, 0, none⟩)) ∧ RAt w' (w.heap.size + 1) w.heap.size (fun _ => none) 0 ∧ Below w.heap.size w w' := by
  have hmm := @run_makeMap Try.prog
  have h1 := made w (.map #[] 0)
  have h2 := Lib.hid (h1.alloc (o := .cells #[.map (some w.heap.size)] 58) (by rw [asz]; omega))
  have bx := Blk.new (w.alloc (.map #[] 0)) 58 #[.map (some w.heap.size)]
  rw [asz] at bx
  have mm := (IMap.made (P := Try.prog) (k := 3) w).alloc (.cells #[.map (some w.heap.size)] 58)
  have RA := Lib.hid (show RAt ((w.alloc (.map #[] 0)).alloc (.cells #[.map (some w.heap.size)] 58)) (w.heap.size + 1) w.heap.size (fun _ => none) 0 from ⟨bx, mm⟩)
  clear h1 bx mm
  go_enter Try.func8, Try.ntmps8
  go_wp2_with fail
  go_ret
  exact ⟨rfl, RA.out, h2.out⟩
def GetP (o : Option R3) (w : World) (e : Ending) (w' : World) : Prop :=
  e = .returned (.tuple #[row (o.getD (0, 0, 0)), .int .i64 (if o.isSome then 0 else 14)]) ∧ Below w.heap.size w w'
set_option maxRecDepth 100000 in
set_option maxHeartbeats 2000000 in
theorem get_any (g b c : Nat) (m : Int → Option R3) (n : Int) (w : World) (h : RAt w g b m c) (hw : (Lit.int .i64 n).wf = true) :
    Calls Try.prog 15 #[.pointer (some ⟨g, 0, none⟩), .int .i64 n] w (GetP (m n) w) := by
  have hm := made w (.cells #[.int .i64 0, .int .i64 0, .int .i64 0] 38)
  have BZ := Lib.hid (Blk.new w 38 #[.int .i64 0, .int .i64 0, .int .i64 0])
  have B1 := Lib.hid hm
  obtain ⟨hb, hmap⟩ := h
  have HB := Lib.hid (hb.below hm hb.lt)
  have LK := Lib.hid (IMap.look_ok (MapIs.below hmap hm (MapIs.lt hmap)) (t := 56) Try.underlying3 Try.underlying56 (zrow _) hw)
  have NE := Lib.hid (show g ≠ w.heap.size by have := hb.lt; omega)
  clear hb hmap hm hw
  go_enter Try.func15, Try.ntmps15
  go_upto_region 1 with fail
  generalize w.alloc (.cells #[.int .i64 0, .int .i64 0, .int .i64 0] 38) = w1 at *
  have c0 := HB.out.cell 0
  have gm : gv m n = (m n).map row := rfl
  rw [gm] at LK
  clear gm
  generalize m n = o at *
  cases o with
  | none =>
    have lk : (Instr.lookup 56 (.map (some b)) (.int .i64 n) true).run Try.prog w1 = .ok (.tuple #[(.agg #[.int .i64 0, .int .i64 0, .int .i64 0]), .bool false]) w1 := LK.out
    have hm := made w1 (.cells #[.int .i64 0, .int .i64 0, .int .i64 0] 38)
    have B2 := Lib.hid (up B1.out hm B1.out.size)
    have BZ2 := Lib.hid (BZ.out.below hm BZ.out.lt)
    have BD2 := Lib.hid (Blk.new w1 38 #[.int .i64 0, .int .i64 0, .int .i64 0])
    clear hm
    go_upto_region 2 with fail
    generalize w1.alloc (.cells #[.int .i64 0, .int .i64 0, .int .i64 0] 38) = w2 at *
    clear lk c0
    have x0 := BD2.out.cell 0
    have x1 := BD2.out.cell 1
    have x2 := BD2.out.cell 2
    have z0 := BZ2.out.cell 0
    have z1 := BZ2.out.cell 1
    have z2 := BZ2.out.cell 2
    have f0 := BZ2.out.free 0
    have f1 := BZ2.out.free 1
    have f2 := BZ2.out.free 2
    go_wp2_with fail
    have K := ((BZ2.out.put 0 (.int .i64 0)).put 1 (.int .i64 0)).put 2 (.int .i64 0)
    have k0 := K.cell 0
    have k1 := K.cell 1
    have k2 := K.cell 2
    simp at k0 k1 k2
    refine bodyPost_ret (v := .tuple #[.agg #[.int .i64 0, .int .i64 0, .int .i64 0], .int .i64 14]) (by simp [results, Try.results15, go_sem, k0, k1, k2]) rfl ?_
    exact ⟨rfl, ((B2.out.setCell (p := ⟨w.heap.size, 0, none⟩) (Nat.le_refl _) _).setCell (p := ⟨w.heap.size, 1, none⟩) (Nat.le_refl _) _).setCell (p := ⟨w.heap.size, 2, none⟩) (Nat.le_refl _) _⟩
  | some d =>
    obtain ⟨d0, d1, d2⟩ := d
    have lk : (Instr.lookup 56 (.map (some b)) (.int .i64 n) true).run Try.prog w1 = .ok (.tuple #[(.agg #[.int .i64 d0, .int .i64 d1, .int .i64 d2]), .bool true]) w1 := LK.out
    have hm := made w1 (.cells #[.int .i64 d0, .int .i64 d1, .int .i64 d2] 38)
    have B2 := Lib.hid (up B1.out hm B1.out.size)
    have BZ2 := Lib.hid (BZ.out.below hm BZ.out.lt)
    have BD2 := Lib.hid (Blk.new w1 38 #[.int .i64 d0, .int .i64 d1, .int .i64 d2])
    clear hm
    go_upto_region 2 with fail
    generalize w1.alloc (.cells #[.int .i64 d0, .int .i64 d1, .int .i64 d2] 38) = w2 at *
    clear lk c0
    have x0 := BD2.out.cell 0
    have x1 := BD2.out.cell 1
    have x2 := BD2.out.cell 2
    have z0 := BZ2.out.cell 0
    have z1 := BZ2.out.cell 1
    have z2 := BZ2.out.cell 2
    have f0 := BZ2.out.free 0
    have f1 := BZ2.out.free 1
    have f2 := BZ2.out.free 2
    go_wp2_with fail
    have K := ((BZ2.out.put 0 (.int .i64 d0)).put 1 (.int .i64 d1)).put 2 (.int .i64 d2)
    have k0 := K.cell 0
    have k1 := K.cell 1
    have k2 := K.cell 2
    simp at k0 k1 k2
    refine bodyPost_ret (v := .tuple #[.agg #[.int .i64 d0, .int .i64 d1, .int .i64 d2], .int .i64 0]) (by simp [results, Try.results15, go_sem, k0, k1, k2]) rfl ?_
    exact ⟨rfl, ((B2.out.setCell (p := ⟨w.heap.size, 0, none⟩) (Nat.le_refl _) _).setCell (p := ⟨w.heap.size, 1, none⟩) (Nat.le_refl _) _).setCell (p := ⟨w.heap.size, 2, none⟩) (Nat.le_refl _) _⟩
def addErr (m : Int → Option R3) (n r t : Int) : Int := if n < 1 then 10 else if okRate r = false ∨ okTick t = false then 11 else if (m n).isSome then 13 else 0
def ErrP (g b : Nat) (m : Int → Option R3) (c : Nat) (er : Int) (w : World) (e : Ending) (w' : World) : Prop := e = .returned (.int .i64 er) ∧ RAt w' g b m c ∧ Mut b w w'
set_option maxRecDepth 100000 in
set_option maxHeartbeats 2000000 in
theorem add_no (g b c : Nat) (m : Int → Option R3) (n r t : Int) (w : World) (h : RAt w g b m c) (hw : (Lit.int .i64 n).wf = true) (he : addErr m n r t ≠ 0) :
    Calls Try.prog 23 #[.pointer (some ⟨g, 0, none⟩), .int .i64 n, .int .i64 r, .int .i64 t] w (ErrP g b m c (addErr m n r t) w) := by
  have RA := Lib.hid (rate_any r w)
  have TI := Lib.hid (tick_any t w)
  have H := Lib.hid h
  have AE := Lib.hid (show addErr m n r t = if n < 1 then 10 else if okRate r = false ∨ okTick t = false then 11 else if (m n).isSome then 13 else 0 from rfl)
  have HE := Lib.hid he
  generalize addErr m n r t = er at *
  clear h he
  by_cases q1 : n < 1
  · have e1 := AE.out
    rw [if_pos q1] at e1
    subst e1
    go_enter Try.func23, Try.ntmps23
    go_wp2_with fail
    go_ret
    exact ⟨rfl, H.out, Only.refl _ w⟩
  cases q2 : okRate r with
  | false =>
    have e1 := AE.out
    rw [if_neg q1, if_pos (.inl q2)] at e1
    subst e1
    rw [q2] at RA
    go_enter Try.func23, Try.ntmps23
    go_wp2_with fail
    refine RA.out.mono ?_
    rintro e w1 ⟨rfl, rfl⟩
    go_wp2_with fail
    go_ret
    exact ⟨rfl, H.out, Only.refl _ w⟩
  | true =>
  rw [q2] at RA
  cases q3 : okTick t with
  | false =>
    have e1 := AE.out
    rw [if_neg q1, if_pos (.inr q3)] at e1
    subst e1
    rw [q3] at TI
    go_enter Try.func23, Try.ntmps23
    go_wp2_with fail
    refine RA.out.mono ?_
    rintro e w1 ⟨rfl, rfl⟩
    go_wp2_with fail
    refine TI.out.mono ?_
    rintro e w1 ⟨rfl, rfl⟩
    go_wp2_with fail
    go_ret
    exact ⟨rfl, H.out, Only.refl _ w⟩
  | true =>
  rw [q3] at TI
  have e1 := AE.out
  rw [if_neg q1, if_neg (by rw [q2, q3]; simp)] at e1
  cases ho : m n with
  | none =>
    rw [ho] at e1
    exact absurd e1 HE.out
  | some d =>
    rw [ho] at e1
    have e2 : er = 13 := e1
    clear e1
    subst e2
    have lk0 := IMap.look_ok (t := 56) H.out.map Try.underlying3 Try.underlying56 (zrow _) hw
    rw [show gv m n = some (row d) from by unfold gv; rw [ho]; rfl] at lk0
    obtain ⟨d0, d1, d2⟩ := d
    have lk : (Instr.lookup 56 (.map (some b)) (.int .i64 n) true).run Try.prog w = .ok (.tuple #[(.agg #[.int .i64 d0, .int .i64 d1, .int .i64 d2]), .bool true]) w := lk0
    have c0 := H.out.blk.cell 0
    have hm := made w (.cells #[.int .i64 d0, .int .i64 d1, .int .i64 d2] 38)
    have HR := Lib.hid (H.out.below hm)
    have MU := Lib.hid (Mut.of_below (b := b) hm)
    clear lk0 hm ho hw
    go_enter Try.func23, Try.ntmps23
    go_wp2_with fail
    refine RA.out.mono ?_
    rintro e w1 ⟨rfl, rfl⟩
    go_wp2_with fail
    refine TI.out.mono ?_
    rintro e w1 ⟨rfl, rfl⟩
    go_wp2_with fail
    go_ret
    exact ⟨rfl, HR.out, MU.out⟩
set_option maxRecDepth 100000 in
set_option maxHeartbeats 2000000 in
theorem add_yes (g b c : Nat) (m : Int → Option R3) (n r t : Int) (w : World) (h : RAt w g b m c) (hw : (Lit.int .i64 n).wf = true) (he : addErr m n r t = 0) (hc : c < 1000000) :
    Calls Try.prog 23 #[.pointer (some ⟨g, 0, none⟩), .int .i64 n, .int .i64 r, .int .i64 t] w (ErrP g b (set m n (some (n, r, t + 100))) (c + 1) 0 w) := by
  unfold addErr at he
  split at he
  · exact absurd he (by decide)
  rename_i q1
  split at he
  · exact absurd he (by decide)
  rename_i q2
  split at he
  · exact absurd he (by decide)
  rename_i q3
  have q4 : okRate r = true := by
    cases q : okRate r with
    | true => rfl
    | false => exact absurd (.inl q) q2
  have q5 : okTick t = true := by
    cases q : okTick t with
    | true => rfl
    | false => exact absurd (.inr q) q2
  have ho : m n = none := by
    cases q : m n with
    | none => rfl
    | some d => exact absurd (by rw [q]; rfl) q3
  have qt : 0 ≤ t ∧ t ≤ 1099511627776 := by simpa [okTick] using q5
  obtain ⟨qt0, qt1⟩ := qt
  have RA := Lib.hid (rate_any r w)
  have TI := Lib.hid (tick_any t w)
  rw [q4] at RA
  rw [q5] at TI
  have hm := made w (.cells #[.int .i64 0, .int .i64 0, .int .i64 0] 38)
  have H := Lib.hid h
  have H1 := Lib.hid (h.below hm)
  have M1 := Lib.hid (Mut.of_below (b := b) hm)
  have lk0 := IMap.look_ok (t := 56) h.map Try.underlying3 Try.underlying56 (zrow _) hw
  have hg0 : gv m n = none := by unfold gv; rw [ho]; rfl
  rw [hg0] at lk0
  have lk : (Instr.lookup 56 (.map (some b)) (.int .i64 n) true).run Try.prog w = .ok (.tuple #[.agg #[.int .i64 0, .int .i64 0, .int .i64 0], .bool false]) w := lk0
  obtain ⟨w2, hrun, hmp, hon⟩ := IMap.store (t := 56) H1.out.map Try.underlying3 Try.underlying56 (by unfold maxLen; omega) hw (.agg #[.int .i64 n, .int .i64 r, .int .i64 (t + 100)])
  rw [hg0] at hmp
  have R2 := Lib.hid (show RAt w2 g b (set m n (some (n, r, t + 100))) (c + 1) from ⟨H1.out.blk.only hon (fun e => H1.out.ne e.symm), by
    have := gv_set m n (some (n, r, t + 100))
    rw [← this]
    exact hmp⟩)
  have M2 := Lib.hid (M1.out.then_ hon)
  have c0 := h.blk.cell 0
  have c1 := H1.out.blk.cell 0
  have q1b : decide (n < 1) = false := by simpa using q1
  clear q1 q2 q3 q4 q5 ho hg0 lk0 hmp hon he hw h hm
  go_enter Try.func23, Try.ntmps23
  go_wp2_with fail
  refine RA.out.mono ?_
  rintro e w1 ⟨rfl, rfl⟩
  go_wp2_with fail
  refine TI.out.mono ?_
  rintro e w1 ⟨rfl, rfl⟩
  go_wp2_with fail
  go_ret
  exact ⟨rfl, R2.out, M2.out⟩
end Go.Proofs.Ytmgfnhbhgmpchaa.rn
