/-
  PoolParses (P7.3): for every number, every list of calls and all bytes the law answers true, the table of the library being what its text lays. Conditions: none.
-/
import Derived.Test.YteecebklomeklaaDoorPpG
import Derived.Test.YteecebklomeklaaDoorStructs
import Derived.Test.YteecebklomeklaaDoorBase2
import Derived.Test.YteecebklomeklaaDoorCards
import Derived.Test.YteecebklomeklaaDoorTie
import Derived.Deep.DeepHandedRow
import Derived.Lib.LaidTab
namespace Go.Proofs.YteecebklomeklaaDoor.poolParses
open Go.ChangeShapes Go.WideShapes Go.ChangeAt Go.RowKit
open po pnum
open base (ret_bool ret_int made up Blk Only Nums IntRows)
open bytes (Lay Small small_at conv_any str)
set_option linter.unusedVariables false
set_option linter.unusedSimpArgs false

theorem gTab : Tryd.prog.globalNamed "math/bits.deBruijn64tab" = some 0 := by kernel_rfl
theorem gTabType : (Tryd.prog.globals[0]?).map (·.type) = some 71 := by kernel_rfl
theorem cells64 : Tryd.prog.cellsOf 71 = 64 := by kernel_rfl
theorem cells1 : Tryd.prog.cellsOf 5 = 1 := by kernel_rfl
theorem table {W : World} (h : laidMetH Tryd.prog Rows.poolParsesRow.laid W) : Lib.TabIs Tryd.prog W "math/bits.deBruijn64tab" .u8 [0, 1, 56, 2, 57, 49, 28, 3, 61, 58, 42, 50, 38, 29, 17, 4, 62, 47, 59, 36, 45, 43, 51, 22, 53, 39, 33, 30, 24, 18, 12, 5, 63, 55, 48, 27, 60, 41, 37, 16, 46, 35, 44, 21, 52, 32, 23, 11, 54, 26, 40, 15, 34, 20, 31, 10, 25, 14, 19, 9, 13, 8, 7, 6] :=
  Lib.tabIs_of_head (rest := []) gTab gTabType Tryd.underlying71 Tryd.underlying5 cells1 cells64 h
theorem tableOf {W : World} (h : laidMetH Tryd.prog Rows.poolParsesRow.laid W) : Tab W := by
  have c : ∀ k, k < 64 → W.cell? ⟨0, k, none⟩ = some (.int .u8 (Lib.deBruijn64tab.getD k 0 : Nat)) := by
    intro k hk
    have := (table h).cell gTab k (by simpa using hk)
    rw [this]
    have h2 : ∀ k : Fin 64, ([0, 1, 56, 2, 57, 49, 28, 3, 61, 58, 42, 50, 38, 29, 17, 4, 62, 47, 59, 36, 45, 43, 51, 22, 53, 39, 33, 30, 24, 18, 12, 5, 63, 55, 48, 27, 60, 41, 37, 16, 46, 35, 44, 21, 52, 32, 23, 11, 54, 26, 40, 15, 34, 20, 31, 10, 25, 14, 19, 9, 13, 8, 7, 6] : List Int).getD k.1 0 = (Lib.deBruijn64tab.getD k.1 0 : Nat) := by decide +kernel
    have h3 := h2 ⟨k, hk⟩
    rw [← h3]
  exact ⟨World.block_lt_of_cell? W _ (c 0 (by omega)), c⟩

def PX (w : World) (x : List Bool) (Ax : Option Addr) (W : World) : Prop := Up w (w.heap.size + 1) w.heap.size x W ∧ Ro w (w.heap.size + 1) w.heap.size Ax x W
theorem PX.below {w W W' : World} {x : List Bool} {Ax : Option Addr} (h : PX w x Ax W) (hb : Below W.heap.size W W') : PX w x Ax W' := ⟨h.1.below' hb, h.2.below hb⟩
theorem PX.only {S : Nat → Prop} {w W W' : World} {x : List Bool} {Ax : Option Addr} (h : PX w x Ax W) {B : Nat} (ho : Only S W W') (hs : ∀ k, S k → B ≤ k) (h0 : 0 < w.heap.size) (hB : w.heap.size + 1 < B) (hx : 0 < x.length → ∀ gx, Ax = some ⟨gx, 0, none⟩ → gx < B) : PX w x Ax W' := by
  obtain ⟨⟨⟨Wd, c, hp⟩, hb, ht, hg⟩, hr⟩ := h
  have hn : ∀ k, k < B → ¬ S k := fun k hk q => by have := hs k q; omega
  obtain ⟨cs, hrw, hc⟩ := hp.row
  refine ⟨⟨⟨Wd, c, hp.blk.only ho (hn _ (by omega)), ⟨cs, hrw.only ho (hn _ (by omega)), hc⟩, hp.bits, hp.le, hp.mx, hp.small, hp.pos⟩, hb.trans (Only.to_below ho (fun i hi => hn i (by omega)) hb.size), ht.only ho (hn 0 (by omega)), hg⟩, fun h1 => ?_⟩
  obtain ⟨gx, e, hr1, hr2⟩ := hr h1
  exact ⟨gx, e, hr1.only ho (hn gx (hx h1 gx e)), hr2⟩
/-- what the law reckons: do bytes not tell a pool? -/
def wk (b : List Nat) (n k : Nat) : Bool := (b.length != (n + 7) / 8) || (List.range k).any (fun i => decide (n ≤ i) && bitB b i)
theorem wk_next (b : List Nat) (n k : Nat) : wk b n (k + 1) = (wk b n k || (decide (n ≤ k) && bitB b k)) := by
  unfold wk
  rw [List.range_succ, List.any_append]
  simp [Bool.or_assoc]
theorem wk_end {b : List Nat} {n : Nat} (h : ¬ pok b n) : wk b n (8 * b.length) = true := by
  unfold wk
  by_cases hl : b.length = (n + 7) / 8
  · rw [Bool.or_eq_true]
    refine .inr ?_
    rw [List.any_eq_true]
    have : ¬ ∀ i, n ≤ i → bitB b i = false := fun q => h ⟨hl, q⟩
    obtain ⟨i, hi⟩ := Classical.not_forall.1 this
    obtain ⟨h1, h2⟩ := Classical.not_imp.1 hi
    have h2 : bitB b i = true := by cases q : bitB b i <;> simp_all
    refine ⟨i, List.mem_range.2 (Classical.not_not.1 fun q => ?_), by rw [decide_eq_true h1, h2]; rfl⟩
    rw [bit_out (by omega)] at h2
    cases h2
  · rw [Bool.or_eq_true]
    exact .inl (by simpa using hl)
theorem bit_and (v r : Nat) (hv : v < 256) (hr : r < 8) : bits .and .u8 ((v : Int) / 2 ^ r) 1 = if v.testBit r then 1 else 0 := by
  have e : (v : Int) / 2 ^ r = ((v / 2 ^ r : Nat) : Int) := by simp
  rw [e]
  have hlt : v / 2 ^ r < 256 := Nat.lt_of_le_of_lt (Nat.div_le_self _ _) hv
  have h1 : bits .and .u8 ((v / 2 ^ r : Nat) : Int) 1 = ((v / 2 ^ r &&& 1 : Nat) : Int) := by
    have hx : v / 2 ^ r &&& 1 ≤ 1 := Nat.and_le_right
    show IntKind.u8.wrap ((BitVec.ofInt 8 ((v / 2 ^ r : Nat) : Int) &&& BitVec.ofInt 8 ((1 : Nat) : Int)).toNat : Int) = _
    rw [BitVec.toNat_and, BitVec.ofInt_natCast, BitVec.ofInt_natCast, BitVec.toNat_ofNat, BitVec.toNat_ofNat, Nat.mod_eq_of_lt (by omega), Nat.mod_eq_of_lt (by omega), IntKind.wrap_u8]
    omega
  rw [h1, Nat.and_one_is_mod]
  have h2 : v.testBit r = decide (v / 2 ^ r % 2 = 1) := Nat.testBit_eq_decide_div_mod_eq
  rw [h2]
  by_cases q : v / 2 ^ r % 2 = 1
  · simp [q]
  · have : v / 2 ^ r % 2 = 0 := by omega
    simp [this]
set_option maxRecDepth 100000 in
set_option maxHeartbeats 8000000 in
theorem walk_yes (w : World) (hT : Tab w) (n : Nat) (A : Option Addr) (m c : Nat) (F : Nat → Nat → Int) (h1 : IntRows w A m 2 F) (hn : n ≤ 300) (hl : m ≤ 200) (hc : m ≤ c) (hmx : c ≤ 9223372036854775807) (B : Option Addr) (cb : Nat) (b : List Nat) (hB : Lay w B b) (hsb : Small b) (hbl : b.length ≤ 100) :
    Calls Tryd.prog 6 #[.int .i64 n, .slice A m c, .slice B b.length cb] w fun e w' => e = .returned (.bool true) ∧ Below w.heap.size w w' := by
  have PL := Lib.hid (played_yes w hT n A m c F h1 hn hl hc hmx)
  have T0 := Lib.hid hT
  have AWG := Lib.hid (fun ws (hb : Below w.heap.size w ws) => awake_any ws (hT.below hb))
  have LB := Lib.hid (fun ws (hb : Below w.heap.size w ws) => hB.below hb)
  have SB := Lib.hid hsb
  clear hT h1 hB hsb
  go_enter Tryd.func6, Tryd.ntmps6
  go_wp2_with fail
  refine PL.out.mono ?_
  rintro e w3 ⟨x, Ax, cx, rfl, hxl, hu, hr⟩
  subst hxl
  have X3 := Lib.hid (show PX w x Ax w3 from ⟨hu, hr⟩)
  have LTX := Lib.hid (show 0 < x.length → ∀ gx, Ax = some ⟨gx, 0, none⟩ → gx < w3.heap.size from fun h0 gx e => by
    obtain ⟨g', e', hr, -⟩ := hr h0
    rw [e] at e'
    cases e'
    exact hr.lt)
  have G3 := Lib.hid (show w.heap.size + 1 < w3.heap.size from by
    obtain ⟨W, c, hp⟩ := hu.at_
    exact hp.blk.lt)
  have BY := Lib.hid (bytes_of hu)
  unfold BytesP at BY
  clear hu hr PL
  go_wp2_with fail
  refine BY.out.mono ?_
  rintro e w4 ⟨b4, rfl, hl4, hb4⟩
  have X4 := Lib.hid (X3.out.below hb4)
  have PA := Lib.hid (parse_yes (some ⟨b4, 0, none⟩) (rb x).length (rb x) x.length w4 hn (Nat.lt_of_lt_of_le T0.out.1 X4.out.1.below.size) hl4 (rb_small x) (rb_pok x))
  unfold ParseYes at PA
  have G4 := Lib.hid (Nat.lt_of_lt_of_le G3.out hb4.size)
  have S34 := Lib.hid hb4.size
  clear hl4 hb4 BY X3
  go_wp2_with fail
  refine PA.out.mono ?_
  rintro e w5 ⟨W5, c5, rfl, hp5, hb5⟩
  rw [px_rb] at hp5
  have X5 := Lib.hid (X4.out.below hb5)
  have Q5 := Lib.hid hp5
  have S45 := Lib.hid hb5.size
  obtain ⟨Wp, cp, hpp⟩ := X5.out.1.at_
  have CP := Lib.hid (copy_any _ _ Wp cp x w5 hpp)
  unfold CopyP at CP
  clear hp5 hb5 PA X4 hpp
  go_wp2_with fail
  refine CP.out.mono ?_
  rintro e w6 ⟨g2, gw2, W6, c6, rfl, hp6, hg2, hgw2, hb6⟩
  have X6 := Lib.hid (X5.out.below hb6)
  have Q6 := Lib.hid (Q5.out.below hb6)
  have C6 := Lib.hid hp6
  have GC := Lib.hid (And.intro hg2 hgw2)
  have S56 := Lib.hid hb6.size
  obtain ⟨Wp6, cp6, hpp6⟩ := X6.out.1.at_
  have E1 := Lib.hid (pequal_any _ _ _ _ _ _ _ _ _ _ w6 Q6.out hpp6 rfl)
  rw [decide_eq_true (Bits.uniq Q6.out.bits hpp6.bits)] at E1
  unfold EqP at E1
  clear hp6 hg2 hgw2 hb6 CP X5 Q5 hpp6
  go_wp2_with fail
  refine E1.out.mono ?_
  rintro e w7 ⟨rfl, hn7⟩
  have X7 := Lib.hid (X6.out.below hn7.below)
  have C7 := Lib.hid (C6.out.below hn7.below)
  have S67 := Lib.hid hn7.below.size
  obtain ⟨Wp7, cp7, hpp7⟩ := X7.out.1.at_
  have E2 := Lib.hid (pequal_any _ _ _ _ _ _ _ _ _ _ w7 C7.out hpp7 rfl)
  rw [decide_eq_true (Bits.uniq C7.out.bits hpp7.bits)] at E2
  unfold EqP at E2
  clear hn7 E1 X6 C6 Q6 hpp7
  go_wp2_with fail
  refine E2.out.mono ?_
  rintro e w8 ⟨rfl, hn8⟩
  have X8 := Lib.hid (X7.out.below hn8.below)
  have C8 := Lib.hid (C7.out.below hn8.below)
  have S78 := Lib.hid hn8.below.size
  have MB := made w8 (.cells #[] 4)
  have OE := Lib.hid (OwnB.empty (w := w8) (Nat.le_refl _))
  have LX := Lib.hid ((X8.out.below MB).2.lay)
  have X9 := Lib.hid (X8.out.below MB)
  have C9 := Lib.hid (C8.out.below MB)
  have B9 := Lib.hid MB
  clear hn8 E2 X7 C7 MB
  go_wp2_with ((with_reducible show wpList _ _ _ (⟨some 75, _, _, _, _, _⟩ :: _) _ _); go_must (refine wp_appB (c := cx) rfl _ _ rfl rfl rfl rfl OE.out LX.out (by simp; omega) B9.out.size ?_))
  intro vy w10 owny gry
  have B10 := Lib.hid (B9.out.trans (gry.below OE.out B9.out.size))
  have X10 := Lib.hid (X8.out.below B10.out)
  have C10 := Lib.hid (C8.out.below B10.out)
  have SG := Lib.hid (show g2 < w8.heap.size ∧ gw2 < w8.heap.size from ⟨C8.out.blk.lt, C8.out.row.choose_spec.1.lt⟩)
  obtain ⟨Ay, cy, rfl, -, -, hyy⟩ := owny.open_
  have R10 := Lib.hid (show Ro w g2 gw2 Ay x w10 from fun h0 => by
    rcases hyy with ⟨-, e, -⟩ | ⟨gy, e, hge, hrow⟩
    · rw [e] at h0; simp at h0
    · have := SG.out
      have := X8.out.1.below.size
      have := T0.out.1
      exact ⟨gy, e, hrow, by omega, by omega, by omega, by omega⟩)
  have AY := Lib.hid (show ∀ k, Three g2 gw2 Ay k → w5.heap.size ≤ k from fun k hk => by
    have := GC.out
    rcases hk with rfl | rfl | ⟨o, e, rfl⟩
    · exact this.1
    · exact this.2
    · rcases hyy with ⟨e2, -, -⟩ | ⟨gy, e2, hge, -⟩
      · rw [e] at e2; cases e2
      · rw [e] at e2
        cases e2
        have := S56.out
        have := S67.out
        have := S78.out
        show w5.heap.size ≤ gy
        omega)
  have U10 := Lib.hid (show Up w g2 gw2 x w10 from ⟨⟨W6, c6, C10.out⟩, X10.out.1.below, X10.out.1.tab, by have := GC.out; have := S45.out; have := G4.out; omega, by have := GC.out; have := S45.out; have := G4.out; omega⟩)
  have ST := Lib.hid (step_took w w10 g2 gw2 Ay cy x 0 U10.out R10.out)
  unfold StepT at ST
  clear owny gry hyy OE LX X9 C9 B9 X8 C8 B10 C10 SG U10 R10
  go_wp2_with fail
  refine ST.out.mono ?_
  rintro e w11 ⟨rfl, o, y, ho, hy, hu11, hr11, ho11⟩
  have X11 := Lib.hid (X10.out.only ho11 (B := w5.heap.size) AY.out T0.out.1 (by have := S45.out; have := G4.out; omega) (fun h0 gx e => by have := LTX.out h0 gx e; have := S34.out; have := S45.out; omega))
  have HO := Lib.hid ho
  have HY := Lib.hid hy
  have YL := Lib.hid (show y.length = x.length from by rw [hy, after_len])
  have U11 := Lib.hid hu11
  have R11 := Lib.hid hr11
  have S1 := Lib.hid (same_any w w11 _ _ Ax cx x X11.out.1 X11.out.2.lay)
  clear ho hy hu11 hr11 ho11 ST X10 AY
  go_wp2_with fail
  refine S1.out.mono ?_
  rintro e w12 ⟨rfl, hb12⟩
  have X12 := Lib.hid (X11.out.below hb12)
  have U12 := Lib.hid (U11.out.below' hb12)
  have S2 := Lib.hid (same_any w w12 _ _ Ay cy y U12.out (R11.out.below hb12).lay)
  rw [YL.out] at S2
  clear hb12 S1 X11 U11 R11
  go_wp2_with fail
  refine S2.out.mono ?_
  rintro e w13 ⟨rfl, hb13⟩
  have X13 := Lib.hid (X12.out.below hb13)
  have U13 := Lib.hid (U12.out.below' hb13)
  obtain ⟨Wy, dy, hy13⟩ := U13.out.at_
  obtain ⟨Wp, dp, hp13⟩ := X13.out.1.at_
  have E3 := Lib.hid (pequal_any _ _ _ _ _ _ _ _ _ _ w13 hy13 hp13 YL.out.symm)
  have hbe : decide (Wy = Wp) = (((x.count true : Nat) : Int) == 0) := by
    have hyb := hy13.bits
    rw [HY.out] at hyb
    cases o with
    | none =>
      rw [decide_eq_true (Bits.uniq hyb hp13.bits), count_none HO.out]
      rfl
    | some j =>
      have hj : x.getD j false = true := HO.out.2.2.1
      have := count_pos hj
      rw [decide_eq_false (Bits.ne hyb hp13.bits (by simp [after]) (set_ne hj))]
      symm
      simp
      omega
  rw [hbe] at E3
  unfold EqP at E3
  clear hbe hy13 hp13 hb13 S2 X12 U12
  go_wp2_with fail
  refine E3.out.mono ?_
  rintro e w14 ⟨rfl, hn14⟩
  have X14 := Lib.hid (X13.out.below hn14.below)
  have FR := Lib.hid (free_up X14.out.1)
  clear hn14 E3 X13 U13
  generalize x.count true = nc at *
  go_wp2_with fail
  refine FR.out.mono ?_
  rintro e w15 ⟨rfl, rfl⟩
  clear FR
  by_cases hp : pok b x.length
  · have PB := Lib.hid (parse_yes B cb b x.length w15 hn (Nat.lt_of_lt_of_le T0.out.1 X14.out.1.below.size) (LB.out _ X14.out.1.below) SB.out hp)
    have PK := Lib.hid hp
    unfold ParseYes at PB
    clear hp
    go_wp2_with fail
    refine PB.out.mono ?_
    rintro e w16 ⟨Wz, cz, rfl, hz, hb16⟩
    have B16 := Lib.hid (up X14.out.1.below hb16 X14.out.1.below.size)
    have Z16 := Lib.hid hz
    have UZ := Lib.hid (show Up w (w15.heap.size + 1) w15.heap.size (px b x.length) w16 from ⟨⟨Wz, cz, hz⟩, B16.out, X14.out.1.tab.below hb16, by have := X14.out.1.below.size; omega, X14.out.1.below.size⟩)
    clear hz hb16 PB
    have LN := Lib.hid (len_up UZ.out.drew)
    rw [px_len] at LN
    have BZ := Lib.hid (bytes_of UZ.out.drew)
    unfold BytesP at BZ
    rw [rb_px PK.out SB.out] at BZ
    have CV := Lib.hid (fun ws (h : Below w.heap.size w ws) => conv_any ws B cb b (LB.out ws h) SB.out)
    have B17 := Lib.hid B16.out.drew
    go_wp2_with fail
    refine wp_region_held_drew (S := fun ws => (convert 46 9 (.slice B b.length cb)).run Tryd.prog ws = .ok (.string (str b)) ws) (by kernel_rfl) (CV.out _ B17.out) (fun hHeld => ?_)
    generalize w16.drew = w17 at *
    refine wpAnyH_take (i := 0) (v := ?_) rfl (by kernel_rfl) (by kernel_rfl) (by kernel_rfl) (fun _ _ _ h => h) (Or.inl ⟨by rfl, ?_⟩) (by assumption) ?_
    rotate_left
    · (intro w hSw; (try dsimp only at hSw); first | (go_simp; done) | (go_simp; with_reducible rfl))
    simp only [Act.put, List.getElem_toArray, List.getElem_cons_zero, List.getElem_cons_succ, List.setIfInBounds_toArray, List.set_cons_zero, List.set_cons_succ]
    refine wpAnyH_take (i := 1) (v := ?_) rfl (by kernel_rfl) (by kernel_rfl) (by kernel_rfl) (fun _ _ _ h => h) (Or.inl ⟨by rfl, ?_⟩) (by assumption) ?_
    rotate_left
    · (intro w hSw; (try dsimp only at hSw); first | (go_simp; done) | (go_simp; with_reducible rfl))
    simp only [Act.put, List.getElem_toArray, List.getElem_cons_zero, List.getElem_cons_succ, List.setIfInBounds_toArray, List.set_cons_zero, List.set_cons_succ]
    refine wpAnyH_take (i := 2) (v := ?_) rfl (by kernel_rfl) (by kernel_rfl) (by kernel_rfl) (fun _ _ _ h => h) (Or.inl ⟨by rfl, ?_⟩) (by assumption) ?_
    rotate_left
    · (intro w hSw; (try dsimp only at hSw); first | (go_simp; done) | (go_simp; with_reducible rfl))
    simp only [Act.put, List.getElem_toArray, List.getElem_cons_zero, List.getElem_cons_succ, List.setIfInBounds_toArray, List.set_cons_zero, List.set_cons_succ]
    refine wpAnyH_take (i := 3) (v := ?_) rfl (by kernel_rfl) (by kernel_rfl) (by kernel_rfl) (fun _ _ _ h => h) (Or.inl ⟨by rfl, ?_⟩) (by assumption) ?_
    rotate_left
    · (intro w hSw; (try dsimp only at hSw); first | (go_simp; done) | (go_simp; with_reducible rfl))
    simp only [Act.put, List.getElem_toArray, List.getElem_cons_zero, List.getElem_cons_succ, List.setIfInBounds_toArray, List.set_cons_zero, List.set_cons_succ]
    refine wpAnyH_take (i := 5) (v := ?_) rfl (by kernel_rfl) (by kernel_rfl) (by kernel_rfl) (fun _ _ _ h => h) (Or.inl ⟨by rfl, ?_⟩) (by assumption) ?_
    rotate_left
    · (intro w hSw; (try dsimp only at hSw); first | (go_simp; done) | (go_simp; with_reducible rfl))
    simp only [Act.put, List.getElem_toArray, List.getElem_cons_zero, List.getElem_cons_succ, List.setIfInBounds_toArray, List.set_cons_zero, List.set_cons_succ]
    refine wpAnyH_ready (rs := [4]) (by kernel_rfl) (by simp) ?_
    refine AllReadyH.cons rfl (fun K hK => ?_) AllReadyH.nil
    go_simp
    go_wp2_with (go_at_call 23; refine LN.out.mono ?_; rintro e w18 ⟨rfl, rfl⟩)
    refine hK.out _ _ (CV.out _ B17.out) (fun hHeld2 => ?_)
    clear hK K hHeld LN
    refine wpAnyH_take (i := 6) (v := ?_) rfl (by kernel_rfl) (by kernel_rfl) (by kernel_rfl) (fun _ _ _ h => h) (Or.inl ⟨by rfl, ?_⟩) (by assumption) ?_
    rotate_left
    · (intro w hSw; (try dsimp only at hSw); first | (go_simp; done) | (go_simp; with_reducible rfl))
    simp only [Act.put, List.getElem_toArray, List.getElem_cons_zero, List.getElem_cons_succ, List.setIfInBounds_toArray, List.set_cons_zero, List.set_cons_succ]
    refine wpAnyH_take (i := 7) (v := ?_) rfl (by kernel_rfl) (by kernel_rfl) (by kernel_rfl) (fun _ _ _ h => h) (Or.inl ⟨by rfl, ?_⟩) (by assumption) ?_
    rotate_left
    · (intro w hSw; (try dsimp only at hSw); first | (go_simp; done) | (go_simp; with_reducible rfl))
    simp only [Act.put, List.getElem_toArray, List.getElem_cons_zero, List.getElem_cons_succ, List.setIfInBounds_toArray, List.set_cons_zero, List.set_cons_succ]
    refine wpAnyH_take (i := 8) (v := ?_) rfl (by kernel_rfl) (by kernel_rfl) (by kernel_rfl) (fun _ _ _ h => h) (Or.inl ⟨by rfl, ?_⟩) (by assumption) ?_
    rotate_left
    · (intro w hSw; (try dsimp only at hSw); first | (go_simp; done) | (go_simp; with_reducible rfl))
    simp only [Act.put, List.getElem_toArray, List.getElem_cons_zero, List.getElem_cons_succ, List.setIfInBounds_toArray, List.set_cons_zero, List.set_cons_succ]
    refine wpAnyH_take (i := 9) (v := ?_) rfl (by kernel_rfl) (by kernel_rfl) (by kernel_rfl) (fun _ _ _ h => h) (Or.inl ⟨by rfl, ?_⟩) (by assumption) ?_
    rotate_left
    · (intro w hSw; (try dsimp only at hSw); first | (go_simp; done) | (go_simp; with_reducible rfl))
    simp only [Act.put, List.getElem_toArray, List.getElem_cons_zero, List.getElem_cons_succ, List.setIfInBounds_toArray, List.set_cons_zero, List.set_cons_succ]
    refine wpAnyH_take (i := 12) (v := ?_) rfl (by kernel_rfl) (by kernel_rfl) (by kernel_rfl) (fun _ _ _ h => h) (Or.inl ⟨by rfl, ?_⟩) (by assumption) ?_
    rotate_left
    · (intro w hSw; (try dsimp only at hSw); first | (go_simp; done) | (go_simp; with_reducible rfl))
    simp only [Act.put, List.getElem_toArray, List.getElem_cons_zero, List.getElem_cons_succ, List.setIfInBounds_toArray, List.set_cons_zero, List.set_cons_succ]
    refine wpAnyH_take (i := 13) (v := ?_) rfl (by kernel_rfl) (by kernel_rfl) (by kernel_rfl) (fun _ _ _ h => h) (Or.inl ⟨by rfl, ?_⟩) (by assumption) ?_
    rotate_left
    · (intro w hSw; (try dsimp only at hSw); first | (go_simp; done) | (go_simp; with_reducible rfl))
    simp only [Act.put, List.getElem_toArray, List.getElem_cons_zero, List.getElem_cons_succ, List.setIfInBounds_toArray, List.set_cons_zero, List.set_cons_succ]
    refine wpAnyH_ready (rs := [10]) (by kernel_rfl) (by simp) ?_
    refine AllReadyH.cons rfl (fun K hK => ?_) AllReadyH.nil
    go_simp
    go_wp2_with (go_at_call 20; refine BZ.out.mono ?_; rintro e w19 ⟨b19, rfl, hl19, hb19⟩)
    have cv19 := conv_any w19 (some ⟨b19, 0, none⟩) b.length b hl19 SB.out
    have B19 := Lib.hid (up B17.out hb19 B17.out.size)
    refine hK.out _ _ (CV.out _ B19.out) (fun hHeld => ?_)
    clear hK K hHeld2 BZ hl19 hb19
    refine wpAnyH_ready (rs := [11]) (by kernel_rfl) (by simp) ?_
    refine AllReadyH.cons rfl (fun K hK => ?_) AllReadyH.nil
    go_simp
    refine hK.out _ _ (CV.out _ B19.out) (fun hHeld2 => ?_)
    clear hK K hHeld cv19
    refine wpAnyH_take (i := 14) (v := ?_) rfl (by kernel_rfl) (by kernel_rfl) (by kernel_rfl) (fun _ _ _ h => h) (Or.inl ⟨by rfl, ?_⟩) (by assumption) ?_
    rotate_left
    · (intro w hSw; (try dsimp only at hSw); first | (go_simp; done) | (go_simp; with_reducible rfl))
    simp only [Act.put, List.getElem_toArray, List.getElem_cons_zero, List.getElem_cons_succ, List.setIfInBounds_toArray, List.set_cons_zero, List.set_cons_succ]
    refine wpAnyH_take (i := 15) (v := ?_) rfl (by kernel_rfl) (by kernel_rfl) (by kernel_rfl) (fun _ _ _ h => h) (Or.inl ⟨by rfl, ?_⟩) (by assumption) ?_
    rotate_left
    · (intro w hSw; (try dsimp only at hSw); first | (go_simp; done) | (go_simp; with_reducible rfl))
    simp only [Act.put, List.getElem_toArray, List.getElem_cons_zero, List.getElem_cons_succ, List.setIfInBounds_toArray, List.set_cons_zero, List.set_cons_succ]
    refine wpAnyH_take (i := 16) (v := ?_) rfl (by kernel_rfl) (by kernel_rfl) (by kernel_rfl) (fun _ _ _ h => h) (Or.inl ⟨by rfl, ?_⟩) (by assumption) ?_
    rotate_left
    · (intro w hSw; (try dsimp only at hSw); first | (go_simp; done) | (go_simp; with_reducible rfl))
    simp only [Act.put, List.getElem_toArray, List.getElem_cons_zero, List.getElem_cons_succ, List.setIfInBounds_toArray, List.set_cons_zero, List.set_cons_succ]
    have AW := Lib.hid (AWG.out _ B19.out)
    refine wpAnyH_ready (rs := [17]) (by kernel_rfl) (by simp) ?_
    refine AllReadyH.cons rfl (fun K hK => ?_) AllReadyH.nil
    go_simp
    go_wp2_with (go_at_call 8; refine AW.out.mono ?_; rintro e w20 ⟨rfl, hb20⟩)
    have B20 := Lib.hid (up B19.out hb20 B19.out.size)
    refine hK.out _ _ (CV.out _ B20.out) (fun hHeld => ?_)
    clear hK K hHeld2 hb20 AW
    refine wpAnyH_take (i := 18) (v := ?_) rfl (by kernel_rfl) (by kernel_rfl) (by kernel_rfl) (fun _ _ _ h => h) (Or.inl ⟨by rfl, ?_⟩) (by assumption) ?_
    rotate_left
    · (intro w hSw; (try dsimp only at hSw); first | (go_simp; done) | (go_simp; with_reducible rfl))
    simp only [Act.put, List.getElem_toArray, List.getElem_cons_zero, List.getElem_cons_succ, List.setIfInBounds_toArray, List.set_cons_zero, List.set_cons_succ]
    refine wpAnyH_take (i := 19) (v := ?_) rfl (by kernel_rfl) (by kernel_rfl) (by kernel_rfl) (fun _ _ _ h => h) (Or.inl ⟨by rfl, ?_⟩) (by assumption) ?_
    rotate_left
    · (intro w hSw; (try dsimp only at hSw); first | (go_simp; done) | (go_simp; with_reducible rfl))
    simp only [Act.put, List.getElem_toArray, List.getElem_cons_zero, List.getElem_cons_succ, List.setIfInBounds_toArray, List.set_cons_zero, List.set_cons_succ]
    refine wpAnyH_done (by kernel_rfl) ?_ _
    go_wp2
    go_ret
    exact ⟨rfl, B20.out⟩
  · have PB := Lib.hid (parse_no B cb b x.length w15 hn (Nat.lt_of_lt_of_le T0.out.1 X14.out.1.below.size) (LB.out _ X14.out.1.below) (by omega) SB.out hp)
    have WE := Lib.hid (wk_end hp)
    unfold ParseNo at PB
    clear hp
    go_wp2_with fail
    refine PB.out.mono ?_
    rintro e w16 ⟨rfl, hb16⟩
    have B16 := Lib.hid (up X14.out.1.below hb16 X14.out.1.below.size)
    clear hb16 PB
    obtain ⟨q, hq⟩ : ∃ q, q = (x.length + 7) / 8 := ⟨_, rfl⟩
    have q0 : q ≤ 40 := by omega
    have q1 : ((x.length : Int) + 7) / 8 = (q : Int) := by omega
    have q2 : ((b.length : Int) != (q : Int)) = wk b x.length 0 := by
      unfold wk
      rw [← hq]
      by_cases h : b.length = q
      · rw [h]; simp
      · have h1 : ((b.length : Int) != (q : Int)) = true := by simp; omega
        have h2 : (b.length != q) = true := by simp; exact h
        rw [h1, h2]; rfl
    obtain ⟨N, hN⟩ : ∃ N, N = 8 * b.length := ⟨_, rfl⟩
    have q3 : (b.length : Int) * 8 = (N : Int) := by omega
    have q4 : N ≤ 800 := by omega
    rw [← hN] at WE
    have HN := Lib.hid hN
    have BH := Lib.hid (fun k (hk : k < N) => small_at SB.out (show k / 8 < b.length by rw [hN] at hk; omega))
    clear hq hN
    go_wp2_with fail
    simp only [q1]
    go_loopw [15, 116] (fun wa i wr => ∃ (k : Nat) (W : World), W = wr ∧ k ≤ N ∧ i = .int .i64 k ∧ wa = .bool (wk b x.length k) ∧ Below w.heap.size w wr) (fun _ i _ => N - (intOf i).toNat)
    case atStart => exact ⟨0, _, rfl, by omega, rfl, rfl, B16.out⟩
    case round =>
    clear B16
    obtain ⟨k, w17, rfl, hk, rfl, rfl, hb⟩ := hrel
    have B17 := Lib.hid hb
    clear hb
    by_cases hkN : k < N
    · obtain ⟨bb, off, rfl, -, hc⟩ := (LB.out _ B17.out).at_ (k := k / 8) (by have := HN.out; omega)
      have hv := BH.out k hkN
      have WN := Lib.hid (wk_next b x.length k)
      have hr8 : k % 8 < 8 := by omega
      have BA := bit_and (b.getD (k / 8) 0) (k % 8) hv hr8
      have BB := Lib.hid (show bitB b k = (b.getD (k / 8) 0).testBit (k % 8) from rfl)
      have hkl : k / 8 < b.length := by have := HN.out; omega
      have wq : IntKind.i64.wrap ((k : Int) / 8) = ((k / 8 : Nat) : Int) := by rw [IntWalk.i64_in _ (by omega)]; omega
      have w8 : IntKind.i64.wrap ((k : Int) % 8) = ((k % 8 : Nat) : Int) := by rw [IntWalk.i64_in _ (by omega)]; omega
      have t1 : decide ((k : Int) < (N : Int)) = true := decide_eq_true (by omega)
      generalize b.getD (k / 8) 0 = v at *
      generalize k / 8 = qq at *
      cases hw : wk b x.length k with
      | true =>
        have W1 := Lib.hid (show wk b x.length (k + 1) = true from by rw [WN.out, hw]; rfl)
        clear hw BA
        go_wp2_with fail
        exact ⟨⟨k + 1, _, rfl, by omega, by go_num, by rw [W1.out], B17.out⟩, by simp [intOf]; omega⟩
      | false =>
        by_cases hkn : x.length ≤ k
        · have t2 : decide ((k : Int) ≥ (x.length : Int)) = true := decide_eq_true (by omega)
          have t3 : decide ((x.length : Int) ≤ (k : Int)) = true := decide_eq_true (by omega)
          have t4 : (x.length ≤ k) = True := eq_true hkn
          cases ht : v.testBit (k % 8) with
          | true =>
            have W1 := Lib.hid (show wk b x.length (k + 1) = true from by rw [WN.out, hw, BB.out, ht, decide_eq_true hkn]; rfl)
            rw [ht, if_pos rfl] at BA
            have BA2 : (bits .and .u8 ((v : Int) / 2 ^ (k % 8)) 1 == 1) = true := by rw [BA]; rfl
            have BA3 : (bits .and .u8 ((v : Int) / 2 ^ (k % 8)) 1 = 1) = True := eq_true BA
            clear BA
            clear hw ht hkn
            go_wp2_with fail
            exact ⟨⟨k + 1, _, rfl, by omega, by go_num, by rw [W1.out], B17.out⟩, by simp [intOf]; omega⟩
          | false =>
            have W1 := Lib.hid (show wk b x.length (k + 1) = false from by rw [WN.out, hw, BB.out, ht]; simp)
            rw [ht, if_neg (by decide)] at BA
            have BA2 : (bits .and .u8 ((v : Int) / 2 ^ (k % 8)) 1 == 1) = false := by rw [BA]; rfl
            have BA3 : (bits .and .u8 ((v : Int) / 2 ^ (k % 8)) 1 = 1) = False := eq_false (by rw [BA]; decide)
            clear BA
            clear hw ht hkn
            go_wp2_with fail
            exact ⟨⟨k + 1, _, rfl, by omega, by go_num, by rw [W1.out], B17.out⟩, by simp [intOf]; omega⟩
        · have t2 : decide ((k : Int) ≥ (x.length : Int)) = false := decide_eq_false (by omega)
          have t3 : decide ((x.length : Int) ≤ (k : Int)) = false := decide_eq_false (by omega)
          have t4 : (x.length ≤ k) = False := eq_false hkn
          have W1 := Lib.hid (show wk b x.length (k + 1) = false from by rw [WN.out, hw, decide_eq_false hkn]; rfl)
          clear hw BA
          go_wp2_with fail
          exact ⟨⟨k + 1, _, rfl, by omega, by go_num, by rw [W1.out], B17.out⟩, by simp [intOf]; omega⟩
    · obtain rfl : k = N := by omega
      have t1 : decide ((k : Int) < (k : Int)) = false := decide_eq_false (by omega)
      have AW := Lib.hid (AWG.out _ B17.out)
      rw [WE.out]
      go_wp2_with fail
      refine AW.out.mono ?_
      rintro e w18 ⟨rfl, hb18⟩
      have B18 := Lib.hid (up B17.out hb18 B17.out.size)
      clear hb18 AW
      go_wp2_with fail
      go_ret
      exact ⟨rfl, B18.out⟩
set_option maxRecDepth 100000 in
set_option maxHeartbeats 1000000 in
theorem walk_no (w : World) (hT : Tab w) (z0 : Int) (A : Option Addr) (n c : Nat) (hm : n ≤ 9223372036854775807) (B : Option Addr) (cb lb : Nat) (hlb : lb ≤ 9223372036854775807) (h : z0 < 0 ∨ 300 < z0 ∨ 200 < n ∨ 100 < lb) :
    Calls Tryd.prog 6 #[.int .i64 z0, .slice A n c, .slice B lb cb] w fun e w' => e = .returned (.bool true) ∧ Below w.heap.size w w' := by
  have AW := Lib.hid (awake_any w hT)
  clear hT
  by_cases q1 : z0 < 0
  · clear h
    go_enter Tryd.func6, Tryd.ntmps6
    go_wp2_with fail
    refine AW.out.mono ?_
    rintro e w1 ⟨rfl, hb⟩
    have HB := Lib.hid hb
    clear hb AW
    go_wp2_with fail
    go_ret
    exact ⟨rfl, HB.out⟩
  · by_cases q2 : 300 < z0
    · clear h
      go_enter Tryd.func6, Tryd.ntmps6
      go_wp2_with fail
      refine AW.out.mono ?_
      rintro e w1 ⟨rfl, hb⟩
      have HB := Lib.hid hb
      clear hb AW
      go_wp2_with fail
      go_ret
      exact ⟨rfl, HB.out⟩
    · by_cases q3 : 200 < n
      · clear h
        go_enter Tryd.func6, Tryd.ntmps6
        go_wp2_with fail
        refine AW.out.mono ?_
        rintro e w1 ⟨rfl, hb⟩
        have HB := Lib.hid hb
        clear hb AW
        go_wp2_with fail
        go_ret
        exact ⟨rfl, HB.out⟩
      · have q4 : 100 < lb := by omega
        clear h
        go_enter Tryd.func6, Tryd.ntmps6
        go_wp2_with fail
        refine AW.out.mono ?_
        rintro e w1 ⟨rfl, hb⟩
        have HB := Lib.hid hb
        clear hb AW
        go_wp2_with fail
        go_ret
        exact ⟨rfl, HB.out⟩
theorem wf_u8 {a : Int} (h : (Lit.int .u8 a).wf = true) : 0 ≤ a ∧ a < 256 := by
  simp [Lit.wf, IntKind.min, IntKind.max, IntKind.signed, IntKind.bits] at h
  omega
theorem bytes_of_ints {l : List Int} (h : ∀ z ∈ l, (Lit.int .u8 z).wf = true) : ∃ b : List Nat, l = bytes.ints b ∧ Small b := by
  refine ⟨l.map Int.toNat, ?_, ?_⟩
  · unfold bytes.ints
    rw [List.map_map]
    conv => lhs; rw [← List.map_id l]
    apply List.map_congr_left
    intro z hz
    have := h z hz
    have := wf_u8 this
    show z = ((z.toNat : Nat) : Int)
    omega
  · intro c hc
    obtain ⟨z, hz, rfl⟩ := List.mem_map.1 hc
    have := h z hz
    have := wf_u8 this
    omega
theorem walk (w : World) (hT : Tab w) (z0 : Int) (hz0 : (Lit.int .i64 z0).wf = true) (A : Option Addr) (m c : Nat) (F : Nat → Nat → Int) (h1 : IntRows w A m 2 F) (hc : m ≤ c) (hm : c ≤ maxLen) (hw : ∀ i, i < m → ∀ j, j < 2 → -9223372036854775808 ≤ F i j ∧ F i j ≤ 9223372036854775807)
    (B : Option Addr) (cb : Nat) (l : List Int) (hN : Nums .u8 w B l) (hcb : l.length ≤ cb) (hmb : cb ≤ maxLen) (hwb : ∀ z ∈ l, (Lit.int .u8 z).wf = true) :
    Calls Tryd.prog 6 #[.int .i64 z0, .slice A m c, .slice B l.length cb] w fun e w' => e = .returned (.bool true) ∧ Below w.heap.size w w' := by
  unfold maxLen at hm hmb
  by_cases q : z0 < 0 ∨ 300 < z0 ∨ 200 < m ∨ 100 < l.length
  · exact walk_no w hT z0 A _ c (by omega) B cb _ (by omega) q
  · obtain ⟨n, rfl⟩ : ∃ n : Nat, z0 = n := ⟨z0.toNat, by omega⟩
    obtain ⟨b, rfl, hs⟩ := bytes_of_ints hwb
    have e : (bytes.ints b).length = b.length := by simp [bytes.ints]
    rw [e] at q ⊢
    exact walk_yes w hT n A m c F h1 (by omega) (by omega) hc (by omega) B cb b hN hs (by omega)
theorem contract (H : Type) (enc : TypeId × Value → H) (W : World) (bs : Nat) (args : Array Value) (ds gs : List (DataW H)) (before : List MemPlace)
    (hval : ∀ (j : Nat) t v, Tryd.f6.params[j]? = some t → args[j]? = some v → Value.okWide Tryd.prog W .any bs t v)
    (hW : DataW.Whole enc Tryd.prog Tryd.f6.params.toList Rows.poolParsesSpec.vars false W args.toList ds gs before) (hL : laidMetH Tryd.prog Rows.poolParsesRow.laid W) :
    Calls Tryd.prog 6 args W fun e W' => ∃ v, e = .returned v ∧ Rows.poolParsesSpec.post enc Tryd.prog Tryd.f6 false true false false W args v W' := by
  have hW' := hW
  obtain ⟨p, q, hA0, hV, rfl, _, _⟩ := hW
  have hA : DataW.TrodAll enc Tryd.prog W 0 (fun _ => true) true Tryd.f6.params.toList args.toList ds p := hA0
  rw [Tryd.params6] at hA hval
  obtain ⟨v0, vs0, d0, ds0, p0, q0, hargs, rfl, rfl, h0, r0⟩ := trodAll_cons hA
  obtain ⟨v1, vs1, d1, ds1, p1, q1, rfl, rfl, rfl, h1, r1⟩ := trodAll_cons r0
  obtain ⟨v2, vs2, d2, ds2, p2, q2, rfl, rfl, rfl, h2, r2⟩ := trodAll_cons r1
  obtain ⟨rfl, rfl, rfl⟩ := trodAll_nil r2
  obtain rfl : args = #[v0, v1, v2] := by cases args; simp_all
  obtain ⟨rfl, rfl⟩ := trodVars_none hV
  obtain ⟨a0, rfl, rfl, rfl, w0⟩ := open_int Tryd.underlying3 (hval 0 3 v0 rfl rfl) h0
  obtain ⟨A1, k1, c1, F1, rfl, b1, m1, n1, w1⟩ := base.open_introws 2 Tryd.underlying22 Tryd.underlying29 (by kernel_rfl) (by kernel_rfl) rfl (by omega) (by intro j f hj; rcases j with _ | _ | j <;> simp at hj <;> (subst hj; exact Tryd.underlying3)) (hval 1 22 v1 rfl rfl) h1
  obtain ⟨A2, c2, l2, rfl, b2, m2, n2, w2⟩ := base.open_nums Tryd.underlying46 Tryd.underlying5 (by kernel_rfl) (hval 2 46 v2 rfl rfl) h2
  clear hA0
  refine (walk W (tableOf hL) a0 w0 A1 k1 c1 F1 n1 b1 m1 w1 A2 c2 l2 n2 b2 m2 w2).mono fun e W' ⟨he, hb⟩ => ?_
  subst he
  exact ⟨_, rfl, base.law_post base.laid (by kernel_rfl) rfl rfl Tryd.underlying4 hW' rfl rfl rfl hb⟩

noncomputable def laidWorld (os : Os) : World :=
  { World.holding Tryd.prog os ⟨#[], #[], []⟩ with heap := (World.holding Tryd.prog os ⟨#[], #[], []⟩).heap.modify 0 fun
      | .cells _ t frozen => .cells #[.int .u8 0, .int .u8 1, .int .u8 56, .int .u8 2, .int .u8 57, .int .u8 49, .int .u8 28, .int .u8 3, .int .u8 61, .int .u8 58, .int .u8 42, .int .u8 50, .int .u8 38, .int .u8 29, .int .u8 17, .int .u8 4, .int .u8 62, .int .u8 47, .int .u8 59, .int .u8 36, .int .u8 45, .int .u8 43, .int .u8 51, .int .u8 22, .int .u8 53, .int .u8 39, .int .u8 33, .int .u8 30, .int .u8 24, .int .u8 18, .int .u8 12, .int .u8 5, .int .u8 63, .int .u8 55, .int .u8 48, .int .u8 27, .int .u8 60, .int .u8 41, .int .u8 37, .int .u8 16, .int .u8 46, .int .u8 35, .int .u8 44, .int .u8 21, .int .u8 52, .int .u8 32, .int .u8 23, .int .u8 11, .int .u8 54, .int .u8 26, .int .u8 40, .int .u8 15, .int .u8 34, .int .u8 20, .int .u8 31, .int .u8 10, .int .u8 25, .int .u8 14, .int .u8 19, .int .u8 9, .int .u8 13, .int .u8 8, .int .u8 7, .int .u8 6] t frozen
      | o => o }
theorem laid_met (os : Os) : laidMet Tryd.prog Rows.poolParsesRow.laid ((laidWorld os).forCall (fun _ _ => 0) ⟨#[], #[.int .i64 0, .slice none 0 0, .slice none 0 0], []⟩).memory :=
  laidMet_of_run' 8 (by kernel_rfl) (by kernel_rfl)
theorem reads (os : Os) {H : Type} (enc : TypeId × Value → H) : ∃ places, DataW.whole enc Tryd.prog ((laidWorld os).forCall (fun _ _ => 0) ⟨#[], #[.int .i64 0, .slice none 0 0, .slice none 0 0], []⟩).memory Tryd.f6.params.toList Rows.poolParsesSpec.vars false (#[.int .i64 0, .slice none 0 0, .slice none 0 0] : Array Value).toList 8 = some ([.lit (.int .i64 0), .nil, .nil], [], places) :=
  ⟨[], by kernel_rfl⟩

set_option maxRecDepth 100000 in
theorem lifted (os : Os) (started : os.Started) (H : Type) (enc : TypeId × Value → H) (F : Stop.Interp) :
    ReturnsInHanded {} Tryd.checked os 6 .any ((OpenSpec.ofChange Rows.poolParsesSpec).preRow enc Tryd.prog Tryd.f6 Rows.poolParsesRow.domain false Rows.poolParsesRow.laid) (((OpenSpec.ofChange Rows.poolParsesSpec).at F).post enc Tryd.prog Tryd.f6 false true false false) := by
  obtain ⟨places, hx⟩ := reads os enc
  refine returnsInHanded_of_row (C := Tryd.checked) (s := OpenSpec.ofChange Rows.poolParsesSpec) base.own started (by kernel_rfl) Tryd.func6
    (witness_row_at (enc := enc) (C := Tryd.checked) false (laidWorld os) #[.int .i64 0, .slice none 0 0, .slice none 0 0] rfl (by kernel_rfl) (by kernel_rfl) (by kernel_rfl)
      (OpenSpec.preRow_of_cond 8 hx (by kernel_rfl) (fun k hk => by cases hk) (by kernel_rfl) (laid_met os))) ?_
  intro W bs args ds gs before hval hW _ _ _ hL _ _
  exact contract H enc W bs args ds gs before hval hW hL

theorem said : Rows.PoolParsesSaid :=
  OpenClaim.holds_of_cond 6 Tryd.f6 rfl rfl rfl rfl rfl rfl rfl ⟨rfl, rfl, rfl, rfl, rfl⟩ rfl rfl rfl rfl rfl (by kernel_rfl) Tryd.func6 (by kernel_rfl)
    (of_decide_eq_true (by kernel_rfl)) (by unfold Func.isWrapper; first | (rw [if_pos (by decide +kernel)]; kernel_rfl) | (rw [if_neg (by decide +kernel)]; exact ⟨rfl, rfl⟩))
    (fun os started H enc _ F => by rw [OpenClaim.pre_eq_preRow]; exact lifted os started H enc F)

theorem plain (f : FuncId) (fn : Func) (hf : Tryd.pinned.checked.prog.funcNamed "deedhold/deedholdlaw07.PoolParses" = some f) (hfn : Tryd.pinned.checked.prog.funcs[f]? = some fn) :
    false = Tryd.pinned.checked.prog.looks [] ∧ ∀ (j : Nat) t, fn.params[j]? = some t → Tryd.pinned.checked.prog.wantsStandIn t = false := by
  obtain rfl : f = 6 := Option.some.inj ((show Tryd.prog.funcNamed "deedhold/deedholdlaw07.PoolParses" = some 6 by kernel_rfl).symm.trans hf) |>.symm
  obtain rfl : fn = Tryd.f6 := (Option.some.inj (Tryd.func6.symm.trans hfn)).symm
  refine ⟨by kernel_rfl, fun j t ht => ?_⟩
  rw [Tryd.params6] at ht
  have ht2 : t = 3 ∨ t = 22 ∨ t = 46 := by simpa using Array.mem_of_getElem? ht
  rcases ht2 with rfl | rfl | rfl
  all_goals first | exact (show Tryd.prog.wantsStandIn _ = false by kernel_rfl)

theorem card : Rows.PoolParsesCardSaid :=
  Claim7.holds_tied_plain_at .later [] _ _ _ _ said (fun _ h => by cases h) (by kernel_rfl) (fun _ h => by cases h) poolParses_row_tie rfl ⟨rfl, rfl⟩ (by kernel_rfl) rfl plain (by kernel_rfl)
#print axioms card
end Go.Proofs.YteecebklomeklaaDoor.poolParses
