/-
  SlotsParses (P6.1), for the tied reading: for every input the law answers true, whatever the memory, if the table of the sum stands as the program lays it.
  Conditions: none beyond the card's own.
-/
import Derived.Test.YtigjfmfhmoabiaaDoorSoG
namespace Go.Proofs.YtigjfmfhmoabiaaDoor.slotsParses
open Go.ChangeShapes Go.WideShapes Go.ChangeAt Go.RowKit
open base (ret_bool ret_int made up Blk Only Nums)
open bytes (str Small small_nil small_app Lay Own conv_any)
open so vnum
set_option linter.unusedVariables false
set_option linter.unusedSimpArgs false
theorem tableOf {W : World} (h : laidMetH Tryd.prog Rows.slotsParsesRow.laid W) : sl.Tab W := so.tableOf h
set_option maxRecDepth 100000 in
set_option maxHeartbeats 1000000 in
theorem walk_long (w : World) (hT : sl.Tab w) (A : Option Addr) (c : Nat) (b : List Nat) (h : 2000 < b.length) : Calls Tryd.prog 4 #[.slice A b.length c] w (BoolP true w) := by
  have k1 : decide ((b.length : Int) > 2000) = true := decide_eq_true (by omega)
  have M1 := Lib.hid (Below.refl w.heap.size w)
  have AW := Lib.hid (awake_any w hT)
  unfold AwakeP at AW
  clear hT h
  go_enter Tryd.func4, Tryd.ntmps4
  go_wp2_with fail
  refine AW.out.mono ?_
  rintro e wZ ⟨rfl, hb⟩
  have BZ := Lib.hid (up M1.out hb M1.out.size)
  clear hb AW
  go_wp2_with fail
  go_ret
  exact ⟨rfl, BZ.out⟩
set_option maxRecDepth 100000 in
set_option maxHeartbeats 4000000 in
theorem walk_rest (w : World) (hT : sl.Tab w) (A : Option Addr) (c : Nat) (b : List Nat) (hL : Lay w A b) (hs : Small b) (h : b.length ≤ 2000) (hc : b.length ≤ c) (hm : c ≤ maxLen) : Calls Tryd.prog 4 #[.slice A b.length c] w (BoolP true w) := by
  have k1 : decide ((b.length : Int) > 2000) = false := decide_eq_false (by omega)
  have PA := Lib.hid (parse_any A c b w hL hs (by omega) hc (by unfold maxLen at hm; omega) hT)
  unfold ParseP at PA
  have LW := Lib.hid hL
  have TW := Lib.hid hT
  have SB := Lib.hid hs
  have LB := Lib.hid h
  clear hT hL hs h hc hm
  go_enter Tryd.func4, Tryd.ntmps4
  go_wp2_with fail
  refine PA.out.mono ?_
  rintro e w2 ⟨hb, ⟨hp, rfl⟩ | ⟨E, zs, Ap, cp, hp, rfl, hn, -⟩⟩
  · have X3 := Lib.hid (Blk.new w2 24 #[.int .i64 0, .slice none 0 0])
    have B3 := Lib.hid (up hb (made w2 (.cells #[.int .i64 0, .slice none 0 0] 24)) hb.size)
    have T3 := Lib.hid (TW.out.keep B3.out TW.out.1)
    have x0 := X3.out.cell 0
    have x1 := X3.out.cell 1
    have EQ := Lib.hid (requal_yes 0 none 0 [] none 0 (w2.alloc (.cells #[.int .i64 0, .slice none 0 0] 24)) (nums_nil _) (nums_nil _) (by decide))
    unfold BoolP at EQ
    clear hb hp PA
    go_wp2_with fail
    refine EQ.out.mono ?_
    rintro e w4 ⟨rfl, hb⟩
    have B4 := Lib.hid (up B3.out hb B3.out.size)
    have T4 := Lib.hid (T3.out.keep hb T3.out.1)
    have AW := Lib.hid (awake_any w4 T4.out)
    unfold AwakeP at AW
    clear EQ hb x0 x1
    go_wp2_with fail
    refine AW.out.mono ?_
    rintro e wZ ⟨rfl, hb⟩
    have BZ := Lib.hid (up B4.out hb B4.out.size)
    clear hb AW
    go_wp2_with fail
    go_ret
    exact ⟨rfl, BZ.out⟩
  · obtain ⟨hr, hf, hrb⟩ := parse_some hp
    obtain ⟨n, rfl⟩ : ∃ n : Nat, E = n := ⟨E.toNat, by have := rok_iff.1 hr; omega⟩
    have X3 := Lib.hid (Blk.new w2 24 #[.int .i64 (n : Int), .slice Ap zs.length cp])
    have B3 := Lib.hid (up hb (made w2 (.cells #[.int .i64 (n : Int), .slice Ap zs.length cp] 24)) hb.size)
    have T3 := Lib.hid (TW.out.keep B3.out TW.out.1)
    have N3 := Lib.hid (base.Nums.keep hn (made w2 (.cells #[.int .i64 (n : Int), .slice Ap zs.length cp] 24)))
    have L3 := Lib.hid (LW.out.below B3.out)
    have x0 := X3.out.cell 0
    have x1 := X3.out.cell 1
    have RB := Lib.hid (rbytes_yes n Ap cp zs b.length hf (w2.alloc (.cells #[.int .i64 (n : Int), .slice Ap zs.length cp] 24)) N3.out hr)
    rw [hrb] at RB
    have HR := Lib.hid hr
    generalize hw3 : w2.alloc (.cells #[.int .i64 (n : Int), .slice Ap zs.length cp] 24) = w3 at *
    clear hb hp PA hn hr hf hrb
    go_wp2_with (rw [hw3])
    refine RB.out.mono ?_
    rintro e w4 ⟨v4, rfl, ho, hb⟩
    have X4 := Lib.hid (X3.out.below hb X3.out.lt)
    have B4 := Lib.hid (up B3.out hb B3.out.size)
    have T4 := Lib.hid (T3.out.keep hb T3.out.1)
    have N4 := Lib.hid (base.Nums.keep N3.out hb)
    have L4 := Lib.hid (L3.out.below hb)
    obtain ⟨A4, c4, rfl, hl, -, -⟩ := ho.lay
    have cv1 := conv_any _ A4 c4 b hl SB.out
    have cv2 := conv_any _ A c b L4.out SB.out
    have hse : ((str b).toList == (str b).toList) = true := beq_self_eq_true _
    have RR := Lib.hid (rright_any (n : Int) Ap cp zs w4 N4.out)
    rw [HR.out] at RR
    clear RB ho hb hl x0 x1
    have x0 := X4.out.cell 0
    have x1 := X4.out.cell 1
    generalize str b = sb at *
    go_wp2_with fail
    refine RR.out.mono ?_
    rintro e w5 ⟨rfl, e5⟩
    subst e5
    have AW := Lib.hid (awake_any w4 T4.out)
    unfold AwakeP at AW
    clear RR
    go_wp2_with fail
    refine AW.out.mono ?_
    rintro e wZ ⟨rfl, hb⟩
    have BZ := Lib.hid (up B4.out hb B4.out.size)
    clear hb AW
    go_wp2_with fail
    go_ret
    exact ⟨rfl, BZ.out⟩
theorem walk (w : World) (hT : sl.Tab w) (A : Option Addr) (c : Nat) (zs : List Int) (hN : Nums .u8 w A zs) (hc : zs.length ≤ c) (hm : c ≤ maxLen) (hw : ∀ n ∈ zs, (Lit.int .u8 n).wf = true) :
    Calls Tryd.prog 4 #[.slice A zs.length c] w fun e w' => e = .returned (.bool true) ∧ Below w.heap.size w w' := by
  obtain ⟨l, e1, hL, hs⟩ := nats hN hw
  rw [e1] at hc ⊢
  by_cases h : 2000 < l.length
  · exact walk_long w hT A c l h
  · exact walk_rest w hT A c l hL hs (by omega) hc hm
theorem contract (H : Type) (enc : TypeId × Value → H) (W : World) (bs : Nat) (args : Array Value) (ds gs : List (DataW H)) (before : List MemPlace)
    (hval : ∀ (j : Nat) t v, Tryd.f4.params[j]? = some t → args[j]? = some v → Value.okWide Tryd.prog W .any bs t v)
    (hW : DataW.Whole enc Tryd.prog Tryd.f4.params.toList Rows.slotsParsesSpec.vars false W args.toList ds gs before) (hL : laidMetH Tryd.prog Rows.slotsParsesRow.laid W) :
    Calls Tryd.prog 4 args W fun e W' => ∃ v, e = .returned v ∧ Rows.slotsParsesSpec.post enc Tryd.prog Tryd.f4 false true false false W args v W' := by
  have hW' := hW
  obtain ⟨p, q, hA0, hV, rfl, _, _⟩ := hW
  have hA : DataW.TrodAll enc Tryd.prog W 0 (fun _ => true) true Tryd.f4.params.toList args.toList ds p := hA0
  rw [Tryd.params4] at hA hval
  obtain ⟨v0, vs0, d0, ds0, p0, q0, hargs, rfl, rfl, h0, r0⟩ := trodAll_cons hA
  obtain ⟨rfl, rfl, rfl⟩ := trodAll_nil r0
  obtain rfl : args = #[v0] := by cases args; simp_all
  obtain ⟨rfl, rfl⟩ := trodVars_none hV
  obtain ⟨A0, c0, l0, rfl, b0, m0, n0, w0⟩ := base.open_nums Tryd.underlying27 Tryd.underlying5 (by kernel_rfl) (hval 0 27 v0 rfl rfl) h0
  clear hA0
  refine (walk W (tableOf hL) A0 c0 l0 n0 b0 m0 w0).mono fun e W' ⟨he, hb⟩ => ?_
  subst he
  exact ⟨_, rfl, base.law_post base.laid (by kernel_rfl) rfl rfl Tryd.underlying4 hW' rfl rfl rfl hb⟩

noncomputable def laidWorld (os : Os) : World :=
  { World.holding Tryd.prog os ⟨#[], #[], []⟩ with heap := (World.holding Tryd.prog os ⟨#[], #[], []⟩).heap.modify 0 fun
      | .cells _ t frozen => .cells #[.int .u32 0, .int .u32 498536548, .int .u32 997073096, .int .u32 651767980, .int .u32 1994146192, .int .u32 1802195444, .int .u32 1303535960, .int .u32 1342533948, .int .u32 3988292384, .int .u32 4027552580, .int .u32 3604390888, .int .u32 3412177804, .int .u32 2607071920, .int .u32 2262029012, .int .u32 2685067896, .int .u32 3183342108] t frozen
      | o => o }
theorem laid_met (os : Os) : laidMet Tryd.prog Rows.slotsParsesRow.laid ((laidWorld os).forCall (fun _ _ => 0) ⟨#[], #[.slice none 0 0], []⟩).memory :=
  laidMet_of_run' 8 (by kernel_rfl) (by kernel_rfl)
theorem reads (os : Os) {H : Type} (enc : TypeId × Value → H) : ∃ places, DataW.whole enc Tryd.prog ((laidWorld os).forCall (fun _ _ => 0) ⟨#[], #[.slice none 0 0], []⟩).memory Tryd.f4.params.toList Rows.slotsParsesSpec.vars false (#[.slice none 0 0] : Array Value).toList 8 = some ([.nil], [], places) :=
  ⟨[], by kernel_rfl⟩

set_option maxRecDepth 100000 in
theorem lifted (os : Os) (started : os.Started) (H : Type) (enc : TypeId × Value → H) (F : Stop.Interp) :
    ReturnsInHanded {} Tryd.checked os 4 .any ((OpenSpec.ofChange Rows.slotsParsesSpec).preRow enc Tryd.prog Tryd.f4 Rows.slotsParsesRow.domain false Rows.slotsParsesRow.laid) (((OpenSpec.ofChange Rows.slotsParsesSpec).at F).post enc Tryd.prog Tryd.f4 false true false false) := by
  obtain ⟨places, hx⟩ := reads os enc
  refine returnsInHanded_of_row (C := Tryd.checked) (s := OpenSpec.ofChange Rows.slotsParsesSpec) base.own started (by kernel_rfl) Tryd.func4
    (witness_row_at (enc := enc) (C := Tryd.checked) false (laidWorld os) #[.slice none 0 0] rfl (by kernel_rfl) (by kernel_rfl) (by kernel_rfl)
      (OpenSpec.preRow_of_cond 8 hx (by kernel_rfl) (fun k hk => by cases hk) (by kernel_rfl) (laid_met os))) ?_
  intro W bs args ds gs before hval hW _ _ _ hL _ _
  exact contract H enc W bs args ds gs before hval hW hL

theorem said : Rows.SlotsParsesSaid :=
  OpenClaim.holds_of_cond 4 Tryd.f4 rfl rfl rfl rfl rfl rfl rfl ⟨rfl, rfl, rfl, rfl, rfl⟩ rfl rfl rfl rfl rfl (by kernel_rfl) Tryd.func4 (by kernel_rfl)
    (of_decide_eq_true (by kernel_rfl)) (by unfold Func.isWrapper; first | (rw [if_pos (by decide +kernel)]; kernel_rfl) | (rw [if_neg (by decide +kernel)]; exact ⟨rfl, rfl⟩))
    (fun os started H enc _ F => by rw [OpenClaim.pre_eq_preRow]; exact lifted os started H enc F)

theorem plain (f : FuncId) (fn : Func) (hf : Tryd.pinned.checked.prog.funcNamed "deedhold/deedholdlaw06.SlotsParses" = some f) (hfn : Tryd.pinned.checked.prog.funcs[f]? = some fn) :
    false = Tryd.pinned.checked.prog.looks [] ∧ ∀ (j : Nat) t, fn.params[j]? = some t → Tryd.pinned.checked.prog.wantsStandIn t = false := by
  obtain rfl : f = 4 := Option.some.inj ((show Tryd.prog.funcNamed "deedhold/deedholdlaw06.SlotsParses" = some 4 by kernel_rfl).symm.trans hf) |>.symm
  obtain rfl : fn = Tryd.f4 := (Option.some.inj (Tryd.func4.symm.trans hfn)).symm
  refine ⟨by kernel_rfl, fun j t ht => ?_⟩
  rw [Tryd.params4] at ht
  have ht2 : t = 27 := by simpa using Array.mem_of_getElem? ht
  rcases ht2 with rfl
  all_goals first | exact (show Tryd.prog.wantsStandIn _ = false by kernel_rfl)

theorem card : Rows.SlotsParsesCardSaid :=
  Claim7.holds_tied_plain_at .later [] _ _ _ _ said (fun _ h => by cases h) (by kernel_rfl) (fun _ h => by cases h) slotsParses_row_tie rfl ⟨rfl, rfl⟩ (by kernel_rfl) rfl plain (by kernel_rfl)
#print axioms card
end Go.Proofs.YtigjfmfhmoabiaaDoor.slotsParses
