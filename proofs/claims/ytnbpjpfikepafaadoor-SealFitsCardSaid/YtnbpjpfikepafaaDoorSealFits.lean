/-
  SealFits: for every list of bytes and every size the law answers true, the table of the sum being what the program's text lays. Conditions: none.
-/
import Derived.Test.YtnbpjpfikepafaaDoorSealL
import Derived.Test.YtnbpjpfikepafaaDoorCards
import Derived.Test.YtnbpjpfikepafaaDoorTie
import Derived.Deep.DeepHandedRow
import Derived.Lib.LaidTab
import Derived.Deep.RegionHeld
namespace Go.Proofs.YtnbpjpfikepafaaDoor.sealFits
open Go.ChangeShapes Go.WideShapes Go.ChangeAt Go.RowKit
open sl
open base (ret_bool ret_int made up Blk Only Nums)
open crc
set_option linter.unusedVariables false

theorem gTab : Tryd.prog.globalNamed "deedhold/seal.half" = some 0 := by kernel_rfl
theorem gTabType : (Tryd.prog.globals[0]?).map (·.type) = some 38 := by kernel_rfl
theorem cells16 : Tryd.prog.cellsOf 38 = 16 := by kernel_rfl
theorem cells1 : Tryd.prog.cellsOf 24 = 1 := by kernel_rfl
theorem table {W : World} (h : laidMetH Tryd.prog Rows.sealFitsRow.laid W) : Lib.TabIs Tryd.prog W "deedhold/seal.half" .u32 [0, 498536548, 997073096, 651767980, 1994146192, 1802195444, 1303535960, 1342533948, 3988292384, 4027552580, 3604390888, 3412177804, 2607071920, 2262029012, 2685067896, 3183342108] :=
  Lib.tabIs_of_head (rest := []) gTab gTabType Tryd.underlying38 Tryd.underlying24 cells1 cells16 h
theorem tableOf {W : World} (h : laidMetH Tryd.prog Rows.sealFitsRow.laid W) : Tab W := by
  have c : ∀ k, k < 16 → W.cell? ⟨0, k, none⟩ = some (.int .u32 (tab k : Nat)) := by
    intro k hk
    have := (table h).cell gTab k (by simpa using hk)
    rw [this]
    have h2 : ∀ k : Fin 16, ([0, 498536548, 997073096, 651767980, 1994146192, 1802195444, 1303535960, 1342533948, 3988292384, 4027552580, 3604390888, 3412177804, 2607071920, 2262029012, 2685067896, 3183342108] : List Int).getD k.1 0 = (tab k.1 : Nat) := by decide
    have h3 := h2 ⟨k, hk⟩
    rw [← h3]
  exact ⟨World.block_lt_of_cell? W _ (c 0 (by omega)), c⟩

theorem nats {w : World} {A : Option Addr} {zs : List Int} (h : Nums .u8 w A zs) (hw : ∀ n ∈ zs, (Lit.int .u8 n).wf = true) : ∃ l : List Nat, zs.length = l.length ∧ Lay w A l ∧ Small l := by
  have hz : ∀ n ∈ zs, 0 ≤ n ∧ n ≤ 255 := fun n hn => by simpa [Lit.wf, IntKind.min, IntKind.max, IntKind.signed, IntKind.bits] using hw n hn
  refine ⟨zs.map Int.toNat, by simp, ?_, ?_⟩
  · have e : ints (zs.map Int.toNat) = zs := by
      unfold ints
      rw [List.map_map]
      conv => rhs; rw [← List.map_id zs]
      apply List.map_congr_left
      intro n hn
      have := hz n hn
      show ((n.toNat : Nat) : Int) = n
      omega
    unfold Lay
    rw [e]
    exact h
  · intro c hc
    obtain ⟨n, hn, rfl⟩ := List.mem_map.1 hc
    have := hz n hn
    omega

def Good (w : World) (e : Ending) (w' : World) : Prop := e = .returned (.bool true) ∧ Below w.heap.size w w'

set_option maxHeartbeats 1000000 in
theorem walk_long (w : World) (hT : Tab w) (A : Option Addr) (c : Nat) (l : List Nat) (z : Int) (hc : l.length ≤ c) (hc2 : c ≤ 9223372036854775807) (h : 500 < l.length ∨ l.length ≤ 500 ∧ 2000 < z ∧ z ≤ 65536) :
    Calls Tryd.prog 5 #[.slice A l.length c, .int .i64 z] w (Good w) := by
  have T := Lib.hid hT
  clear hT
  rcases h with h | ⟨h1, h2, h3⟩
  · go_enter Tryd.func5, Tryd.ntmps5
    go_wp2_with (go_at_call 8; refine (awake_any _ T.out).mono ?_; rintro e w1 ⟨rfl, hb1⟩)
    go_ret
    exact ⟨rfl, hb1⟩
  · go_enter Tryd.func5, Tryd.ntmps5
    go_wp2_with (go_at_call 8; refine (awake_any _ T.out).mono ?_; rintro e w1 ⟨rfl, hb1⟩)
    go_ret
    exact ⟨rfl, hb1⟩

set_option maxHeartbeats 1000000 in
theorem walk_no (w : World) (hT : Tab w) (A : Option Addr) (c : Nat) (l : List Nat) (z : Int) (hc : l.length ≤ c) (hc2 : c ≤ 9223372036854775807) (h1 : l.length ≤ 500) (hz1 : -9223372036854775808 ≤ z) (hz2 : z ≤ 9223372036854775807) (h : z < 6 ∨ 65536 < z ∨ 6 ≤ z ∧ z ≤ 2000 ∧ z - 6 < l.length) :
    Calls Tryd.prog 5 #[.slice A l.length c, .int .i64 z] w (Good w) := by
  have T := Lib.hid hT
  clear hT
  have hf : sizeB z = false ∨ sizeB z = true ∧ z - 6 < l.length := by
    rcases h with h | h | ⟨h, h2, h3⟩
    · exact .inl (decide_eq_false (by omega))
    · exact .inl (decide_eq_false (by omega))
    · exact .inr ⟨decide_eq_true (by omega), h3⟩
  have F := Lib.hid (fit_no A c l z w hc hc2 hf)
  clear hf
  rcases h with h | h | ⟨h, h2, h3⟩
  all_goals
    go_enter Tryd.func5, Tryd.ntmps5
    go_wp2_with (first | (go_at_call 14; refine F.out.mono ?_; rintro e w1 ⟨rfl, rfl⟩) | (go_at_call 8; refine (awake_any _ T.out).mono ?_; rintro e w1 ⟨rfl, hb1⟩))
    go_ret
    exact ⟨rfl, hb1⟩

def Kp (w : World) (g : Nat) (A : Option Addr) (l f : List Nat) (ws : World) : Prop :=
  Below w.heap.size w ws ∧ Lay ws A l ∧ Lay ws (some ⟨w.heap.size, 0, none⟩) f ∧ Lay ws (some ⟨g, 0, none⟩) l
theorem Kp.next {w ws ws' : World} {g : Nat} {A : Option Addr} {l f : List Nat} (h : Kp w g A l f ws) (hb : Below ws.heap.size ws ws') : Kp w g A l f ws' :=
  ⟨h.1.trans (hb.mono h.1.size), h.2.1.below hb, h.2.2.1.below hb, h.2.2.2.below hb⟩
theorem Kp.all {w ws : World} {g c z : Nat} {A : Option Addr} {l f : List Nat} (h : Kp w g A l f ws) (hs : Small l) (hf : Small f) (hz : f.length = z) :
    (convert 22 9 (.slice (some ⟨w.heap.size, 0, none⟩) z z)).run Tryd.prog ws = .ok (.string (str f)) ws ∧ (convert 22 9 (.slice (some ⟨g, 0, none⟩) l.length l.length)).run Tryd.prog ws = .ok (.string (str l)) ws ∧
    (convert 22 9 (.slice A l.length c)).run Tryd.prog ws = .ok (.string (str l)) ws := by
  subst hz
  exact ⟨conv_any _ _ _ _ h.2.2.1 hf, conv_any _ _ _ _ h.2.2.2 hs, conv_any _ _ _ _ h.2.1 hs⟩

set_option maxHeartbeats 2000000 in
theorem walk_yes (w : World) (hT : Tab w) (A : Option Addr) (c : Nat) (l : List Nat) (z : Nat) (hL : Lay w A l) (hs : Small l) (hc : l.length ≤ c) (hc2 : c ≤ 9223372036854775807) (h1 : l.length ≤ 500) (h2 : z ≤ 2000) (h : 6 + l.length ≤ z) :
    Calls Tryd.prog 5 #[.slice A l.length c, .int .i64 z] w (Good w) := by
  have T := Lib.hid hT
  have L := Lib.hid hL
  clear hT hL
  have hfl := fit_len l z h
  have hfs := fit_small l z hs
  have hfw := fit_whole l z
  have hfc := fit_cnt l z (by omega)
  have hfp := fit_part l z (by omega)
  have hfm := fit_mid l z h (by omega)
  have F := Lib.hid (fit_yes A c l z w L.out hs hc hc2 h (by omega) T.out)
  have RF := Lib.hid (fun (w : World) (hL : Lay w A l) => rfit_any A c l z w hL hs h1 h h2)
  have i1 : (6 : Int) ≤ z := by omega
  have i2 : (l.length : Int) ≤ (z : Int) - 6 := by omega
  unfold FitPost at F
  generalize fitAll l z = f at *
  have PG := Lib.hid (fun (w : World) (b : Nat) (hL : Lay w (some ⟨b, 0, none⟩) f) (hT : Tab w) => part_good b 0 z f w hL hfs (by omega) (by omega) (by omega) hT (decide_eq_true (by omega)) hfw (by omega) hfm)
  rw [hfp, hfl] at PG
  have FS := Lib.hid hfs
  have FL := Lib.hid hfl
  clear hfs hfl hfw hfc hfp hfm
  go_enter Tryd.func5, Tryd.ntmps5
  go_wp2_with fail
  refine F.out.mono ?_
  rintro e w1 ⟨rfl, hon, hb1⟩
  have hly := hon.lay 0 f.length
  rw [List.drop_zero, List.take_length] at hly
  have LF := Lib.hid hly
  have B1 := Lib.hid hb1
  have T1 := Lib.hid (tab_mono T.out hb1)
  clear F hon hb1 hly
  go_wp2_with fail
  refine (PG.out _ _ LF.out T1.out).mono ?_
  rintro e w2 ⟨g, rfl, hg, hon2, hb2⟩
  have hl2 := hon2.lay 0 l.length
  rw [List.drop_zero, List.take_length] at hl2
  have hb02 := B1.out.trans (hb2.mono B1.out.size)
  have hkd : Kp w g A l f w2.drew := Kp.next ⟨hb02, L.out.below hb02, LF.out.below hb2, hl2⟩ (Below.refl _ _).drew
  have KD := Lib.hid hkd
  have SL := Lib.hid hs
  clear hg hon2 hb2 hl2 hb02 hkd PG LF B1 T1 L hs
  go_wp2_with fail
  go_region_held (fun ws => (convert 22 9 (.slice (some ⟨w.heap.size, 0, none⟩) z z)).run Tryd.prog ws = .ok (.string (str f)) ws ∧ (convert 22 9 (.slice (some ⟨g, 0, none⟩) l.length l.length)).run Tryd.prog ws = .ok (.string (str l)) ws ∧
    (convert 22 9 (.slice A l.length c)).run Tryd.prog ws = .ok (.string (str l)) ws)
    (first | exact (Hid.out K4).all (Hid.out SL) (Hid.out FS) (Hid.out FL) | exact (Hid.out K3).all (Hid.out SL) (Hid.out FS) (Hid.out FL) | exact (Hid.out KD).all (Hid.out SL) (Hid.out FS) (Hid.out FL))
    (first | (go_at_call 16; refine (RF.out _ (Hid.out KD).2.1).mono ?_; rintro e w3 ⟨v, rfl, own3, hb3⟩; obtain ⟨A3, c3, rfl, hl3, -, -⟩ := own3.lay; have CV3 := conv_any _ _ c3 _ hl3 (Hid.out FS); have K3 := Lib.hid (Kp.next (Hid.out KD) hb3); clear own3 hb3 hl3) | (go_at_call 8; refine (awake_any _ (tab_mono T.out (Hid.out K3).1)).mono ?_; rintro e w4 ⟨rfl, hb4⟩; have K4 := Lib.hid (Kp.next (Hid.out K3) hb4); clear hb4))
  all_goals
    go_wp2
    go_ret
    exact ⟨rfl, K4.out.1⟩

theorem walk (w : World) (hT : Tab w) (A : Option Addr) (c : Nat) (zs : List Int) (h1 : Nums .u8 w A zs) (hc : zs.length ≤ c) (hm : c ≤ maxLen) (hw : ∀ n ∈ zs, (Lit.int .u8 n).wf = true) (z : Int) (hz : (Lit.int .i64 z).wf = true) :
    Calls Tryd.prog 5 #[.slice A zs.length c, .int .i64 z] w fun e w' => e = .returned (.bool true) ∧ Below w.heap.size w w' := by
  obtain ⟨l, e1, hL, hs⟩ := nats h1 hw
  have hzz : -9223372036854775808 ≤ z ∧ z ≤ 9223372036854775807 := by simpa [Lit.wf, IntKind.min, IntKind.max, IntKind.signed, IntKind.bits] using hz
  unfold maxLen at hm
  rw [e1] at hc ⊢
  by_cases q : 500 < l.length ∨ l.length ≤ 500 ∧ 2000 < z ∧ z ≤ 65536
  · exact walk_long w hT A c l z hc (by omega) q
  · by_cases q2 : z < 6 ∨ 65536 < z ∨ 6 ≤ z ∧ z ≤ 2000 ∧ z - 6 < l.length
    · exact walk_no w hT A c l z hc (by omega) (by omega) hzz.1 hzz.2 q2
    · obtain ⟨n, rfl⟩ : ∃ n : Nat, z = n := ⟨z.toNat, by omega⟩
      exact walk_yes w hT A c l n hL hs hc (by omega) (by omega) (by omega) (by omega)

theorem contract (H : Type) (enc : TypeId × Value → H) (W : World) (bs : Nat) (args : Array Value) (ds gs : List (DataW H)) (before : List MemPlace)
    (hval : ∀ (j : Nat) t v, Tryd.f5.params[j]? = some t → args[j]? = some v → Value.okWide Tryd.prog W .any bs t v)
    (hW : DataW.Whole enc Tryd.prog Tryd.f5.params.toList Rows.sealFitsSpec.vars false W args.toList ds gs before) (hL : laidMetH Tryd.prog Rows.sealFitsRow.laid W) :
    Calls Tryd.prog 5 args W fun e W' => ∃ v, e = .returned v ∧ Rows.sealFitsSpec.post enc Tryd.prog Tryd.f5 false true false false W args v W' := by
  have hW' := hW
  obtain ⟨p, q, hA0, hV, rfl, _, _⟩ := hW
  have hA : DataW.TrodAll enc Tryd.prog W 0 (fun _ => true) true Tryd.f5.params.toList args.toList ds p := hA0
  rw [Tryd.params5] at hA hval
  obtain ⟨v0, vs0, d0, ds0, p0, q0, hargs, rfl, rfl, h0, r0⟩ := trodAll_cons hA
  obtain ⟨v1, vs1, d1, ds1, p1, q1, rfl, rfl, rfl, h1, r1⟩ := trodAll_cons r0
  obtain ⟨rfl, rfl, rfl⟩ := trodAll_nil r1
  obtain rfl : args = #[v0, v1] := by cases args; simp_all
  obtain ⟨rfl, rfl⟩ := trodVars_none hV
  obtain ⟨A0, c0, l0, rfl, b0, m0, n0, w0⟩ := base.open_nums Tryd.underlying22 Tryd.underlying5 (by kernel_rfl) (hval 0 22 v0 rfl rfl) h0
  obtain ⟨a1, rfl, rfl, rfl, w1⟩ := open_int Tryd.underlying3 (hval 1 3 v1 rfl rfl) h1
  clear hA0
  refine (walk W (tableOf hL) A0 c0 l0 n0 b0 m0 w0 a1 w1).mono fun e W' ⟨he, hb⟩ => ?_
  subst he
  exact ⟨_, rfl, base.law_post base.laid (by kernel_rfl) rfl rfl Tryd.underlying4 hW' rfl rfl rfl hb⟩

noncomputable def laidWorld (os : Os) : World :=
  { World.holding Tryd.prog os ⟨#[], #[], []⟩ with heap := (World.holding Tryd.prog os ⟨#[], #[], []⟩).heap.modify 0 fun
      | .cells _ t frozen => .cells #[.int .u32 0, .int .u32 498536548, .int .u32 997073096, .int .u32 651767980, .int .u32 1994146192, .int .u32 1802195444, .int .u32 1303535960, .int .u32 1342533948, .int .u32 3988292384, .int .u32 4027552580, .int .u32 3604390888, .int .u32 3412177804, .int .u32 2607071920, .int .u32 2262029012, .int .u32 2685067896, .int .u32 3183342108] t frozen
      | o => o }
theorem laid_met (os : Os) : laidMet Tryd.prog Rows.sealFitsRow.laid ((laidWorld os).forCall (fun _ _ => 0) ⟨#[], #[.slice none 0 0, .int .i64 0], []⟩).memory :=
  laidMet_of_run' 8 (by kernel_rfl) (by kernel_rfl)
theorem reads (os : Os) {H : Type} (enc : TypeId × Value → H) : ∃ places, DataW.whole enc Tryd.prog ((laidWorld os).forCall (fun _ _ => 0) ⟨#[], #[.slice none 0 0, .int .i64 0], []⟩).memory Tryd.f5.params.toList Rows.sealFitsSpec.vars false (#[.slice none 0 0, .int .i64 0] : Array Value).toList 8 = some ([.nil, .lit (.int .i64 0)], [], places) :=
  ⟨[], by kernel_rfl⟩

set_option maxRecDepth 100000 in
theorem lifted (os : Os) (started : os.Started) (H : Type) (enc : TypeId × Value → H) (F : Stop.Interp) :
    ReturnsInHanded {} Tryd.checked os 5 .any ((OpenSpec.ofChange Rows.sealFitsSpec).preRow enc Tryd.prog Tryd.f5 Rows.sealFitsRow.domain false Rows.sealFitsRow.laid) (((OpenSpec.ofChange Rows.sealFitsSpec).at F).post enc Tryd.prog Tryd.f5 false true false false) := by
  obtain ⟨places, hx⟩ := reads os enc
  refine returnsInHanded_of_row (C := Tryd.checked) (s := OpenSpec.ofChange Rows.sealFitsSpec) base.own started (by kernel_rfl) Tryd.func5
    (witness_row_at (enc := enc) (C := Tryd.checked) false (laidWorld os) #[.slice none 0 0, .int .i64 0] rfl (by kernel_rfl) (by kernel_rfl) (by kernel_rfl)
      (OpenSpec.preRow_of_cond 8 hx (by kernel_rfl) (fun k hk => by cases hk) (by kernel_rfl) (laid_met os))) ?_
  intro W bs args ds gs before hval hW _ _ _ hL _ _
  exact contract H enc W bs args ds gs before hval hW hL

theorem said : Rows.SealFitsSaid :=
  OpenClaim.holds_of_cond 5 Tryd.f5 rfl rfl rfl rfl rfl rfl rfl ⟨rfl, rfl, rfl, rfl, rfl⟩ rfl rfl rfl rfl rfl (by kernel_rfl) Tryd.func5 (by kernel_rfl)
    (of_decide_eq_true (by kernel_rfl)) (by unfold Func.isWrapper; first | (rw [if_pos (by decide +kernel)]; kernel_rfl) | (rw [if_neg (by decide +kernel)]; exact ⟨rfl, rfl⟩))
    (fun os started H enc _ F => by rw [OpenClaim.pre_eq_preRow]; exact lifted os started H enc F)

theorem plain (f : FuncId) (fn : Func) (hf : Tryd.pinned.checked.prog.funcNamed "deedhold/deedholdlaw03.SealFits" = some f) (hfn : Tryd.pinned.checked.prog.funcs[f]? = some fn) :
    false = Tryd.pinned.checked.prog.looks [] ∧ ∀ (j : Nat) t, fn.params[j]? = some t → Tryd.pinned.checked.prog.wantsStandIn t = false := by
  obtain rfl : f = 5 := Option.some.inj ((show Tryd.prog.funcNamed "deedhold/deedholdlaw03.SealFits" = some 5 by kernel_rfl).symm.trans hf) |>.symm
  obtain rfl : fn = Tryd.f5 := (Option.some.inj (Tryd.func5.symm.trans hfn)).symm
  refine ⟨by kernel_rfl, fun j t ht => ?_⟩
  rw [Tryd.params5] at ht
  have ht2 : t = 22 ∨ t = 3 := by simpa using Array.mem_of_getElem? ht
  rcases ht2 with rfl | rfl
  all_goals first | exact (show Tryd.prog.wantsStandIn _ = false by kernel_rfl)

theorem card : Rows.SealFitsCardSaid :=
  Claim7.holds_tied_plain_at .later [] _ _ _ _ said (fun _ h => by cases h) (by kernel_rfl) (fun _ h => by cases h) sealFits_row_tie rfl ⟨rfl, rfl⟩ (by kernel_rfl) rfl plain (by kernel_rfl)
#print axioms card
end Go.Proofs.YtnbpjpfikepafaaDoor.sealFits
