/-
  SealParts: for every list of bytes and every number of a bit the law answers true, the table of the sum being what the program's text lays. Conditions: none.
-/
import Derived.Test.YtnmoipkodpaihaaDoorSealPartsC
import Derived.Test.YtnmoipkodpaihaaDoorCards
import Derived.Test.YtnmoipkodpaihaaDoorTie
import Derived.Deep.DeepHandedRow
import Derived.Lib.LaidTab
namespace Go.Proofs.YtnmoipkodpaihaaDoor.sealParts
open Go.ChangeShapes Go.WideShapes Go.ChangeAt Go.RowKit
open sl
open base (ret_bool ret_int made up Blk Only Nums)
open crc
set_option linter.unusedVariables false

theorem gTab : Tryd.prog.globalNamed "deedhold/seal.half" = some 0 := by kernel_rfl
theorem gTabType : (Tryd.prog.globals[0]?).map (·.type) = some 38 := by kernel_rfl
theorem cells16 : Tryd.prog.cellsOf 38 = 16 := by kernel_rfl
theorem cells1 : Tryd.prog.cellsOf 24 = 1 := by kernel_rfl
theorem table {W : World} (h : laidMetH Tryd.prog Rows.sealPartsRow.laid W) : Lib.TabIs Tryd.prog W "deedhold/seal.half" .u32 [0, 498536548, 997073096, 651767980, 1994146192, 1802195444, 1303535960, 1342533948, 3988292384, 4027552580, 3604390888, 3412177804, 2607071920, 2262029012, 2685067896, 3183342108] :=
  Lib.tabIs_of_head (rest := []) gTab gTabType Tryd.underlying38 Tryd.underlying24 cells1 cells16 h
theorem tableOf {W : World} (h : laidMetH Tryd.prog Rows.sealPartsRow.laid W) : Tab W := by
  have c : ∀ k, k < 16 → W.cell? ⟨0, k, none⟩ = some (.int .u32 (tab k : Nat)) := by
    intro k hk
    have := (table h).cell gTab k (by simpa using hk)
    rw [this]
    have h2 : ∀ k : Fin 16, ([0, 498536548, 997073096, 651767980, 1994146192, 1802195444, 1303535960, 1342533948, 3988292384, 4027552580, 3604390888, 3412177804, 2607071920, 2262029012, 2685067896, 3183342108] : List Int).getD k.1 0 = (tab k.1 : Nat) := by decide
    have h3 := h2 ⟨k, hk⟩
    rw [← h3]
  exact ⟨World.block_lt_of_cell? W _ (c 0 (by omega)), c⟩

theorem nats {w : World} {A : Option Addr} {zs : List Int} (h : Nums .u8 w A zs) (hw : ∀ n ∈ zs, (Lit.int .u8 n).wf = true) : ∃ l : List Nat, zs.length = l.length ∧ Lay w A l ∧ Small l := by
  have hz : ∀ n ∈ zs, 0 ≤ n ∧ n ≤ 255 := fun n hn => by simpa [Lit.wf, IntKind.min, IntKind.max, IntKind.signed, IntKind.bits] using hw n hn
  refine ⟨zs.map Int.toNat, by simp, ?_, ?_⟩
  · have e : ints (zs.map Int.toNat) = zs := by
      unfold ints
      rw [List.map_map]
      conv => rhs; rw [← List.map_id zs]
      apply List.map_congr_left
      intro n hn
      have := hz n hn
      show ((n.toNat : Nat) : Int) = n
      omega
    unfold Lay
    rw [e]
    exact h
  · intro c hc
    obtain ⟨n, hn, rfl⟩ := List.mem_map.1 hc
    have := hz n hn
    omega

theorem walk (w : World) (hT : Tab w) (A : Option Addr) (c : Nat) (zs : List Int) (h1 : Nums .u8 w A zs) (hc : zs.length ≤ c) (hm : c ≤ maxLen) (hw : ∀ n ∈ zs, (Lit.int .u8 n).wf = true) (z : Int) (hz : (Lit.int .i64 z).wf = true) :
    Calls Tryd.prog 6 #[.slice A zs.length c, .int .i64 z] w fun e w' => e = .returned (.bool true) ∧ Below w.heap.size w w' := by
  obtain ⟨l, e1, hL, hs⟩ := nats h1 hw
  have hzz : -9223372036854775808 ≤ z ∧ z ≤ 9223372036854775807 := by simpa [Lit.wf, IntKind.min, IntKind.max, IntKind.signed, IntKind.bits] using hz
  unfold maxLen at hm
  rw [e1] at hc ⊢
  by_cases q : 300 < l.length
  · exact walk_long w hT A c l z hc (by omega) q
  · by_cases q2 : l.length < 6
    · exact walk_few w hT A c l z hL hs hc (by omega) q2
    · obtain ⟨b, off, rfl, -⟩ := hL.at_ (show 0 < l.length by omega)
      by_cases q3 : l.length < cnt l + 6
      · exact walk_far w hT b off c l z hL hs hc (by omega) (by omega) (by omega) q3
      · cases hp : partB l with
        | false => exact walk_bad w hT b off c l z hL hs hc (by omega) (by omega) (by omega) (by omega) hp
        | true => exact walk_good w hT b off c l z hL hs hc (by omega) (by omega) (by omega) (by omega) hp hzz.1 hzz.2

theorem contract (H : Type) (enc : TypeId × Value → H) (W : World) (bs : Nat) (args : Array Value) (ds gs : List (DataW H)) (before : List MemPlace)
    (hval : ∀ (j : Nat) t v, Tryd.f6.params[j]? = some t → args[j]? = some v → Value.okWide Tryd.prog W .any bs t v)
    (hW : DataW.Whole enc Tryd.prog Tryd.f6.params.toList Rows.sealPartsSpec.vars false W args.toList ds gs before) (hL : laidMetH Tryd.prog Rows.sealPartsRow.laid W) :
    Calls Tryd.prog 6 args W fun e W' => ∃ v, e = .returned v ∧ Rows.sealPartsSpec.post enc Tryd.prog Tryd.f6 false true false false W args v W' := by
  have hW' := hW
  obtain ⟨p, q, hA0, hV, rfl, _, _⟩ := hW
  have hA : DataW.TrodAll enc Tryd.prog W 0 (fun _ => true) true Tryd.f6.params.toList args.toList ds p := hA0
  rw [Tryd.params6] at hA hval
  obtain ⟨v0, vs0, d0, ds0, p0, q0, hargs, rfl, rfl, h0, r0⟩ := trodAll_cons hA
  obtain ⟨v1, vs1, d1, ds1, p1, q1, rfl, rfl, rfl, h1, r1⟩ := trodAll_cons r0
  obtain ⟨rfl, rfl, rfl⟩ := trodAll_nil r1
  obtain rfl : args = #[v0, v1] := by cases args; simp_all
  obtain ⟨rfl, rfl⟩ := trodVars_none hV
  obtain ⟨A0, c0, l0, rfl, b0, m0, n0, w0⟩ := base.open_nums Tryd.underlying22 Tryd.underlying5 (by kernel_rfl) (hval 0 22 v0 rfl rfl) h0
  obtain ⟨a1, rfl, rfl, rfl, w1⟩ := open_int Tryd.underlying3 (hval 1 3 v1 rfl rfl) h1
  clear hA0
  refine (walk W (tableOf hL) A0 c0 l0 n0 b0 m0 w0 a1 w1).mono fun e W' ⟨he, hb⟩ => ?_
  subst he
  exact ⟨_, rfl, base.law_post base.laid (by kernel_rfl) rfl rfl Tryd.underlying4 hW' rfl rfl rfl hb⟩

noncomputable def laidWorld (os : Os) : World :=
  { World.holding Tryd.prog os ⟨#[], #[], []⟩ with heap := (World.holding Tryd.prog os ⟨#[], #[], []⟩).heap.modify 0 fun
      | .cells _ t frozen => .cells #[.int .u32 0, .int .u32 498536548, .int .u32 997073096, .int .u32 651767980, .int .u32 1994146192, .int .u32 1802195444, .int .u32 1303535960, .int .u32 1342533948, .int .u32 3988292384, .int .u32 4027552580, .int .u32 3604390888, .int .u32 3412177804, .int .u32 2607071920, .int .u32 2262029012, .int .u32 2685067896, .int .u32 3183342108] t frozen
      | o => o }
theorem laid_met (os : Os) : laidMet Tryd.prog Rows.sealPartsRow.laid ((laidWorld os).forCall (fun _ _ => 0) ⟨#[], #[.slice none 0 0, .int .i64 0], []⟩).memory :=
  laidMet_of_run' 8 (by kernel_rfl) (by kernel_rfl)
theorem reads (os : Os) {H : Type} (enc : TypeId × Value → H) : ∃ places, DataW.whole enc Tryd.prog ((laidWorld os).forCall (fun _ _ => 0) ⟨#[], #[.slice none 0 0, .int .i64 0], []⟩).memory Tryd.f6.params.toList Rows.sealPartsSpec.vars false (#[.slice none 0 0, .int .i64 0] : Array Value).toList 8 = some ([.nil, .lit (.int .i64 0)], [], places) :=
  ⟨[], by kernel_rfl⟩

set_option maxRecDepth 100000 in
theorem lifted (os : Os) (started : os.Started) (H : Type) (enc : TypeId × Value → H) (F : Stop.Interp) :
    ReturnsInHanded {} Tryd.checked os 6 .any ((OpenSpec.ofChange Rows.sealPartsSpec).preRow enc Tryd.prog Tryd.f6 Rows.sealPartsRow.domain false Rows.sealPartsRow.laid) (((OpenSpec.ofChange Rows.sealPartsSpec).at F).post enc Tryd.prog Tryd.f6 false true false false) := by
  obtain ⟨places, hx⟩ := reads os enc
  refine returnsInHanded_of_row (C := Tryd.checked) (s := OpenSpec.ofChange Rows.sealPartsSpec) base.own started (by kernel_rfl) Tryd.func6
    (witness_row_at (enc := enc) (C := Tryd.checked) false (laidWorld os) #[.slice none 0 0, .int .i64 0] rfl (by kernel_rfl) (by kernel_rfl) (by kernel_rfl)
      (OpenSpec.preRow_of_cond 8 hx (by kernel_rfl) (fun k hk => by cases hk) (by kernel_rfl) (laid_met os))) ?_
  intro W bs args ds gs before hval hW _ _ _ hL _ _
  exact contract H enc W bs args ds gs before hval hW hL

theorem said : Rows.SealPartsSaid :=
  OpenClaim.holds_of_cond 6 Tryd.f6 rfl rfl rfl rfl rfl rfl rfl ⟨rfl, rfl, rfl, rfl, rfl⟩ rfl rfl rfl rfl rfl (by kernel_rfl) Tryd.func6 (by kernel_rfl)
    (of_decide_eq_true (by kernel_rfl)) (by unfold Func.isWrapper; first | (rw [if_pos (by decide +kernel)]; kernel_rfl) | (rw [if_neg (by decide +kernel)]; exact ⟨rfl, rfl⟩))
    (fun os started H enc _ F => by rw [OpenClaim.pre_eq_preRow]; exact lifted os started H enc F)

theorem plain (f : FuncId) (fn : Func) (hf : Tryd.pinned.checked.prog.funcNamed "deedhold/deedholdlaw03.SealParts" = some f) (hfn : Tryd.pinned.checked.prog.funcs[f]? = some fn) :
    false = Tryd.pinned.checked.prog.looks [] ∧ ∀ (j : Nat) t, fn.params[j]? = some t → Tryd.pinned.checked.prog.wantsStandIn t = false := by
  obtain rfl : f = 6 := Option.some.inj ((show Tryd.prog.funcNamed "deedhold/deedholdlaw03.SealParts" = some 6 by kernel_rfl).symm.trans hf) |>.symm
  obtain rfl : fn = Tryd.f6 := (Option.some.inj (Tryd.func6.symm.trans hfn)).symm
  refine ⟨by kernel_rfl, fun j t ht => ?_⟩
  rw [Tryd.params6] at ht
  have ht2 : t = 22 ∨ t = 3 := by simpa using Array.mem_of_getElem? ht
  rcases ht2 with rfl | rfl
  all_goals first | exact (show Tryd.prog.wantsStandIn _ = false by kernel_rfl)

theorem card : Rows.SealPartsCardSaid :=
  Claim7.holds_tied_plain_at .later [] _ _ _ _ said (fun _ h => by cases h) (by kernel_rfl) (fun _ h => by cases h) sealParts_row_tie rfl ⟨rfl, rfl⟩ (by kernel_rfl) rfl plain (by kernel_rfl)
#print axioms card

end Go.Proofs.YtnmoipkodpaihaaDoor.sealParts
