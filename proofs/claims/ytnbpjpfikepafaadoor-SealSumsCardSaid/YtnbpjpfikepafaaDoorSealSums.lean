/-
  SealSums: for every two lists of bytes the law answers true, the table of the sum being what the program's text lays. Conditions: none.
-/
import Derived.Test.YtnbpjpfikepafaaDoorSealH
import Derived.Test.YtnbpjpfikepafaaDoorCards
import Derived.Test.YtnbpjpfikepafaaDoorTie
import Derived.Deep.DeepHandedRow
import Derived.Lib.LaidTab
namespace Go.Proofs.YtnbpjpfikepafaaDoor.sealSums
open Go.ChangeShapes Go.WideShapes Go.ChangeAt Go.RowKit
open sl
open base (ret_bool ret_int made up Blk Only Nums)
open crc
set_option linter.unusedVariables false

theorem gTab : Tryd.prog.globalNamed "deedhold/seal.half" = some 0 := by kernel_rfl
theorem gTabType : (Tryd.prog.globals[0]?).map (·.type) = some 38 := by kernel_rfl
theorem cells16 : Tryd.prog.cellsOf 38 = 16 := by kernel_rfl
theorem cells1 : Tryd.prog.cellsOf 24 = 1 := by kernel_rfl
theorem table {W : World} (h : laidMetH Tryd.prog Rows.sealSumsRow.laid W) : Lib.TabIs Tryd.prog W "deedhold/seal.half" .u32 [0, 498536548, 997073096, 651767980, 1994146192, 1802195444, 1303535960, 1342533948, 3988292384, 4027552580, 3604390888, 3412177804, 2607071920, 2262029012, 2685067896, 3183342108] :=
  Lib.tabIs_of_head (rest := []) gTab gTabType Tryd.underlying38 Tryd.underlying24 cells1 cells16 h
theorem tableOf {W : World} (h : laidMetH Tryd.prog Rows.sealSumsRow.laid W) : Tab W := by
  have c : ∀ k, k < 16 → W.cell? ⟨0, k, none⟩ = some (.int .u32 (tab k : Nat)) := by
    intro k hk
    have := (table h).cell gTab k (by simpa using hk)
    rw [this]
    have h2 : ∀ k : Fin 16, ([0, 498536548, 997073096, 651767980, 1994146192, 1802195444, 1303535960, 1342533948, 3988292384, 4027552580, 3604390888, 3412177804, 2607071920, 2262029012, 2685067896, 3183342108] : List Int).getD k.1 0 = (tab k.1 : Nat) := by decide
    have h3 := h2 ⟨k, hk⟩
    rw [← h3]
  exact ⟨World.block_lt_of_cell? W _ (c 0 (by omega)), c⟩

theorem nats {w : World} {A : Option Addr} {zs : List Int} (h : Nums .u8 w A zs) (hw : ∀ n ∈ zs, (Lit.int .u8 n).wf = true) : ∃ l : List Nat, zs.length = l.length ∧ Lay w A l ∧ Small l := by
  have hz : ∀ n ∈ zs, 0 ≤ n ∧ n ≤ 255 := fun n hn => by simpa [Lit.wf, IntKind.min, IntKind.max, IntKind.signed, IntKind.bits] using hw n hn
  refine ⟨zs.map Int.toNat, by simp, ?_, ?_⟩
  · have e : ints (zs.map Int.toNat) = zs := by
      unfold ints
      rw [List.map_map]
      conv => rhs; rw [← List.map_id zs]
      apply List.map_congr_left
      intro n hn
      have := hz n hn
      show ((n.toNat : Nat) : Int) = n
      omega
    unfold Lay
    rw [e]
    exact h
  · intro c hc
    obtain ⟨n, hn, rfl⟩ := List.mem_map.1 hc
    have := hz n hn
    omega

def Good (w : World) (e : Ending) (w' : World) : Prop := e = .returned (.bool true) ∧ Below w.heap.size w w'

set_option maxHeartbeats 1000000 in
theorem walk_long (w : World) (hT : Tab w) (A B : Option Addr) (c d : Nat) (l m : List Nat) (hc : l.length ≤ c) (hc2 : c ≤ 9223372036854775807) (hd : m.length ≤ d) (hd2 : d ≤ 9223372036854775807) (h : 500 < l.length ∨ 500 < m.length) :
    Calls Tryd.prog 3 #[.slice A l.length c, .slice B m.length d] w (Good w) := by
  have T := Lib.hid hT
  clear hT
  by_cases h1 : 500 < l.length
  · go_enter Tryd.func3, Tryd.ntmps3
    go_wp2_with (go_at_call 8; refine (awake_any _ T.out).mono ?_; rintro e w1 ⟨rfl, hb1⟩)
    go_ret
    exact ⟨rfl, hb1⟩
  · have h2 : 500 < m.length := by omega
    clear h
    go_enter Tryd.func3, Tryd.ntmps3
    go_wp2_with (go_at_call 8; refine (awake_any _ T.out).mono ?_; rintro e w1 ⟨rfl, hb1⟩)
    go_ret
    exact ⟨rfl, hb1⟩

theorem two_part {w : World} {A B : Option Addr} {l m : List Nat} {c d : Nat} (h : Lay w A l) (hs : Small l) (hl : l.length ≤ 9223372036854775807) (h' : Lay w B m) (hs' : Small m) (hl' : m.length ≤ 9223372036854775807) :
    Parts (w.alloc (.cells #[.slice A l.length c, .slice B m.length d] 22)) (some ⟨w.heap.size, 0, none⟩) [l, m] := by
  intro i hi
  have h2 : i = 0 ∨ i = 1 := by simp at hi; omega
  rcases h2 with rfl | rfl
  · exact ⟨w.heap.size, 0, A, c, rfl, by simp, by simp, hl, h.alloc _, hs⟩
  · exact ⟨w.heap.size, 0, B, d, rfl, by simp, by simp, hl', h'.alloc _, hs'⟩

set_option maxHeartbeats 2000000 in
theorem walk_main (w : World) (hT : Tab w) (A B : Option Addr) (c d : Nat) (l m : List Nat) (hL : Lay w A l) (hM : Lay w B m) (hs : Small l) (ht : Small m) (h1 : l.length ≤ 500) (h2 : m.length ≤ 500) :
    Calls Tryd.prog 3 #[.slice A l.length c, .slice B m.length d] w (Good w) := by
  have T := Lib.hid hT
  have L := Lib.hid hL
  have M := Lib.hid hM
  clear hT hL hM
  have O0 : Own (w.alloc (.cells #[] 5)) w.heap.size (.slice (some ⟨w.heap.size, 0, none⟩) 0 0) [] := World.ownsRow_made w #[] 0 (Nat.le_refl _) (by unfold maxLen; omega) rfl
  have OO := Lib.hid O0
  clear O0
  go_enter Tryd.func3, Tryd.ntmps3
  go_wp2_with ((with_reducible show wpList _ _ _ (⟨some 17, _, _, _, _, _⟩ :: _) _ _); go_must (refine wp_app rfl _ _ rfl rfl rfl rfl OO.out (L.out.alloc _) (by simp; omega) (by simp) ?_))
  intro v1 w1 own1 hb1
  have O1 := Lib.hid own1
  have K1 := Lib.hid ((made w (.cells #[] 5)).trans hb1)
  clear own1 hb1
  go_wp2_with ((with_reducible show wpList _ _ _ (⟨some 19, _, _, _, _, _⟩ :: _) _ _); go_must (refine wp_app rfl _ _ rfl rfl rfl rfl O1.out (M.out.below K1.out) (by omega) K1.out.size ?_))
  intro v2 w2 own2 hb2
  obtain ⟨A2, c2, rfl, hL2, hlc, hc2⟩ := own2.lay
  have K2 := Lib.hid (K1.out.trans hb2)
  have hsm := small_app hs ht
  have hlen : (l ++ m).length ≤ 1000 := by simp; omega
  obtain ⟨al, hal⟩ : ∃ al, al = l ++ m := ⟨_, rfl⟩
  rw [← hal] at hL2 hlc hsm hlen ⊢
  have AL := Lib.hid hal
  have L2 := Lib.hid hL2
  have SM := Lib.hid hsm
  clear hal hL2 own2 hb2 hsm
  have T2 := Lib.hid (tab_mono T.out K2.out)
  have x1 : (([al] : List (List Nat)).flatten) = al := by simp
  have x2 : (([l, m] : List (List Nat)).flatten) = al := by rw [AL.out]; simp
  have x3 : (([l] : List (List Nat)).flatten) = l := by simp
  have X1 := Lib.hid x1
  have X2 := Lib.hid x2
  have X3 := Lib.hid x3
  clear x1 x2 x3
  go_wp2_with fail
  refine (sum_any _ 1 [al] _ (by simp) (one_part L2.out SM.out (by omega)) (T2.out.alloc _)).mono ?_
  rintro e w3 ⟨rfl, rfl⟩
  rw [X1.out]
  go_wp2_with fail
  refine (rsum_any _ _ al _ (by omega) (L2.out.alloc _) SM.out).mono ?_
  rintro e w4 ⟨rfl, rfl⟩
  have K3 := Lib.hid (K2.out.trans ((made w2 (.cells #[.slice A2 al.length c2] 22)).mono K2.out.size))
  have L3 := Lib.hid (L2.out.alloc (.cells #[.slice A2 al.length c2] 22))
  generalize w2.alloc (.cells #[.slice A2 al.length c2] 22) = w3 at *
  have T3 := Lib.hid (tab_mono T.out K3.out)
  obtain ⟨S, hS⟩ : ∃ S, S = sum al := ⟨_, rfl⟩
  rw [← hS]
  have SS := Lib.hid hS
  clear hS
  go_wp2_with fail
  refine (sum_any _ 2 [l, m] _ (by simp) (two_part (L.out.below K3.out) hs (by omega) (M.out.below K3.out) ht (by omega)) (T3.out.alloc _)).mono ?_
  rintro e w4 ⟨rfl, rfl⟩
  rw [X2.out, ← SS.out]
  go_wp2_with fail
  refine (rsum_any _ _ al _ (by omega) (L3.out.alloc _) SM.out).mono ?_
  rintro e w4 ⟨rfl, rfl⟩
  rw [← SS.out]
  have K4 := Lib.hid (K3.out.trans ((made w3 (.cells #[.slice A l.length c, .slice B m.length d] 22)).mono K3.out.size))
  generalize w3.alloc (.cells #[.slice A l.length c, .slice B m.length d] 22) = w4 at *
  have T4 := Lib.hid (tab_mono T.out K4.out)
  obtain ⟨R, hR⟩ : ∃ R, R = sum l := ⟨_, rfl⟩
  have RR := Lib.hid hR
  clear hR
  go_wp2_with fail
  refine (sum_any _ 1 [l] _ (by simp) (one_part (L.out.below K4.out) hs (by omega)) (T4.out.alloc _)).mono ?_
  rintro e w5 ⟨rfl, rfl⟩
  rw [X3.out, ← RR.out]
  go_wp2_with fail
  refine (rsum_any _ _ l _ (by omega) ((L.out.below K4.out).alloc _) hs).mono ?_
  rintro e w5 ⟨rfl, rfl⟩
  rw [← RR.out]
  have K5 := Lib.hid (K4.out.trans ((made w4 (.cells #[.slice A l.length c] 22)).mono K4.out.size))
  generalize w4.alloc (.cells #[.slice A l.length c] 22) = w5 at *
  have T5 := Lib.hid (tab_mono T.out K5.out)
  go_wp2_with fail
  refine (awake_any _ T5.out).mono ?_
  rintro e w6 ⟨rfl, hb6⟩
  have K6 := Lib.hid (K5.out.trans (hb6.mono K5.out.size))
  clear hb6
  go_wp2
  go_ret
  exact ⟨rfl, K6.out⟩

theorem walk (w : World) (hT : Tab w) (A : Option Addr) (c : Nat) (zs : List Int) (h1 : Nums .u8 w A zs) (hc : zs.length ≤ c) (hm : c ≤ maxLen) (hw : ∀ n ∈ zs, (Lit.int .u8 n).wf = true)
    (B : Option Addr) (d : Nat) (ys : List Int) (h2 : Nums .u8 w B ys) (hd : ys.length ≤ d) (hm2 : d ≤ maxLen) (hw2 : ∀ n ∈ ys, (Lit.int .u8 n).wf = true) :
    Calls Tryd.prog 3 #[.slice A zs.length c, .slice B ys.length d] w fun e w' => e = .returned (.bool true) ∧ Below w.heap.size w w' := by
  obtain ⟨l, e1, hL, hs⟩ := nats h1 hw
  obtain ⟨m, e2, hM, ht⟩ := nats h2 hw2
  unfold maxLen at hm hm2
  rw [e1, e2]
  by_cases q : 500 < l.length ∨ 500 < m.length
  · exact walk_long w hT A B c d l m (by omega) (by omega) (by omega) (by omega) q
  · exact walk_main w hT A B c d l m hL hM hs ht (by omega) (by omega)

theorem contract (H : Type) (enc : TypeId × Value → H) (W : World) (bs : Nat) (args : Array Value) (ds gs : List (DataW H)) (before : List MemPlace)
    (hval : ∀ (j : Nat) t v, Tryd.f3.params[j]? = some t → args[j]? = some v → Value.okWide Tryd.prog W .any bs t v)
    (hW : DataW.Whole enc Tryd.prog Tryd.f3.params.toList Rows.sealSumsSpec.vars false W args.toList ds gs before) (hL : laidMetH Tryd.prog Rows.sealSumsRow.laid W) :
    Calls Tryd.prog 3 args W fun e W' => ∃ v, e = .returned v ∧ Rows.sealSumsSpec.post enc Tryd.prog Tryd.f3 false true false false W args v W' := by
  have hW' := hW
  obtain ⟨p, q, hA0, hV, rfl, _, _⟩ := hW
  have hA : DataW.TrodAll enc Tryd.prog W 0 (fun _ => true) true Tryd.f3.params.toList args.toList ds p := hA0
  rw [Tryd.params3] at hA hval
  obtain ⟨v0, vs0, d0, ds0, p0, q0, hargs, rfl, rfl, h0, r0⟩ := trodAll_cons hA
  obtain ⟨v1, vs1, d1, ds1, p1, q1, rfl, rfl, rfl, h1, r1⟩ := trodAll_cons r0
  obtain ⟨rfl, rfl, rfl⟩ := trodAll_nil r1
  obtain rfl : args = #[v0, v1] := by cases args; simp_all
  obtain ⟨rfl, rfl⟩ := trodVars_none hV
  obtain ⟨A0, c0, l0, rfl, b0, m0, n0, w0⟩ := base.open_nums Tryd.underlying22 Tryd.underlying5 (by kernel_rfl) (hval 0 22 v0 rfl rfl) h0
  obtain ⟨A1, c1, l1, rfl, b1, m1, n1, w1⟩ := base.open_nums Tryd.underlying22 Tryd.underlying5 (by kernel_rfl) (hval 1 22 v1 rfl rfl) h1
  clear hA0
  refine (walk W (tableOf hL) A0 c0 l0 n0 b0 m0 w0 A1 c1 l1 n1 b1 m1 w1).mono fun e W' ⟨he, hb⟩ => ?_
  subst he
  exact ⟨_, rfl, base.law_post base.laid (by kernel_rfl) rfl rfl Tryd.underlying4 hW' rfl rfl rfl hb⟩

noncomputable def laidWorld (os : Os) : World :=
  { World.holding Tryd.prog os ⟨#[], #[], []⟩ with heap := (World.holding Tryd.prog os ⟨#[], #[], []⟩).heap.modify 0 fun
      | .cells _ t frozen => .cells #[.int .u32 0, .int .u32 498536548, .int .u32 997073096, .int .u32 651767980, .int .u32 1994146192, .int .u32 1802195444, .int .u32 1303535960, .int .u32 1342533948, .int .u32 3988292384, .int .u32 4027552580, .int .u32 3604390888, .int .u32 3412177804, .int .u32 2607071920, .int .u32 2262029012, .int .u32 2685067896, .int .u32 3183342108] t frozen
      | o => o }
theorem laid_met (os : Os) : laidMet Tryd.prog Rows.sealSumsRow.laid ((laidWorld os).forCall (fun _ _ => 0) ⟨#[], #[.slice none 0 0, .slice none 0 0], []⟩).memory :=
  laidMet_of_run' 8 (by kernel_rfl) (by kernel_rfl)
theorem reads (os : Os) {H : Type} (enc : TypeId × Value → H) : ∃ places, DataW.whole enc Tryd.prog ((laidWorld os).forCall (fun _ _ => 0) ⟨#[], #[.slice none 0 0, .slice none 0 0], []⟩).memory Tryd.f3.params.toList Rows.sealSumsSpec.vars false (#[.slice none 0 0, .slice none 0 0] : Array Value).toList 8 = some ([.nil, .nil], [], places) :=
  ⟨[], by kernel_rfl⟩

set_option maxRecDepth 100000 in
theorem lifted (os : Os) (started : os.Started) (H : Type) (enc : TypeId × Value → H) (F : Stop.Interp) :
    ReturnsInHanded {} Tryd.checked os 3 .any ((OpenSpec.ofChange Rows.sealSumsSpec).preRow enc Tryd.prog Tryd.f3 Rows.sealSumsRow.domain false Rows.sealSumsRow.laid) (((OpenSpec.ofChange Rows.sealSumsSpec).at F).post enc Tryd.prog Tryd.f3 false true false false) := by
  obtain ⟨places, hx⟩ := reads os enc
  refine returnsInHanded_of_row (C := Tryd.checked) (s := OpenSpec.ofChange Rows.sealSumsSpec) base.own started (by kernel_rfl) Tryd.func3
    (witness_row_at (enc := enc) (C := Tryd.checked) false (laidWorld os) #[.slice none 0 0, .slice none 0 0] rfl (by kernel_rfl) (by kernel_rfl) (by kernel_rfl)
      (OpenSpec.preRow_of_cond 8 hx (by kernel_rfl) (fun k hk => by cases hk) (by kernel_rfl) (laid_met os))) ?_
  intro W bs args ds gs before hval hW _ _ _ hL _ _
  exact contract H enc W bs args ds gs before hval hW hL

theorem said : Rows.SealSumsSaid :=
  OpenClaim.holds_of_cond 3 Tryd.f3 rfl rfl rfl rfl rfl rfl rfl ⟨rfl, rfl, rfl, rfl, rfl⟩ rfl rfl rfl rfl rfl (by kernel_rfl) Tryd.func3 (by kernel_rfl)
    (of_decide_eq_true (by kernel_rfl)) (by unfold Func.isWrapper; first | (rw [if_pos (by decide +kernel)]; kernel_rfl) | (rw [if_neg (by decide +kernel)]; exact ⟨rfl, rfl⟩))
    (fun os started H enc _ F => by rw [OpenClaim.pre_eq_preRow]; exact lifted os started H enc F)

theorem plain (f : FuncId) (fn : Func) (hf : Tryd.pinned.checked.prog.funcNamed "deedhold/deedholdlaw03.SealSums" = some f) (hfn : Tryd.pinned.checked.prog.funcs[f]? = some fn) :
    false = Tryd.pinned.checked.prog.looks [] ∧ ∀ (j : Nat) t, fn.params[j]? = some t → Tryd.pinned.checked.prog.wantsStandIn t = false := by
  obtain rfl : f = 3 := Option.some.inj ((show Tryd.prog.funcNamed "deedhold/deedholdlaw03.SealSums" = some 3 by kernel_rfl).symm.trans hf) |>.symm
  obtain rfl : fn = Tryd.f3 := (Option.some.inj (Tryd.func3.symm.trans hfn)).symm
  refine ⟨by kernel_rfl, fun j t ht => ?_⟩
  rw [Tryd.params3] at ht
  have ht2 : t = 22 ∨ t = 22 := by simpa using Array.mem_of_getElem? ht
  rcases ht2 with rfl | rfl
  all_goals first | exact (show Tryd.prog.wantsStandIn _ = false by kernel_rfl)

theorem card : Rows.SealSumsCardSaid :=
  Claim7.holds_tied_plain_at .later [] _ _ _ _ said (fun _ h => by cases h) (by kernel_rfl) (fun _ h => by cases h) sealSums_row_tie rfl ⟨rfl, rfl⟩ (by kernel_rfl) rfl plain (by kernel_rfl)
#print axioms card
end Go.Proofs.YtnbpjpfikepafaaDoor.sealSums
