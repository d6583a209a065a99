/-
  VarintBounds: for every list of bytes and every two bounds the law answers true. Conditions: none.
-/
import Derived.Test.YtjbbphdjemdinaaVarintBoundsA
import Derived.Test.YtjbbphdjemdinaaVarintBoundsB
import Derived.Test.YtjbbphdjemdinaaVarintBoundsC
import Derived.Test.YtjbbphdjemdinaaVarintBoundsD
namespace Go.Proofs.Ytjbbphdjemdinaa.varintBounds
open Go.ChangeShapes Go.WideShapes Go.ChangeAt Go.RowKit
open base (ret_bool ret_int made up Blk Only Nums)
open bytes vnum vi
set_option linter.unusedVariables false

theorem walk (w : World) (A : Option Addr) (c : Nat) (zs : List Int) (h1 : Nums .u8 w A zs) (hc : zs.length ≤ c) (hm : c ≤ maxLen) (hw : ∀ n ∈ zs, (Lit.int .u8 n).wf = true)
    (least : Int) (w1 : (Lit.int .i64 least).wf = true) (most : Int) (w2 : (Lit.int .i64 most).wf = true) :
    Calls Try.prog 6 #[.slice A zs.length c, .int .i64 least, .int .i64 most] w fun e w' => e = .returned (.bool true) ∧ Below w.heap.size w w' := by
  obtain ⟨l, e1, hL, hs⟩ := varintReads.nats h1 hw
  unfold maxLen at hm
  rw [e1] at hc ⊢
  by_cases q : 300 < l.length
  · exact walk_long w A c l least most hc (by omega) q
  have hm2 : c ≤ 9223372036854775807 := by omega
  have q2 : l.length ≤ 300 := by omega
  cases hd : dec l with
  | none => exact w_none w A c l least most hL hs hc hm2 q2 hd (.inl (by unfold cnt; rw [hd]))
  | some p =>
    obtain ⟨n, k⟩ := p
    by_cases hmm : n ≤ most
    · by_cases hz : 0 ≤ n
      · by_cases hf : n ≤ l.length - k
        · have hkl := (dec_some hs hd).2.2.1
          have hcn : cnt most l = some (n.toNat, l.drop k) := by unfold cnt; rw [hd]; simp; omega
          cases hr : rdN n.toNat (l.drop k) with
          | none =>
            by_cases ha : least ≤ n
            · exact w_in_azf w A c l least most hL hs hc hm2 q2 n k hd ha hmm hz hf (.inr ⟨_, _, hcn, hr⟩)
            · exact w_in_bzf w A c l least most hL hs hc hm2 q2 n k hd (by omega) hmm hz hf (.inr ⟨_, _, hcn, hr⟩)
          | some p =>
            obtain ⟨zs2, r2⟩ := p
            by_cases ha : least ≤ n
            · exact w_in_azl w A c l least most hL hs hc hm2 q2 n k hd ha hmm hz hf _ zs2 r2 hcn hr
            · exact w_in_bzl w A c l least most hL hs hc hm2 q2 n k hd (by omega) hmm hz hf _ zs2 r2 hcn hr
        · have hkl := (dec_some hs hd).2.2.1
          have hcn : cnt most l = none := by unfold cnt; rw [hd]; simp; omega
          by_cases ha : least ≤ n
          · exact w_in_azg w A c l least most hL hs hc hm2 q2 n k hd ha hmm hz (by omega) (.inl hcn)
          · exact w_in_bzg w A c l least most hL hs hc hm2 q2 n k hd (by omega) hmm hz (by omega) (.inl hcn)
      · have hcn : cnt most l = none := by unfold cnt; rw [hd]; simp; omega
        by_cases ha : least ≤ n
        · exact w_in_an w A c l least most hL hs hc hm2 q2 n k hd ha hmm (by omega) (.inl hcn)
        · exact w_in_bn w A c l least most hL hs hc hm2 q2 n k hd (by omega) hmm (by omega) (.inl hcn)
    · have hcn : cnt most l = none := by unfold cnt; rw [hd]; simp; omega
      by_cases hz : 0 ≤ n
      · by_cases ha : least ≤ n
        · exact w_hi_az w A c l least most hL hs hc hm2 q2 n k hd ha (by omega) hz (.inl hcn)
        · exact w_hi_bz w A c l least most hL hs hc hm2 q2 n k hd (by omega) (by omega) hz (.inl hcn)
      · by_cases ha : least ≤ n
        · exact w_hi_an w A c l least most hL hs hc hm2 q2 n k hd ha (by omega) (by omega) (.inl hcn)
        · exact w_hi_bn w A c l least most hL hs hc hm2 q2 n k hd (by omega) (by omega) (by omega) (.inl hcn)

set_option maxRecDepth 100000 in
theorem lifted (os : Os) (started : os.Started) (H : Type) (enc : TypeId × Value → H) :
    ReturnsInHanded {} Try.checked os 6 .any (Rows.varintBoundsSpec.pre6 enc Try.prog Try.f6 Rows.varintBoundsRow.domain false) (Rows.varintBoundsSpec.post enc Try.prog Try.f6 false true false false) := by
  refine returnsInHanded_of_change (C := Try.checked) base.own started (by kernel_rfl) Try.func6
    (ChangeSpec.witness6 (enc := enc) (C := Try.checked) false ⟨#[], #[.slice none 0 0, .int .i64 0, .int .i64 0], []⟩ 8 (by kernel_rfl) (by kernel_rfl) (by kernel_rfl) (by kernel_rfl)) ?_
  intro W bs args ds gs before hval0 hW _ _
  have hval : ∀ (j : Nat) t v, Try.f6.params[j]? = some t → args[j]? = some v → Value.okWide Try.prog W .any bs t v := hval0
  have hW' : DataW.Whole enc Try.prog Try.f6.params.toList Rows.varintBoundsSpec.vars false W args.toList ds gs before := hW
  obtain ⟨p, q, hA0, hV, rfl, _, _⟩ := hW
  have hA : DataW.TrodAll enc Try.prog W 0 (fun _ => true) true Try.f6.params.toList args.toList ds p := hA0
  rw [Try.params6] at hA hval
  obtain ⟨v0, vs0, d0, ds0, p0, q0, hargs, rfl, rfl, h0, r0⟩ := trodAll_cons hA
  obtain ⟨v1, vs1, d1, ds1, p1, q1, rfl, rfl, rfl, h1, r1⟩ := trodAll_cons r0
  obtain ⟨v2, vs2, d2, ds2, p2, q2, rfl, rfl, rfl, h2, r2⟩ := trodAll_cons r1
  obtain ⟨rfl, rfl, rfl⟩ := trodAll_nil r2
  obtain rfl : args = #[v0, v1, v2] := by cases args; simp_all
  obtain ⟨rfl, rfl⟩ := trodVars_none hV
  obtain ⟨A0, c0, l0, rfl, b0, m0, n0, w0⟩ := base.open_nums Try.underlying22 Try.underlying5 (by kernel_rfl) (hval 0 22 v0 rfl rfl) h0
  obtain ⟨a1, rfl, rfl, rfl, w1⟩ := open_int Try.underlying3 (hval 1 3 v1 rfl rfl) h1
  obtain ⟨a2, rfl, rfl, rfl, w2⟩ := open_int Try.underlying3 (hval 2 3 v2 rfl rfl) h2
  clear hA0 hval0
  refine (walk W A0 c0 l0 n0 b0 m0 w0 a1 w1 a2 w2).mono fun e W' ⟨he, hb⟩ => ?_
  subst he
  exact ⟨_, rfl, base.law_post base.laid (by kernel_rfl) rfl rfl Try.underlying4 hW' rfl rfl rfl hb⟩

theorem over : Rows.varintBoundsRow.holds Try.pinned (OpenSpec.ofChange Rows.varintBoundsSpec) :=
  OpenClaim.holds_of_wide 6 Try.f6 rfl rfl rfl rfl rfl rfl rfl ⟨rfl, rfl, rfl, rfl, rfl⟩ rfl rfl rfl rfl rfl (by kernel_rfl) Try.func6 (by kernel_rfl)
    (of_decide_eq_true (by kernel_rfl)) (by unfold Func.isWrapper; first | (rw [if_pos (by decide +kernel)]; kernel_rfl) | (rw [if_neg (by decide +kernel)]; exact ⟨rfl, rfl⟩))
    (fun os started H enc _ => lifted os started H enc)

theorem proved : Rows.VarintBoundsSaid := over
#print axioms proved
end Go.Proofs.Ytjbbphdjemdinaa.varintBounds
