/-
  R-trees: the things below a node that are told.
-/
import Derived.Test.YtndhdpjgnepfnaaTrAB
namespace Go.Proofs.Ytndhdpjgnepfnaa.tr
open Go.RowKit Go.Shelf
open base (ret_bool ret_int made up Blk Only)
open rk (Lay)
open rect rgm
set_option linter.unusedVariables false
set_option linter.unusedSimpArgs false
attribute [local go_sem] Oper.semAt_some

set_option maxRecDepth 100000 in
set_option maxHeartbeats 4000000 in
theorem searchM_succ (q : Bx) (h : Nat) (IH : SearchOK (fun b => mt q b) (.func (.func 37) #[(.agg #[.int .i64 q.x, .int .i64 q.y, .int .i64 q.w, .int .i64 q.h])] #[]) h) : SearchOK (fun b => mt q b) (.func (.func 37) #[(.agg #[.int .i64 q.x, .int .i64 q.y, .int .i64 q.w, .int .i64 q.h])] #[]) (h + 1) := by
  intro g v X l B0 i0 J XX S W hn h4 hS hB hj hJa hY
  obtain ⟨A, c, rfl, hna⟩ := hn.nat
  obtain ⟨ask, hask⟩ : ∃ ask : Bx → Bool, ask = (fun b => mt q b) := ⟨_, rfl⟩
  rw [← hask] at hY ⊢
  have HN := Lib.hid hn
  have H4 := Lib.hid h4
  have SS := Lib.hid hS
  have HB := Lib.hid hB
  have HJ := Lib.hid hj
  have JA := Lib.hid hJa
  have HY := Lib.hid hY
  have HK := Lib.hid hask
  rw [← hask] at IH
  have HIH := Lib.hid IH
  have c0 := hn.blk.cell 0
  clear hn h4 hS hB hj hJa hY hna hask IH
  refine (callsIn_wide (n := 3)).1 ?_
  refine callsIn_of_wp Try.func46 rfl trivial ?_ rfl
  simp only [Try.ntmps46, List.size_toArray, List.length_cons, List.length_nil, Nat.reduceAdd, Nat.reduceSub, Array.replicate_succ, Array.replicate_zero, List.push_toArray, List.append_toArray, List.nil_append, List.cons_append]
  gi_wp2
  clear c0
  gi_loopw [14] (fun i wr => ∃ (p : Nat) (W' : World), W' = wr ∧ p ≤ X.length ∧ i = .int .i64 p ∧ J (i0 + (tl ask (X.take p)).length) wr ∧ Only S W wr) (fun i _ => X.length - (intOf i).toNat)
  case atStart => exact ⟨0, _, rfl, by omega, rfl, by simpa [tl, all] using HJ.out, Only.refl _ _⟩
  case round =>
  obtain ⟨p, w5, rfl, hp, rfl, hj5, ho5⟩ := hrel
  by_cases hpl : p < X.length
  · have J5 := Lib.hid hj5
    have O5 := Lib.hid ho5
    have N5 := Lib.hid (HN.out.only ho5 (fun j hj hs => (SS.out j hs).2 hj))
    obtain ⟨gr, c', cs, z0, -⟩ := N5.out.own.full (by rw [ens_len]; omega)
    injection z0 with z0 z1 z2
    subst z0
    clear z1 z2 cs c'
    have r6 := row6 (own_lay N5.out.own).1 (k := p) (by rw [ens_len]; exact hpl)
    rw [ens_get hpl] at r6
    have EN := Lib.hid (N5.out.ent X[p] (List.getElem_mem hpl))
    obtain ⟨e, he⟩ : ∃ e, X[p].e = e := ⟨_, rfl⟩
    have HE := Lib.hid he
    rw [he] at r6
    obtain ⟨gk, vk, Xk, z1, z2, z3, z4, z5, z6, z7, z8⟩ := EN.out.kid
    rw [he] at z1
    have hP : e.ptr = .pointer (some ⟨gk, 0, none⟩) := by unfold En.ptr; rw [z1]; rfl
    obtain ⟨P, hPP⟩ : ∃ P : Option Addr, P = some ⟨gk, 0, none⟩ := ⟨_, rfl⟩
    rw [← hPP] at hP
    rw [hP] at r6
    obtain ⟨e0, e1, e2, e3, e4, e5⟩ := r6
    have ME := Lib.hid (show Below w5.heap.size w5 (w5.alloc (.cells #[.int .i64 e.b.x, .int .i64 e.b.y, .int .i64 e.b.w, .int .i64 e.b.h, .pointer P, .int .i64 e.v] 79)) from made w5 _)
    have EB := Lib.hid (show Blk (w5.alloc (.cells #[.int .i64 e.b.x, .int .i64 e.b.y, .int .i64 e.b.w, .int .i64 e.b.h, .pointer P, .int .i64 e.v] 79)) w5.heap.size 79 #[.int .i64 e.b.x, .int .i64 e.b.y, .int .i64 e.b.w, .int .i64 e.b.h, .pointer P, .int .i64 e.v] from Blk.new _ _ _)
    have JE := Lib.hid (JA.out _ _ _ J5.out ME.out)
    have OE := Lib.hid (only_t O5.out ((Only.refl S w5).below ME.out (fun i hi h => by omega)))
    have CA := Lib.hid (fun W => meets_any q e.b W)
    have dp : decide (p < X.length) = true := decide_eq_true hpl
    have wp1 : IntKind.i64.wrap ((p : Int) + 1) = (p : Int) + 1 := IntWalk.i64_in _ (by have := H4.out; omega)
    have i0' : (0 : Int) ≤ (p : Int) := Int.natCast_nonneg _
    have TK := Lib.hid (tl_take (ask := ask) hpl)
    have YS := Lib.hid (seg (A := tl ask (X.take p)) (B := tS ask X[p].S) (C := tl ask (X.drop (p + 1))) (tl_split hpl) HY.out)
    have NO := Lib.hid (fun (ha : ask e.b = false) => EN.out.none (ask := ask) (by rw [HK.out]; exact monoM q ) (by rw [HE.out]; exact ha))
    have AE := Lib.hid (show (fun b => mt q b) e.b = ask e.b from by rw [HK.out])
    have hT : tS ask X[p].S = tl ask Xk := by rw [z6]; rfl
    rw [hT] at YS TK NO
    have KN := Lib.hid z8
    have KB := Lib.hid (And.intro z4 (show ∀ j, S j → j < B0 ∧ ¬ foot gk vk Xk j from fun j hj => ⟨(SS.out j hj).1, fun q' => (SS.out j hj).2 (.inr (.inr ⟨X[p], List.getElem_mem hpl, by rw [z7]; exact q'⟩))⟩))
    have HPP := Lib.hid hPP
    clear hj5 ho5 hp he hP hPP z1 z2 z3 z4 z5 z6 z7 z8 hT
    gi_wp2
    refine ⟨trivial, (callsIn_wide (n := 2)).2 ((CA.out _).mono ?_)⟩
    rintro e7 w7 ⟨rfl, hb7⟩
    have AE2 := AE.out
    generalize mt q e.b = ab at *
    have J7 := Lib.hid (JA.out _ _ _ JE.out hb7)
    have O7 := Lib.hid (only_t OE.out ((Only.refl S _).below hb7 (fun i hi h => by omega)))
    have E7 := Lib.hid (EB.out.below hb7 EB.out.lt)
    have K7 := Lib.hid ((KN.out.below ME.out).below hb7)
    clear hb7 e0 e1 e2 e3 e4 e5
    cases ab
    · have TN := Lib.hid (show tl ask (X.take (p + 1)) = tl ask (X.take p) from by
        have := NO.out AE2.symm
        rw [TK.out, this, List.append_nil])
      clear AE2
      gi_wp2
      go_roundw
      case rel => exact ⟨p + 1, _, rfl, by omega, by go_num, by rw [TN.out]; exact J7.out, O7.out⟩
      case measure => simp [intOf]; omega
    · have TN := Lib.hid (show i0 + (tl ask (X.take (p + 1))).length = i0 + (tl ask (X.take p)).length + (tl ask Xk).length from by rw [TK.out, List.length_append]; omega)
      have SR := Lib.hid (HIH.out gk vk Xk l B0 (i0 + (tl ask (X.take p)).length) J XX S w7 K7.out KB.out.1 KB.out.2 (Nat.le_trans HB.out O7.out.size) J7.out JA.out YS.out)
      obtain ⟨x0, x1, x2, x3, x4, x5⟩ := blk6 E7.out
      rw [HPP.out] at x4
      clear AE2 YS TK
      gi_wp2
      refine ⟨trivial, (callsIn_wide (n := 2)).2 (SR.out.mono ?_)⟩
      rintro e8 w8 (⟨rfl, hj8, ho8⟩ | ⟨rfl, hx8, ho8⟩)
      · rw [← TN.out] at hj8
        have J8 := Lib.hid hj8
        have O8 := Lib.hid (only_t O7.out ho8)
        have E8 := Lib.hid (E7.out.only ho8 (fun q' => by
          have h1 := (SS.out _ q').1
          have h2 := HB.out
          have h3 := O5.out.size
          omega))
        clear hj8 ho8 x0 x1 x2 x3 x4 x5
        obtain ⟨x0, x1, x2, x3, x4, x5⟩ := blk6 E8.out
        rw [HPP.out] at x4
        gi_wp2
        refine ⟨(fun _ q' => nomatch q'), ?_⟩
        gi_wp2
        go_roundw
        case rel => exact ⟨p + 1, _, rfl, by omega, by go_num, J8.out, O8.out⟩
        case measure => simp [intOf]; omega
      · have X8 := Lib.hid hx8
        have O8 := Lib.hid (only_t O7.out ho8)
        clear hx8 ho8 x0 x1 x2 x3 x4 x5
        gi_wp2
        go_ret
        exact .inr ⟨rfl, X8.out, O8.out⟩
  · obtain rfl : p = X.length := by omega
    rw [List.take_length] at hj5
    have dp : decide (X.length < X.length) = false := decide_eq_false (by omega)
    have FI := Lib.hid (And.intro hj5 ho5)
    clear hj5 ho5 hp hpl
    gi_wp2
    go_ret
    exact .inl ⟨rfl, FI.out.1, FI.out.2⟩
theorem searchM_ok (q : Bx) : ∀ h, SearchOK (fun b => mt q b) (.func (.func 37) #[(.agg #[.int .i64 q.x, .int .i64 q.y, .int .i64 q.w, .int .i64 q.h])] #[]) h
  | 0 => searchM_zero q 
  | h + 1 => searchM_succ q h (searchM_ok q h)
set_option maxRecDepth 100000 in
set_option maxHeartbeats 4000000 in
theorem searchR_succ (h : Nat) (IH : SearchOK Bx.right (.func (.func 35) #[] #[]) h) : SearchOK Bx.right (.func (.func 35) #[] #[]) (h + 1) := by
  intro g v X l B0 i0 J XX S W hn h4 hS hB hj hJa hY
  obtain ⟨A, c, rfl, hna⟩ := hn.nat
  obtain ⟨ask, hask⟩ : ∃ ask : Bx → Bool, ask = Bx.right := ⟨_, rfl⟩
  rw [← hask] at hY ⊢
  have HN := Lib.hid hn
  have H4 := Lib.hid h4
  have SS := Lib.hid hS
  have HB := Lib.hid hB
  have HJ := Lib.hid hj
  have JA := Lib.hid hJa
  have HY := Lib.hid hY
  have HK := Lib.hid hask
  rw [← hask] at IH
  have HIH := Lib.hid IH
  have c0 := hn.blk.cell 0
  clear hn h4 hS hB hj hJa hY hna hask IH
  refine (callsIn_wide (n := 3)).1 ?_
  refine callsIn_of_wp Try.func46 rfl trivial ?_ rfl
  simp only [Try.ntmps46, List.size_toArray, List.length_cons, List.length_nil, Nat.reduceAdd, Nat.reduceSub, Array.replicate_succ, Array.replicate_zero, List.push_toArray, List.append_toArray, List.nil_append, List.cons_append]
  gi_wp2
  clear c0
  gi_loopw [14] (fun i wr => ∃ (p : Nat) (W' : World), W' = wr ∧ p ≤ X.length ∧ i = .int .i64 p ∧ J (i0 + (tl ask (X.take p)).length) wr ∧ Only S W wr) (fun i _ => X.length - (intOf i).toNat)
  case atStart => exact ⟨0, _, rfl, by omega, rfl, by simpa [tl, all] using HJ.out, Only.refl _ _⟩
  case round =>
  obtain ⟨p, w5, rfl, hp, rfl, hj5, ho5⟩ := hrel
  by_cases hpl : p < X.length
  · have J5 := Lib.hid hj5
    have O5 := Lib.hid ho5
    have N5 := Lib.hid (HN.out.only ho5 (fun j hj hs => (SS.out j hs).2 hj))
    obtain ⟨gr, c', cs, z0, -⟩ := N5.out.own.full (by rw [ens_len]; omega)
    injection z0 with z0 z1 z2
    subst z0
    clear z1 z2 cs c'
    have r6 := row6 (own_lay N5.out.own).1 (k := p) (by rw [ens_len]; exact hpl)
    rw [ens_get hpl] at r6
    have EN := Lib.hid (N5.out.ent X[p] (List.getElem_mem hpl))
    obtain ⟨e, he⟩ : ∃ e, X[p].e = e := ⟨_, rfl⟩
    have HE := Lib.hid he
    rw [he] at r6
    obtain ⟨gk, vk, Xk, z1, z2, z3, z4, z5, z6, z7, z8⟩ := EN.out.kid
    rw [he] at z1
    have hP : e.ptr = .pointer (some ⟨gk, 0, none⟩) := by unfold En.ptr; rw [z1]; rfl
    obtain ⟨P, hPP⟩ : ∃ P : Option Addr, P = some ⟨gk, 0, none⟩ := ⟨_, rfl⟩
    rw [← hPP] at hP
    rw [hP] at r6
    obtain ⟨e0, e1, e2, e3, e4, e5⟩ := r6
    have ME := Lib.hid (show Below w5.heap.size w5 (w5.alloc (.cells #[.int .i64 e.b.x, .int .i64 e.b.y, .int .i64 e.b.w, .int .i64 e.b.h, .pointer P, .int .i64 e.v] 79)) from made w5 _)
    have EB := Lib.hid (show Blk (w5.alloc (.cells #[.int .i64 e.b.x, .int .i64 e.b.y, .int .i64 e.b.w, .int .i64 e.b.h, .pointer P, .int .i64 e.v] 79)) w5.heap.size 79 #[.int .i64 e.b.x, .int .i64 e.b.y, .int .i64 e.b.w, .int .i64 e.b.h, .pointer P, .int .i64 e.v] from Blk.new _ _ _)
    have JE := Lib.hid (JA.out _ _ _ J5.out ME.out)
    have OE := Lib.hid (only_t O5.out ((Only.refl S w5).below ME.out (fun i hi h => by omega)))
    have CA := Lib.hid (fun W => rright e.b W)
    have dp : decide (p < X.length) = true := decide_eq_true hpl
    have wp1 : IntKind.i64.wrap ((p : Int) + 1) = (p : Int) + 1 := IntWalk.i64_in _ (by have := H4.out; omega)
    have i0' : (0 : Int) ≤ (p : Int) := Int.natCast_nonneg _
    have TK := Lib.hid (tl_take (ask := ask) hpl)
    have YS := Lib.hid (seg (A := tl ask (X.take p)) (B := tS ask X[p].S) (C := tl ask (X.drop (p + 1))) (tl_split hpl) HY.out)
    have NO := Lib.hid (fun (ha : ask e.b = false) => EN.out.none (ask := ask) (by rw [HK.out]; exact monoR ) (by rw [HE.out]; exact ha))
    have AE := Lib.hid (show Bx.right e.b = ask e.b from by rw [HK.out])
    have hT : tS ask X[p].S = tl ask Xk := by rw [z6]; rfl
    rw [hT] at YS TK NO
    have KN := Lib.hid z8
    have KB := Lib.hid (And.intro z4 (show ∀ j, S j → j < B0 ∧ ¬ foot gk vk Xk j from fun j hj => ⟨(SS.out j hj).1, fun q' => (SS.out j hj).2 (.inr (.inr ⟨X[p], List.getElem_mem hpl, by rw [z7]; exact q'⟩))⟩))
    have HPP := Lib.hid hPP
    clear hj5 ho5 hp he hP hPP z1 z2 z3 z4 z5 z6 z7 z8 hT
    gi_wp2
    refine ⟨trivial, (callsIn_wide (n := 2)).2 ((CA.out _).mono ?_)⟩
    rintro e7 w7 ⟨rfl, hb7⟩
    have AE2 := AE.out
    generalize e.b.right = ab at *
    have J7 := Lib.hid (JA.out _ _ _ JE.out hb7)
    have O7 := Lib.hid (only_t OE.out ((Only.refl S _).below hb7 (fun i hi h => by omega)))
    have E7 := Lib.hid (EB.out.below hb7 EB.out.lt)
    have K7 := Lib.hid ((KN.out.below ME.out).below hb7)
    clear hb7 e0 e1 e2 e3 e4 e5
    cases ab
    · have TN := Lib.hid (show tl ask (X.take (p + 1)) = tl ask (X.take p) from by
        have := NO.out AE2.symm
        rw [TK.out, this, List.append_nil])
      clear AE2
      gi_wp2
      go_roundw
      case rel => exact ⟨p + 1, _, rfl, by omega, by go_num, by rw [TN.out]; exact J7.out, O7.out⟩
      case measure => simp [intOf]; omega
    · have TN := Lib.hid (show i0 + (tl ask (X.take (p + 1))).length = i0 + (tl ask (X.take p)).length + (tl ask Xk).length from by rw [TK.out, List.length_append]; omega)
      have SR := Lib.hid (HIH.out gk vk Xk l B0 (i0 + (tl ask (X.take p)).length) J XX S w7 K7.out KB.out.1 KB.out.2 (Nat.le_trans HB.out O7.out.size) J7.out JA.out YS.out)
      obtain ⟨x0, x1, x2, x3, x4, x5⟩ := blk6 E7.out
      rw [HPP.out] at x4
      clear AE2 YS TK
      gi_wp2
      refine ⟨trivial, (callsIn_wide (n := 2)).2 (SR.out.mono ?_)⟩
      rintro e8 w8 (⟨rfl, hj8, ho8⟩ | ⟨rfl, hx8, ho8⟩)
      · rw [← TN.out] at hj8
        have J8 := Lib.hid hj8
        have O8 := Lib.hid (only_t O7.out ho8)
        have E8 := Lib.hid (E7.out.only ho8 (fun q' => by
          have h1 := (SS.out _ q').1
          have h2 := HB.out
          have h3 := O5.out.size
          omega))
        clear hj8 ho8 x0 x1 x2 x3 x4 x5
        obtain ⟨x0, x1, x2, x3, x4, x5⟩ := blk6 E8.out
        rw [HPP.out] at x4
        gi_wp2
        refine ⟨(fun _ q' => nomatch q'), ?_⟩
        gi_wp2
        go_roundw
        case rel => exact ⟨p + 1, _, rfl, by omega, by go_num, J8.out, O8.out⟩
        case measure => simp [intOf]; omega
      · have X8 := Lib.hid hx8
        have O8 := Lib.hid (only_t O7.out ho8)
        clear hx8 ho8 x0 x1 x2 x3 x4 x5
        gi_wp2
        go_ret
        exact .inr ⟨rfl, X8.out, O8.out⟩
  · obtain rfl : p = X.length := by omega
    rw [List.take_length] at hj5
    have dp : decide (X.length < X.length) = false := decide_eq_false (by omega)
    have FI := Lib.hid (And.intro hj5 ho5)
    clear hj5 ho5 hp hpl
    gi_wp2
    go_ret
    exact .inl ⟨rfl, FI.out.1, FI.out.2⟩
theorem searchR_ok : ∀ h, SearchOK Bx.right (.func (.func 35) #[] #[]) h
  | 0 => searchR_zero 
  | h + 1 => searchR_succ h (searchR_ok h)
end Go.Proofs.Ytndhdpjgnepfnaa.tr
