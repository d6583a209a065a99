/-
  The queue: New, Len, Added, Add, First, Pop.
-/
import Derived.Test.YtmgfnhbhgmpchaaQiF
namespace Go.Proofs.Ytmgfnhbhgmpchaa.qu
open Go.RowKit
open base (ret_bool ret_int made up Blk Only)
open rk mk
set_option linter.unusedVariables false
set_option linter.unusedSimpArgs false
variable {w w' : World} {q m : Nat} {v : Value} {L : List It} {ad : Int}

theorem results_tmp4 {fn : Func} {t u v x : Tmp} (h : fn.results = #[.tmp t, .tmp u, .tmp v, .tmp x]) (tmps : Array Value) (P : Program) (w : World) :
    (results fn tmps).run P w = .ok (.tuple #[tmps.getD t undef, tmps.getD u undef, tmps.getD v undef, tmps.getD x undef]) w := by
  simp [results, h, Sem.run_bind, Sem.run_pure, Result.andThen]
theorem TQ : Ty EQ Try.prog 86 91 (.agg #[.int .i64 0, .int .i64 0, .int .i64 0]) 24 := ⟨Try.underlying86, by kernel_rfl, rfl, by decide⟩
/-- an append that is carried out: its run is known -/
theorem op_app {P : Program} {ts : TypeId} {o : Oper} {a : Act} {w w' : World} {K : Act → World → Prop} {Q : Exit → Act → World → Prop} (s x : Operand)
    (ho : o.op = .call { callee := .builtin .append, args := #[s, x], argTypes := #[ts, ts] }) (hty : o.type = ts) {v X v' : Value} (h1 : a.eval s = v) (h2 : a.eval x = X)
    (hr : (Builtin.append_ #[ts, ts] ts #[v, X]).run P w = .ok v' w') (k : K (a.put o.dst v') w') : Oper.wp P o a w K Q := by
  unfold Oper.wp execOp
  simp only [ho, resolve, invoke, builtin, Sem.run_bind, Sem.run_pure, Result.andThen_ok, List.map_toArray, List.map_cons, List.map_nil, h1, h2, hty, hr]
  exact k
theorem zqueue (w : World) : (zeroValue 89).run Try.prog w = .ok (.agg #[.slice none 0 0, .map none, .int .i64 0]) w := by first | exact Try.zeroValue89 w | kernel_rfl
theorem new_any (w : World) : Calls Try.prog 44 #[] w fun e w' => ∃ q m, e = .returned (.pointer (some ⟨q, 0, none⟩)) ∧ QAt w' q m (.slice none 0 0) [] 0 ∧ Below w.heap.size w w' ∧ ∀ k, Foot q m (.slice none 0 0) k → w.heap.size ≤ k := by
  have hmm := @run_makeMap Try.prog
  have hb1 := made w (.map #[] 0)
  have hm := IMap.made (P := Try.prog) (k := 3) w
  have hs := asz w (.map #[] 0)
  have FIN := Lib.hid (show QAt ((w.alloc (.map #[] 0)).alloc (.cells #[.slice none 0 0, .map (some w.heap.size), .int .i64 0] 89)) (w.heap.size + 1) w.heap.size (.slice none 0 0) [] 0 from
    ⟨by have := Blk.new (w.alloc (.map #[] 0)) 89 #[.slice none 0 0, .map (some w.heap.size), .int .i64 0]; rwa [hs] at this, Own.nil _ _ _, ⟨_, MapIs.alloc hm _, MapOk.nil⟩, fun x hx => by cases hx⟩)
  have BB := Lib.hid (up hb1 (made (w.alloc (.map #[] 0)) (.cells #[.slice none 0 0, .map (some w.heap.size), .int .i64 0] 89)) (by rw [hs]; omega))
  clear hb1 hm
  go_enter Try.func44, Try.ntmps44
  go_wp2_with fail
  go_ret
  exact ⟨_, _, rfl, FIN.out, BB.out, fun k h => by rcases h with h | h | h <;> first | (cases h; done) | omega⟩
set_option maxHeartbeats 2000000 in
theorem first_nil (H : QAt w q m v [] ad) : Calls Try.prog 42 #[.pointer (some ⟨q, 0, none⟩)] w fun e w' => e = .returned (.tuple #[.int .i64 0, .int .i64 0, .int .i64 0, .int .i64 14]) ∧ w = w' := by
  obtain ⟨A, c, rfl, -, -, -, c0, -⟩ := H.open_
  clear H
  go_enter Try.func42, Try.ntmps42
  go_wp2_with fail
  (try simp only [Exit.inBlock, Exit.then]); refine bodyPost_ret (results_tmp4 rfl _ _ _) rfl ?_
  exact ⟨rfl, rfl⟩
set_option maxHeartbeats 4000000 in
set_option maxRecDepth 100000 in
theorem first_some (H : QAt w q m v L ad) (h0 : 0 < L.length) : Calls Try.prog 42 #[.pointer (some ⟨q, 0, none⟩)] w fun e w' => e = .returned (.tuple #[.int .i64 (at_ L 0).1, .int .i64 (at_ L 0).2.1, .int .i64 (at_ L 0).2.2, .int .i64 0]) ∧ Below w.heap.size w w' := by
  obtain ⟨g, c, rfl, -, -, -, cel⟩ := H.full h0
  obtain ⟨x0, x1, x2⟩ := cel 0 h0
  rw [Nat.zero_mul] at x0 x1 x2
  rw [Nat.zero_add] at x1 x2
  have c0 := H.blk.cell 0
  have tz : ((L.length : Int) == 0) = false := by simp only [beq_eq_false_iff_ne, ne_eq]; omega
  clear cel H
  generalize at_ L 0 = x at *
  obtain ⟨n, d, s⟩ := x
  have B1 := Lib.hid (made w (.cells #[.int .i64 n, .int .i64 d, .int .i64 s] 91))
  have K1 := Lib.hid (Blk.new w 91 #[.int .i64 n, .int .i64 d, .int .i64 s])
  go_enter Try.func42, Try.ntmps42
  go_upto_region 4 with fail
  generalize w.alloc (.cells #[.int .i64 n, .int .i64 d, .int .i64 s] 91) = w1 at *
  have k0 := K1.out.cell 0
  have k1 := K1.out.cell 1
  have k2 := K1.out.cell 2
  go_quiet (fail)
  go_wp2_with fail
  (try simp only [Exit.inBlock, Exit.then]); refine bodyPost_ret (results_tmp4 rfl _ _ _) rfl ?_
  exact ⟨rfl, base.below_drewN B1.out _⟩
end Go.Proofs.Ytmgfnhbhgmpchaa.qu
