/-
  Rents: the function that tells what lapses.
-/
import Derived.Test.YtmgfnhbhgmpchaaRtF
namespace Go.Proofs.Ytmgfnhbhgmpchaa.rgm
open Go Go.RowKit
open base (Only)
/-- where the assignments to the loop's variables lay no block -/
theorem wpIn_rangeFunc_free5 {F : Fence} {n : Nat} {P : Program} {α : Type} {g : Operand} {ps : Array Tmp} {assign body : Code} {Q : Exit → Act → World → Prop} {a : Act} {w : World}
    (hro : F.round = none) (h1 : 1 ≤ n) {gf : Nat} {lb : Array Value} (hg : a.eval g = .func (.func gf) #[] lb) (hFg : F.fn gf) (eg : ∀ args w, (callFunc gf args).run P w = .ok (.enter gf args) w)
    {encs : α → Array Value} (hps : ∀ x, (encs x).size = ps.size)
    (Y : α → World → Prop) (G : α → World → World → Prop) (X : α → World → Code → World → Prop) (Xe : Code → World → Prop) (T : World → Prop) (a₁ : α → Act)
    (hiter : ∀ (W1 : World) (Bk : World → Prop) (Bx : Code → World → Prop), Below w.heap.size w W1 → W1.heap.size = w.heap.size + 2 → Bk W1 → (∀ A, Bk A → ∃ r, A.heap[w.heap.size + 1]? = some (.loop r)) →
      (∀ A B, Bk A → Kept w.heap.size A B → Bk B) → (∀ c A B, Bx c A → Kept w.heap.size A B → Bx c B) →
      (∀ x W, Bk W → Y x W → YieldAt F (n - 1 - 1) P (w.heap.size + 1) (encs x) W fun e W' => (e = .returned (.bool true) ∧ Bk W' ∧ G x W W') ∨ (e = .returned (.bool false) ∧ ∃ c, Bx c W' ∧ X x W c W')) →
      CallsIn F (n - 1) P gf (#[.func (.yield (w.heap.size + 1)) #[] #[]] ++ lb) W1 fun e W' => (∃ v, e = .returned v) ∧ ((Bk W' ∧ T W') ∨ ∃ c, Bx c W' ∧ Xe c W'))
    (hassign : ∀ (x : α) (W : World) (K : Act → World → Prop), K (a₁ x) W →
      assign.wpIn (F.inRound (w.heap.size + 1)) (n - 1 - 1) P (Exit.then K (fun _ _ _ => False)) { tmps := (ps.zip (encs x)).foldl (fun t (p, v) => t.setIfInBounds p v) a.tmps, defers := [] } W)
    (hbody : ∀ (x : α) (W Wc : World), Y x W → (∃ r, W.heap[w.heap.size + 1]? = some (.loop r)) → Only (fun k => k = w.heap.size + 1) W Wc → (∃ r, Wc.heap[w.heap.size + 1]? = some (.loop r)) → w.heap.size + 1 < Wc.heap.size →
      body.wpIn (F.inRound (w.heap.size + 1)) (n - 1 - 1) P (post4 w.heap.size G X x W Wc) (a₁ x) Wc)
    (hdone : ∀ (W0 W : World), T W0 → (∃ r, W0.heap[w.heap.size + 1]? = some (.loop r)) → Only (fun k => k = w.heap.size + 1) W0 W → W.heap[w.heap.size]? = some (.deferred (some [])) → Q .normal { a with defers := { target := .collected w.heap.size, args := #[] } :: a.defers } W)
    (hstop : ∀ (c : Code) (W0 W : World), Xe c W0 → (∃ r, W0.heap[w.heap.size + 1]? = some (.loop r)) → Only (fun k => k = w.heap.size + 1) W0 W → W.heap[w.heap.size]? = some (.deferred (some [])) → c.wpIn F n P Q { a with defers := { target := .collected w.heap.size, args := #[] } :: a.defers } W) :
    (Code.rangeFunc g ps assign body).wpIn F n P Q a w :=
  wpIn_rangeFunc_free4 hro h1 hg hFg eg hps Y G X Xe T (fun x a' W Wb => a' = a₁ x ∧ Wb = W) hiter
    (fun x W K _ _ hK => hassign x W K (hK _ _ (Kept.refl _ _) ⟨rfl, rfl⟩))
    (fun x a' W Wb Wc hY hax hlb hO hlc hlt => by
      obtain ⟨rfl, rfl⟩ := hax
      exact hbody x _ Wc hY hlb hO hlc hlt) hdone hstop
end Go.Proofs.Ytmgfnhbhgmpchaa.rgm
namespace Go.Proofs.Ytmgfnhbhgmpchaa.rn
open Go.RowKit Go.Shelf
open base (ret_bool ret_int made up Blk Only)
open rk mk rgm
set_option linter.unusedVariables false
set_option linter.unusedSimpArgs false
attribute [local go_sem] Oper.semAt_some
attribute [local irreducible] wpStill

def qn (q : Nat) (W : World) : Nat := match W.cell? ⟨q, 0, none⟩ with
  | some (.slice _ n _) => n
  | _ => 0
theorem qn_of {F : Nat → Prop} {w : World} {q : Nat} {M : List qu.It} {ad : Int} (h : qu.QS F w q M ad) : qn q w = M.length := by
  obtain ⟨m, v, L, h1, h2, h3, rfl⟩ := h.ex
  obtain ⟨A, c, rfl, -, -, -, c0, -⟩ := h1.open_
  unfold qn
  rw [c0]
  exact h2.length_eq
/-- the queue and the boxes, in the rounds of the loop whose own blocks are D and D + 1 -/
structure Hold (B D wq g bn br q l : Nat) (now : Int) (F : Nat → Prop) (M : List qu.It) (ad : Int) (W : World) : Prop where
  qs : qu.QS F W q M ad
  lo : ∀ k, F k → B ≤ k
  av : ∀ k, F k → k ≠ D ∧ k ≠ D + 1
  yb : Blk W B 68 #[.func (.yield l) #[] #[]]
  nb : Blk W bn 3 #[.int .i64 now]
  rb : Blk W br 23 #[.pointer (some ⟨g, 0, none⟩)]
  cq : Blk W wq 72 #[.pointer (some ⟨q, 0, none⟩)]
  cn : Blk W (wq + 1) 3 #[.int .i64 (now - 40 - 1)]
  big : D + 2 ≤ W.heap.size
  num : M.length ≤ 90000 ∧ ad ≤ 90000
section
variable {B D wq g b bn br q l : Nat} {now ad : Int} {F F' : Nat → Prop} {M M2 : List qu.It} {W W' : World}
theorem Hold.only {T : Nat → Prop} (h : Hold B D wq g bn br q l now F M ad W) (ho : Only T W W') (h1 : ∀ k, F k → ¬ T k) (h2 : ¬ T B ∧ ¬ T bn ∧ ¬ T br ∧ ¬ T wq ∧ ¬ T (wq + 1)) : Hold B D wq g bn br q l now F M ad W' :=
  ⟨h.qs.keep (fun k hk => ho.block k (h.qs.lt hk) (h1 k hk)), h.lo, h.av, h.yb.only ho h2.1, h.nb.only ho h2.2.1, h.rb.only ho h2.2.2.1, h.cq.only ho h2.2.2.2.1, h.cn.only ho h2.2.2.2.2, Nat.le_trans h.big ho.size, h.num⟩
theorem Hold.pop {x : qu.It} (h : Hold B D wq g bn br q l now F (x :: M) ad W) (hq : qu.QS F' W' q M ad) (hm : qu.Mv F F' W W') (hB : B ≤ W.heap.size) : Hold B D wq g bn br q l now F' M ad W' ∧ Kept D W W' ∧ Is B W W' := by
  have hi : Is B W W' := Is.mv h.qs hm h.lo
  refine ⟨⟨hq, (qu.Mv.to hm hB h.lo).2, fun k hk => ?_, hi.fr _ _ _ h.yb (by decide) (by decide), hi.fr _ _ _ h.nb (by decide) (by decide), hi.fr _ _ _ h.rb (by decide) (by decide), hi.fr _ _ _ h.cq (by decide) (by decide), hi.fr _ _ _ h.cn (by decide) (by decide), Nat.le_trans h.big hm.1.size, by have := h.num; simp only [List.length_cons] at this; omega⟩, Kept.of_only hm.1 (by have := h.big; omega) (fun hf => (h.av _ hf).1 rfl) (fun hf => (h.av _ hf).2 rfl), hi⟩
  rcases hm.2 k hk with z | z
  · exact h.av k z
  · have := h.big; omega
end
/-- the rents beside it -/
structure Side (g b : Nat) (J : List R3 → World → Prop) (L : List R3) (cn : Nat) (N : List qu.It) (W : World) : Prop where
  jj : J L W
  ra : RAt W g b (look L) cn
  cl : cn ≤ 90000
  sd : Sd L
  wk : Wk L
  rel : Rel L N
/-- what is told at the end -/
def Fin_ (g b : Nat) (now : Int) (J : List R3 → World → Prop) (W : World) : Prop := ∃ L cn, J L W ∧ RAt W g b (look L) cn ∧ cn ≤ 90000 ∧ Sd L ∧ Wk L ∧ (now ≤ 40 ∨ ∀ i (hi : FirstIs L i), now - 41 < (L[i]'hi.lt).2.2)
def Mid_ (B D wq g b bn br q l : Nat) (now : Int) (J : List R3 → World → Prop) (Bk : World → Prop) (k : Nat) (F : Nat → Prop) (M : List qu.It) (ad : Int) (W : World) : Prop :=
  Bk W ∧ k = M.length ∧ Hold B D wq g bn br q l now F M ad W ∧ ∃ L cn, Side g b J L cn M W
def Told_ (B D wq g b bn br q l : Nat) (now : Int) (J : List R3 → World → Prop) (x : qu.It) (k0 : Nat) (W : World) : Prop :=
  ∃ F M ad, k0 = M.length + 1 ∧ Hold B D wq g bn br q l now F M ad W ∧ (x :: M).Pairwise qu.lt ∧ ¬ now - 40 - 1 < x.2.1 ∧ ∃ L cn, Side g b J L cn (x :: M) W
def Gone_ (B D wq g b bn br q l : Nat) (now : Int) (J : List R3 → World → Prop) (k0 : Nat) (W : World) : Prop := ∃ F M ad, M.length < k0 ∧ Mid_ B D wq g b bn br q l now J (fun _ => True) M.length F M ad W
set_option maxRecDepth 100000 in
set_option maxHeartbeats 16000000 in
theorem lapsed_it (N l bn br g b : Nat) (now : Int) (hnow : now ≤ 9223372036854775807) (W1 : World) (L1 : List R3) (cn1 : Nat)
    (hbn : Blk W1 bn 3 #[.int .i64 now]) (hbr : Blk W1 br 23 #[.pointer (some ⟨g, 0, none⟩)])
    (J : List R3 → World → Prop) (X : World → Prop) (S : Nat → Prop)
    (hS : ∀ j, S j → j < W1.heap.size ∧ j ≠ g ∧ j ≠ b ∧ j ≠ bn ∧ j ≠ br)
    (h0 : J L1 W1) (r0 : RAt W1 g b (look L1) cn1) (hc : cn1 ≤ 90000) (hl1 : L1.length ≤ 90000) (hs : Sd L1) (hk : Wk L1)
    (hJi : ∀ L W W', J L W → Is W1.heap.size W W' → J L W')
    (hJb : ∀ L W W' (m : Int → Option R3) (c : Nat), J L W → RAt W g b m c → Mut b W W' → J L W')
    (hXi : ∀ W W', X W → Is W1.heap.size W W' → X W')
    (hY : ∀ L i (hi : FirstIs L i) W cn, (L[i]'hi.lt).2.2 ≤ now - 41 → 40 < now → Sd L → Wk L → J L W → RAt W g b (look (dropL L (L[i]'hi.lt).1)) cn → cn ≤ 90000 → YieldAt Fence.wide 0 Try.prog l #[.int .i64 (L[i]'hi.lt).1] W fun e W' => (e = .returned (.bool true) ∧ J (dropL L (L[i]'hi.lt).1) W' ∧ Only S W W') ∨ (e = .returned (.bool false) ∧ X W' ∧ Only S W W')) :
    CallsIn Fence.wide N Try.prog 33 #[.func (.yield l) #[] #[], .pointer (some ⟨bn, 0, none⟩), .pointer (some ⟨br, 0, none⟩)] W1 fun e W' => (∃ v, e = .returned v) ∧ (Fin_ g b now J W' ∨ X W') := by
  have hm := made W1 (.cells #[.func (.yield l) #[] #[]] 68)
  have J2 := Lib.hid (hJi _ _ _ h0 (Is.below hm))
  have R2 := Lib.hid (r0.below hm)
  have NB := Lib.hid (hbn.below hm hbn.lt)
  have RB := Lib.hid (hbr.below hm hbr.lt)
  have YB := Lib.hid (Blk.new W1 68 #[.func (.yield l) #[] #[]])
  have LT := Lib.hid (show g < W1.heap.size ∧ b < W1.heap.size ∧ bn < W1.heap.size ∧ br < W1.heap.size ∧ bn ≠ b ∧ br ≠ b from ⟨r0.blk.lt, MapIs.lt r0.map, hbn.lt, hbr.lt, fun e => MapIs.ne r0.map hbn e.symm, fun e => MapIs.ne r0.map hbr e.symm⟩)
  have HS := Lib.hid hS
  have SD := Lib.hid hs
  have WK := Lib.hid hk
  have JI := Lib.hid hJi
  have JB := Lib.hid hJb
  have XI := Lib.hid hXi
  have HY := Lib.hid hY
  have Z2 := Lib.hid (asz W1 (.cells #[.func (.yield l) #[] #[]] 68))
  clear hm h0 r0 hbn hbr hS hs hk hJi hJb hXi hY
  by_cases hn : now ≤ 40
  · have n0 := NB.out.cell 0
    refine callsIn_of_wp Try.func33 rfl trivial ?_ rfl
    simp only [Try.ntmps33, List.size_toArray, List.length_cons, List.length_nil, Nat.reduceAdd, Nat.reduceSub, Array.replicate_succ, Array.replicate_zero, List.push_toArray, List.append_toArray, List.nil_append, List.cons_append]
    gi_wp2
    refine bodyPost_ret (results_none rfl _ _ _) rfl ?_
    exact ⟨⟨_, rfl⟩, .inl ⟨L1, cn1, J2.out, R2.out, hc, SD.out, WK.out, .inl hn⟩⟩
  · have wa : IntKind.i64.wrap (now - 40) = now - 40 := IntWalk.i64_in _ (by omega)
    have wb : IntKind.i64.wrap (now - 40 - 1) = now - 40 - 1 := IntWalk.i64_in _ (by omega)
    have t1 : decide (now ≤ 40) = false := decide_eq_false hn
    have n0 := NB.out.cell 0
    refine callsIn_of_wp_marks Try.func33 rfl trivial ?_ rfl
    simp only [Try.ntmps33, List.size_toArray, List.length_cons, List.length_nil, Nat.reduceAdd, Nat.reduceSub, Array.replicate_succ, Array.replicate_zero, List.push_toArray, List.append_toArray, List.nil_append, List.cons_append]
    refine wpIn_wide.2 (calm_wp ?_)
    go_upto_region 2 with fail
    generalize W1.alloc (.cells #[.func (.yield l) #[] #[]] 68) = w2 at *
    clear n0 t1
    have J3 := Lib.hid (JI.out _ _ _ J2.out (Is.below (Below.refl _ w2).drew))
    have R3' := Lib.hid (R2.out.below (Below.refl _ w2).drew)
    have NB3 := Lib.hid (show Blk w2.drew bn _ _ from NB.out.drewN 1)
    have RB3 := Lib.hid (show Blk w2.drew br _ _ from RB.out.drewN 1)
    have YB3 := Lib.hid (show Blk w2.drew W1.heap.size _ _ from YB.out.drewN 1)
    have Z3 := Lib.hid (show w2.drew.heap.size = W1.heap.size + 1 from Z2.out)
    refine wp_region_held_drew (S := fun ws => ws.cell? ⟨bn, 0, none⟩ = some (.int .i64 now) ∧ ws.cell? ⟨br, 0, none⟩ = some (.pointer (some ⟨g, 0, none⟩))) (by kernel_rfl) ⟨NB3.out.cell 0, RB3.out.cell 0⟩ (fun hHeld => ?_)
    clear J2 R2 NB RB YB Z2
    generalize w2.drew = w3 at *
    have QA := Lib.hid (queue_any R3'.out SD.out WK.out hc)
    refine wpAnyH_take (i := 0) (v := ?_) rfl (by kernel_rfl) (by kernel_rfl) (by kernel_rfl) (fun _ _ _ h => h) (Or.inl ⟨by rfl, ?_⟩) (by assumption) ?_
    rotate_left
    · (intro w hSw; (try dsimp only at hSw); first | (go_simp; done) | (go_simp; with_reducible rfl))
    simp only [Act.put, List.getElem_toArray, List.getElem_cons_zero, List.getElem_cons_succ, List.setIfInBounds_toArray, List.set_cons_zero, List.set_cons_succ]
    refine wpAnyH_take (i := 2) (v := ?_) rfl (by kernel_rfl) (by kernel_rfl) (by kernel_rfl) (fun _ _ _ h => h) (Or.inl ⟨by rfl, ?_⟩) (by assumption) ?_
    rotate_left
    · (intro w hSw; (try dsimp only at hSw); first | (go_simp; done) | (go_simp; with_reducible rfl))
    simp only [Act.put, List.getElem_toArray, List.getElem_cons_zero, List.getElem_cons_succ, List.setIfInBounds_toArray, List.set_cons_zero, List.set_cons_succ]
    refine wpAnyH_take (i := 3) (v := ?_) rfl (by kernel_rfl) (by kernel_rfl) (by kernel_rfl) (fun _ _ _ h => h) (Or.inl ⟨by rfl, ?_⟩) (by assumption) ?_
    rotate_left
    · (intro w hSw; (try dsimp only at hSw); first | (go_simp; done) | (go_simp; with_reducible rfl))
    simp only [Act.put, List.getElem_toArray, List.getElem_cons_zero, List.getElem_cons_succ, List.setIfInBounds_toArray, List.set_cons_zero, List.set_cons_succ]
    refine wpAnyH_take (i := 4) (v := ?_) rfl (by kernel_rfl) (by kernel_rfl) (by kernel_rfl) (fun _ _ _ h => h) (Or.inl ⟨by rfl, ?_⟩) (by assumption) ?_
    rotate_left
    · (intro w hSw; (try dsimp only at hSw); first | (go_simp; done) | (go_simp; with_reducible rfl))
    simp only [Act.put, List.getElem_toArray, List.getElem_cons_zero, List.getElem_cons_succ, List.setIfInBounds_toArray, List.set_cons_zero, List.set_cons_succ]
    refine wpAnyH_ready (rs := [1]) (by kernel_rfl) (by simp) ?_
    refine AllReadyH.cons rfl (fun K hK => ?_) AllReadyH.nil
    go_simp
    refine QA.out.mono ?_
    rintro e w4 ⟨v, rfl, q, F, M, rfl, hq, hin, hf, hb4⟩
    have J4 := Lib.hid (JI.out _ _ _ J3.out (Is.below hb4))
    have R4 := Lib.hid (R3'.out.below hb4)
    have NB4 := Lib.hid (NB3.out.below hb4 NB3.out.lt)
    have RB4 := Lib.hid (RB3.out.below hb4 RB3.out.lt)
    have YB4 := Lib.hid (YB3.out.below hb4 YB3.out.lt)
    have Z4 := Lib.hid (show W1.heap.size + 1 ≤ w4.heap.size by have := hb4.size; have := Z3.out; omega)
    have Q4 := Lib.hid hq
    have IN := Lib.hid hin
    have F4 := Lib.hid (show ∀ k, F k → W1.heap.size + 1 ≤ k from fun k hk => by have := hf k hk; have := Z3.out; omega)
    have LN := Lib.hid hl1
    refine hK.out _ _ ⟨NB4.out.cell 0, RB4.out.cell 0⟩ (fun hH2 => ?_)
    clear hK K hHeld hb4 hq hin hf QA J3 R3' NB3 RB3 YB3 Z3
    refine wpAnyH_ready (rs := [5]) (by kernel_rfl) (by simp) ?_
    refine AllReadyH.cons rfl (fun K hK => ?_) AllReadyH.nil
    go_simp
    refine (qu.due_make q (now - 40 - 1) w4).mono ?_
    rintro e w5 ⟨rfl, hcq, hcn, hb5⟩
    have J5 := Lib.hid (JI.out _ _ _ J4.out (Is.below hb5))
    have R5 := Lib.hid (R4.out.below hb5)
    have NB5 := Lib.hid (NB4.out.below hb5 NB4.out.lt)
    have RB5 := Lib.hid (RB4.out.below hb5 RB4.out.lt)
    have YB5 := Lib.hid (YB4.out.below hb5 YB4.out.lt)
    have Q5 := Lib.hid (Q4.out.below hb5)
    have FB := Lib.hid (show ∀ k, F k → k < w5.heap.size from fun k hk => Nat.lt_of_lt_of_le (Q4.out.lt hk) hb5.size)
    have CQ := Lib.hid hcq
    have CN := Lib.hid hcn
    have ZD := Lib.hid (show W1.heap.size + 1 ≤ w4.heap.size ∧ w4.heap.size + 1 < w5.heap.size from ⟨Z4.out, hcn.lt⟩)
    refine hK.out _ _ ⟨NB5.out.cell 0, RB5.out.cell 0⟩ (fun hH3 => ?_)
    clear hK K hH2 hb5 hcq hcn J4 R4 NB4 RB4 YB4 Q4 Z4
    refine wpAnyH_done (by kernel_rfl) ?_ _
    clear hH3
    go_wp2_with fail
    refine (wpIn_wide (n := 3)).1 ?_
    refine' wpIn_rangeFunc_free5 (α := qu.It × Nat) rfl (by omega) (gf := 46) (lb := #[.pointer (some ⟨w4.heap.size, 0, none⟩), .pointer (some ⟨w4.heap.size + 1, 0, none⟩)]) rfl trivial (enters_of Try.func46 (by kernel_rfl) rfl)
      (encs := fun x => #[.int .i64 x.1.1, .int .i64 x.1.2.2]) (fun _ => rfl)
      (fun x W => Told_ W1.heap.size w5.heap.size w4.heap.size g b bn br q l now J x.1 x.2 W) (fun x _ W' => Gone_ W1.heap.size w5.heap.size w4.heap.size g b bn br q l now J x.2 W') (fun _ _ c W => c = .ret ∧ X W) (fun c W => c = .ret ∧ X W) (fun W => Fin_ g b now J W)
      _
      ?iter ?assign ?body ?done ?stop
    case iter =>
      intro W2 Bk Bx0 hb2 hz2 hbk hlp hBk hBx hYY
      refine (qu.due_it (q := q) (3 - 1) (by omega) (w5.heap.size + 1) w4.heap.size (w4.heap.size + 1) (now - 40 - 1) W2 (Mid_ W1.heap.size w5.heap.size w4.heap.size g b bn br q l now J Bk) (fun W => qn q W) (fun W => ∃ c, Bx0 c W ∧ c = .ret ∧ X W) (fun W => Bk W ∧ Fin_ g b now J W) ?_ ?_ ?_ ?_).mono ?_
      · rintro k F M ad W ⟨-, rfl, hh, -⟩
        exact ⟨hh.qs, qn_of hh.qs, hh.cq.cell 0, hh.cn.cell 0, by have := hh.num; omega, by have := hh.num; omega⟩
      · refine ⟨_, F, M, L1.length, hbk, rfl, ⟨Q5.out.below hb2, fun k hk => by have := F4.out k hk; omega, fun k hk => by have := FB.out k hk; omega, YB5.out.below hb2 YB5.out.lt, NB5.out.below hb2 NB5.out.lt, RB5.out.below hb2 RB5.out.lt, CQ.out.below hb2 CQ.out.lt, CN.out.below hb2 CN.out.lt, by omega, by have := IN.out.len; have := LN.out; omega⟩, L1, cn1, JI.out _ _ _ J5.out (Is.below hb2), R5.out.below hb2, hc, SD.out, WK.out, IN.out.rel SD.out⟩
      · rintro k F M ad W ⟨hbk, rfl, hh, L, cn, hsd⟩ hno
        refine ⟨hbk, L, cn, hsd.jj, hsd.ra, hsd.cl, hsd.sd, hsd.wk, .inr (fun i hi => ?_)⟩
        cases M with
        | nil =>
          obtain ⟨k, hk⟩ := hsd.rel.all _ (List.getElem_mem hi.lt)
          cases hk
        | cons x M' =>
          obtain ⟨i', hi', e1, e2⟩ := hsd.rel.head hsd.sd hh.qs.sd
          have := hi.uniq hi'
          subst this
          have := hno x M' rfl
          omega
      · rintro k F x M ad W ⟨hbk, rfl, hh, L, cn, hsd⟩ hnow2 F' W' hq hm
        obtain ⟨p1, p2, p3⟩ := hh.pop hq hm (by have := hh.big; have := ZD.out; omega)
        refine (hYY (x, M.length + 1) W' (hBk _ _ hbk p2) ⟨F', M, ad, rfl, p1, hh.qs.sd, hnow2, L, cn, JI.out _ _ _ hsd.jj p3, RAt.is hsd.ra p3 LT.out.1 LT.out.2.1, hsd.cl, hsd.sd, hsd.wk, hsd.rel⟩).mono ?_
        rintro e W3 (⟨rfl, g1, g2⟩ | ⟨rfl, c', g1, g2⟩)
        · obtain ⟨F2, M2, ad2, l2, -, -, m2⟩ := g2
          exact .inl ⟨rfl, M2.length, F2, M2, ad2, by simp only [List.length_cons]; exact l2, g1, rfl, m2⟩
        · exact .inr ⟨rfl, c', g1, g2⟩
      · rintro e W' ⟨g1, (g2 | g2)⟩
        · exact ⟨g1, .inl g2⟩
        · obtain ⟨c', g2, g3⟩ := g2
          exact ⟨g1, .inr ⟨c', g2, g3⟩⟩
    case assign =>
      intro x W K hK
      simp only [List.zip_toArray, List.zip_cons_cons, List.zip_nil_right, List.foldl_toArray, List.foldl_cons, List.foldl_nil, List.setIfInBounds_toArray, List.set_cons_succ, List.set_cons_zero]
      gi_wp2
      exact hK
    case body =>
      rintro ⟨⟨x0, x1, x2⟩, k0⟩ Wb Wc ⟨F5, M5, ad5, hk0, hh0, hpw, hdue, L, cn, hsd0⟩ hlb hO hlc hlt
      dsimp only at hk0 hdue ⊢
      subst hk0
      have hzd := ZD.out
      have ltt := LT.out
      have hIl : Is W1.heap.size Wb Wc := Is.loop hO hlb (by omega)
      have hh := hh0.only hO (fun k hk e => (hh0.av k hk).2 e) (by omega)
      have hjj := JI.out _ _ _ hsd0.jj hIl
      have hra := RAt.is hsd0.ra hIl ltt.1 ltt.2.1
      obtain ⟨i, hi, e1, e2⟩ := hsd0.rel.head hsd0.sd hpw
      dsimp only at e1 e2
      have hlk := look_at hsd0.sd hi.lt
      rw [← e2] at hlk
      have hwf := hsd0.wk _ (List.getElem_mem hi.lt)
      rw [← e2] at hwf
      obtain ⟨wd, hrun, hmp, hon⟩ := IMap.drop (t := 56) (ty := 0) hra.map Try.underlying3 Try.underlying56 hwf
      have hrd : RAt wd g b (look (dropL L x2)) (cn - if (gv (look L) x2).isSome then 1 else 0) := ⟨hra.blk.only hon (fun e => hra.ne e.symm), by
        rw [look_drop]
        have := gv_set (look L) x2 none
        rw [← this]
        exact hmp⟩
      have hjd := JB.out _ _ _ _ _ hjj hra hon
      have hhd := hh.only hon (fun k hk e => by have := hh.lo k hk; omega) (by omega)
      have hyy := HY.out L i hi wd _ (by rw [← e1]; omega) (by omega) hsd0.sd hsd0.wk hjd (by rw [← e2]; exact hrd) (by have := hsd0.cl; omega)
      rw [← e2] at hyy
      obtain ⟨fn, tmps, assign, body, hy, hR⟩ := hyy
      have HR := Lib.hid hR
      have KD := Lib.hid (show Kept w5.heap.size Wc wd from Kept.of_only hon (by omega) (by omega) (by omega))
      have HL := Lib.hid hlc
      have RL := Lib.hid (hsd0.rel.pop hpw)
      have CL := Lib.hid hsd0.cl
      have SDd := Lib.hid (hsd0.sd.drop x2)
      have WKd := Lib.hid (show Wk (dropL L x2) from fun d hd => hsd0.wk d (drop_mem hd))
      have RD := Lib.hid hrd
      have HD := Lib.hid hhd
      have r0 := hh.rb.cell 0
      have b0 := hra.blk.cell 0
      have y0 := hhd.yb.cell 0
      clear hR hlc hlb hO hh0 hh hsd0 hIl hjj hra hi e1 e2 hlk hwf hmp hon hrd hjd hhd hpw hdue
      gi_wp2
      refine (round_any HR.out).mono ?_
      rintro e w6 (⟨rfl, hj6, ho6⟩ | ⟨rfl, hx6, ho6⟩)
      · have K6 := Lib.hid (KD.out.trans (Kept.of_only ho6 (by have := HD.out.big; omega) (fun h => by have := HS.out _ h; omega) (fun h => by have := HS.out _ h; omega)))
        have H6 := Lib.hid (HD.out.only ho6 (fun k hk h => by have := HS.out _ h; have := HD.out.lo k hk; omega) (by
          refine ⟨fun h => ?_, fun h => ?_, fun h => ?_, fun h => ?_, fun h => ?_⟩ <;> (have := HS.out _ h; omega)))
        have J6 := Lib.hid hj6
        have R6 := Lib.hid (show RAt w6 g b _ _ from ⟨RD.out.blk.only ho6 (fun h => by have := HS.out _ h; omega), MapIs.only RD.out.map ho6 (fun h => by have := HS.out _ h; omega)⟩)
        have L6 := Lib.hid (show ∃ r, w6.heap[w5.heap.size + 1]? = some (.loop r) from by
          obtain ⟨r, hr⟩ := HL.out
          exact ⟨r, K6.out.2.trans hr⟩)
        clear hj6 ho6 r0 b0 y0
        gi_wp2
        refine ⟨K6.out, fun W3 h3 => ?_⟩
        have h3i : Is W1.heap.size w6 W3 := Is.loop h3 L6.out (by omega)
        refine ⟨F5, M5, ad5, by omega, trivial, rfl, H6.out.only h3 (fun k hk e => (H6.out.av k hk).2 e) (by omega), dropL L x2, _, JI.out _ _ _ J6.out h3i, RAt.is R6.out h3i ltt.1 ltt.2.1, by have := CL.out; omega, SDd.out, WKd.out, RL.out⟩
      · have K6 := Lib.hid (KD.out.trans (Kept.of_only ho6 (by have := HD.out.big; omega) (fun h => by have := HS.out _ h; omega) (fun h => by have := HS.out _ h; omega)))
        have X6 := Lib.hid hx6
        have L6 := Lib.hid (show ∃ r, w6.heap[w5.heap.size + 1]? = some (.loop r) from by
          obtain ⟨r, hr⟩ := HL.out
          exact ⟨r, K6.out.2.trans hr⟩)
        clear hx6 ho6 r0 b0 y0
        gi_wp2
        exact ⟨K6.out, fun W3 h3 => ⟨rfl, XI.out _ _ X6.out (Is.loop h3 L6.out (by omega))⟩⟩
    case done =>
      rintro W0 W ⟨L, cn, f1, f2, f3, f4, f5, f6⟩ hl hO hK
      have hzd := ZD.out
      have ltt := LT.out
      have h3 : Is W1.heap.size W0 (W.putObj w5.heap.size (.deferred none)) := (Is.loop hO hl (by omega)).trans (Is.putd hK (by omega))
      have FF := Lib.hid (show Fin_ g b now J (W.putObj w5.heap.size (.deferred none)) from ⟨L, cn, JI.out _ _ _ f1 h3, RAt.is f2 h3 ltt.1 ltt.2.1, f3, f4, f5, f6⟩)
      have KK := Lib.hid hK
      clear h3 f1 f2 f3 f4 f5 f6 hl hO hK
      go_wp2_with fail
      refine ⟨by simp, .inl ⟨_, _, rfl, run_takeDeferred KK.out, ?_⟩⟩
      exact ⟨_, results_none rfl _ _ _, ⟨_, rfl⟩, .inl FF.out⟩
    case stop =>
      rintro c' W0 W ⟨rfl, hx⟩ hl hO hK
      have hzd := ZD.out
      have XX := Lib.hid (XI.out _ _ hx ((Is.loop hO hl (by omega)).trans (Is.putd (o := .deferred none) hK (by omega))))
      have KK := Lib.hid hK
      clear hx hl hO hK
      refine wpIn_wide.2 ?_
      go_wp2_with fail
      refine ⟨by simp, .inl ⟨_, _, rfl, run_takeDeferred KK.out, ?_⟩⟩
      exact ⟨_, results_none rfl _ _ _, ⟨_, rfl⟩, .inr XX.out⟩
set_option maxHeartbeats 1000000 in
theorem lapsed_make (g : Nat) (now : Int) (w : World) : Calls Try.prog 18 #[.pointer (some ⟨g, 0, none⟩), .int .i64 now] w fun e w' => e = .returned (.func (.func 33) #[] #[.pointer (some ⟨w.heap.size + 1, 0, none⟩), .pointer (some ⟨w.heap.size, 0, none⟩)]) ∧ Blk w' w.heap.size 23 #[.pointer (some ⟨g, 0, none⟩)] ∧ Blk w' (w.heap.size + 1) 3 #[.int .i64 now] ∧ Below w.heap.size w w' := by
  have h1 := made w (.cells #[.pointer (some ⟨g, 0, none⟩)] 23)
  have hm := Lib.hid (up h1 (made _ (.cells #[.int .i64 now] 3)) h1.size)
  have bx := Lib.hid ((Blk.new w 23 #[.pointer (some ⟨g, 0, none⟩)]).alloc (.cells #[.int .i64 now] 3))
  have by_ := Lib.hid (show Blk _ (w.heap.size + 1) _ _ by
    have := Blk.new (w.alloc (.cells #[.pointer (some ⟨g, 0, none⟩)] 23)) 3 #[.int .i64 now]
    rw [asz] at this
    exact this)
  clear h1
  go_enter Try.func18, Try.ntmps18
  go_wp2_with fail
  go_ret
  exact ⟨rfl, bx.out, by_.out, hm.out⟩
end Go.Proofs.Ytmgfnhbhgmpchaa.rn
