/-
  BidEnds: what lies beside the auctions, in the rounds.
-/
import Derived.Test.YtlklfolpcebahaaAucY
import Derived.Test.YtlklfolpcebahaaBeA
namespace Go.Proofs.Ytlklfolpcebahaa.bb
open Go.RowKit Go.Shelf
open base (ret_bool ret_int made up Blk Only Nums below_drewN)
open rk rgm
set_option linter.unusedVariables false
set_option linter.unusedSimpArgs false
def Cs (W W' : World) : Prop := ∀ k t cs, Blk W k t cs → t ≠ 58 → t ≠ 35 → Blk W' k t cs
/-- all cells lie as they lay -/
def Ca (W W' : World) : Prop := ∀ k t cs, Blk W k t cs → Blk W' k t cs
theorem Ca.cs {W W' : World} (h : Ca W W') : Cs W W' := fun k t cs hb _ _ => h k t cs hb
theorem Ca.below {W W' : World} (h : Below W.heap.size W W') : Ca W W' := fun k t cs hb => hb.below h hb.lt
theorem Ca.loop {W W' : World} {l : Nat} (ho : Only (fun j => j = l) W W') (hl : ∃ r, W.heap[l]? = some (.loop r)) : Ca W W' := fun k t cs hb => hb.only ho (fun e => by
  subst e
  obtain ⟨r, hr⟩ := hl
  have hb' : W.heap[k]? = some _ := hb
  rw [hr] at hb'
  injection hb' with hb'
  cases hb')
theorem Cs.tch {W W' : World} {B g : Nat} {L : List D} {nx : Int} (h : DAt W B g L nx) (k : Tch g W W') : Cs W W' := fun j t cs hb h1 h2 => by
  obtain ⟨v, hg, _⟩ := h.ex
  exact k.blk hb (ty_ne hb hg h1) h2
theorem own_ca {W W' : World} {b : Nat} {t : TypeId} {v : Value} {L : List D} (h : rk.Own E7 W b t v L) (k : ∀ x cs, Blk W x t cs → Blk W' x t cs) : rk.Own E7 W' b t v L := h.keep (fun x hx => by
  obtain ⟨_, _, cs, hb⟩ := h.lt' x hx
  have h1 : W'.heap[x]? = some _ := k x _ hb
  have h2 : W.heap[x]? = some _ := hb
  rw [h1, h2])
theorem DAt.ca {W W' : World} {B g : Nat} {L : List D} {nx : Int} (h : DAt W B g L nx) (k : Ca W W') : DAt W' B g L nx := by
  obtain ⟨v, h1, h2⟩ := h.ex
  exact ⟨⟨v, k _ _ _ h1, own_ca h2 (fun x cs hb => k _ _ _ hb)⟩, h.ge⟩
theorem DAt.set1 {w : World} {B g r : Nat} {L : List D} {nx : Int} {t : TypeId} {cs : Array Value} (h : DAt w B g L nx) (hb : Blk w r t cs) (h1 : t ≠ 58) (h2 : t ≠ 35) (v0 : Value) : DAt (w.setCell ⟨r, 0, none⟩ v0) B g L nx := by
  obtain ⟨v, hk, ho⟩ := h.ex
  refine ⟨⟨v, hk.far (p := ⟨r, 0, none⟩) (ty_ne hk hb (fun e => h1 e.symm)) v0, ho.keep (fun x hx => ?_)⟩, h.ge⟩
  obtain ⟨_, _, cs', hx'⟩ := ho.lt' x hx
  exact Below.heap_setCell w _ _ _ (ty_ne hx' hb (fun e => h2 e.symm))
structure Cj (w : World) (b0 x8 n11 bq g Dl : Nat) (now stop nx : Int) (L : List D) (kc : Int) (W : World) : Prop where
  bel : Below w.heap.size w W
  nb : Blk W w.heap.size 3 #[.int .i64 now]
  sb : Blk W (w.heap.size + 1) 3 #[.int .i64 stop]
  rt : Blk W (w.heap.size + 1 + 1) 4 #[.bool false]
  xb : ∃ A c, Blk W x8 28 #[.slice A L.length c, .int .i64 nx] ∧ rk.Own E7 W b0 52 (.slice A L.length c) L
  kb : Blk W n11 3 #[.int .i64 kc]
  qb : Blk W bq 23 #[.pointer (some ⟨g, 0, none⟩)]
  mb : Blk W (bq + 1) 3 #[.int .i64 now]
  inv : Inv L nx
  kl : 0 ≤ kc ∧ kc + L.length ≤ 1000
  big : Dl + 2 ≤ W.heap.size
theorem Cj.cs {w W W' : World} {b0 x8 n11 bq g Dl : Nat} {now stop nx kc : Int} {L : List D} (h : Cj w b0 x8 n11 bq g Dl now stop nx L kc W) (k : Cs W W') (hb : Below w.heap.size W W') : Cj w b0 x8 n11 bq g Dl now stop nx L kc W' := by
  obtain ⟨A, c, x1, x2⟩ := h.xb
  exact ⟨h.bel.trans hb, k _ _ _ h.nb (by decide) (by decide), k _ _ _ h.sb (by decide) (by decide), k _ _ _ h.rt (by decide) (by decide), ⟨A, c, k _ _ _ x1 (by decide) (by decide), own_ca x2 (fun x cs hb => k _ _ _ hb (by decide) (by decide))⟩, k _ _ _ h.kb (by decide) (by decide), k _ _ _ h.qb (by decide) (by decide), k _ _ _ h.mb (by decide) (by decide), h.inv, h.kl, Nat.le_trans h.big hb.size⟩
theorem Cj.below {w W W' : World} {b0 x8 n11 bq g Dl : Nat} {now stop nx kc : Int} {L : List D} (h : Cj w b0 x8 n11 bq g Dl now stop nx L kc W) (k : Below W.heap.size W W') : Cj w b0 x8 n11 bq g Dl now stop nx L kc W' := h.cs (Ca.below k).cs (k.mono h.bel.size)
theorem Inv.cut {L : List D} {nx : Int} (h : Inv L nx) (i : Nat) : Inv (L.eraseIdx i) nx := by
  obtain ⟨h1, h2, h3, h4⟩ := h
  have s := List.eraseIdx_sublist L i
  exact ⟨h1, h2.sublist s, fun d hd => h3 d (s.mem hd), Nat.le_trans s.length_le h4⟩
theorem Cj.step {w W : World} {b0 x8 n11 bq g Dl : Nat} {now stop nx kc : Int} {L L' : List D} {A : Option Addr} {c : Nat} (h : Cj w b0 x8 n11 bq g Dl now stop nx L kc W) (ho : rk.Own E7 W b0 52 (.slice A L'.length c) L') (hi : Inv L' nx) (hL : L'.length + 1 ≤ L.length) (hn : w.heap.size + 2 < x8 ∧ w.heap.size + 2 < n11 ∧ n11 ≠ bq ∧ n11 ≠ bq + 1) :
    Cj w b0 x8 n11 bq g Dl now stop nx L' (kc + 1) (((W.setCell ⟨x8, 0, none⟩ (.slice A L'.length c)).setCell ⟨x8, 1, none⟩ (.int .i64 nx)).setCell ⟨n11, 0, none⟩ (.int .i64 (kc + 1))) := by
  obtain ⟨A0, c0, x1, x2⟩ := h.xb
  have e1 : x8 ≠ n11 := ty_ne x1 h.kb (by decide)
  have e2 : bq ≠ x8 := ty_ne h.qb x1 (by decide)
  have e3 : bq + 1 ≠ x8 := ty_ne h.mb x1 (by decide)
  have s1 := blk2 x1 (.slice A L'.length c) (.int .i64 nx)
  have k1 := (h.kb.far (p := ⟨x8, 0, none⟩) (fun e => e1 e.symm) (.slice A L'.length c)).far (p := ⟨x8, 1, none⟩) (fun e => e1 e.symm) (.int .i64 nx)
  have o1 := own2 ho x1 (by decide) (.slice A L'.length c) (.int .i64 nx)
  have far3 : ∀ {p : Nat} {t : TypeId} {cs : Array Value}, Blk W p t cs → p ≠ x8 → p ≠ n11 → Blk (((W.setCell ⟨x8, 0, none⟩ (.slice A L'.length c)).setCell ⟨x8, 1, none⟩ (.int .i64 nx)).setCell ⟨n11, 0, none⟩ (.int .i64 (kc + 1))) p t cs := fun hb h1 h2 => ((hb.far (p := ⟨x8, 0, none⟩) h1 _).far (p := ⟨x8, 1, none⟩) h1 _).far (p := ⟨n11, 0, none⟩) h2 _
  have kl := h.kl
  refine ⟨(below2 h.bel (show w.heap.size ≤ x8 by omega) _ _).setCell (p := ⟨n11, 0, none⟩) (by show w.heap.size ≤ n11; omega) _, far3 h.nb (by omega) (by omega), far3 h.sb (by omega) (by omega), far3 h.rt (by omega) (by omega), ⟨A, c, s1.far (p := ⟨n11, 0, none⟩) e1 _, o1.keep (fun x hx => ?_)⟩, k1.put 0 _, far3 h.qb e2 (fun e => hn.2.2.1 e.symm), far3 h.mb e3 (fun e => hn.2.2.2 e.symm), hi, by omega, ?_⟩
  · obtain ⟨_, _, cs', hx'⟩ := o1.lt' x hx
    exact Below.heap_setCell _ _ _ _ (ty_ne hx' k1 (by decide))
  · have : (((W.setCell ⟨x8, 0, none⟩ (.slice A L'.length c)).setCell ⟨x8, 1, none⟩ (.int .i64 nx)).setCell ⟨n11, 0, none⟩ (.int .i64 (kc + 1))).heap.size = W.heap.size := by simp [World.setCell]
    rw [this]
    exact h.big
def End_ (w : World) (b0 x8 n11 bq g Dl : Nat) (now stop nx : Int) (W : World) : Prop := ∃ L kc, DAt W b0 g L nx ∧ Cj w b0 x8 n11 bq g Dl now stop nx L kc W ∧ (kc = stop ∨ L = [] ∨ now < en L (fo L L.length))
set_option maxHeartbeats 1000000 in
theorem ended_make (g : Nat) (now : Int) (w : World) : Calls Try.prog 19 #[.pointer (some ⟨g, 0, none⟩), .int .i64 now] w fun e w' => e = .returned (.func (.func 35) #[] #[.pointer (some ⟨w.heap.size, 0, none⟩), .pointer (some ⟨w.heap.size + 1, 0, none⟩)]) ∧ Blk w' w.heap.size 23 #[.pointer (some ⟨g, 0, none⟩)] ∧ Blk w' (w.heap.size + 1) 3 #[.int .i64 now] ∧ Below w.heap.size w w' := by
  have h1 := made w (.cells #[.pointer (some ⟨g, 0, none⟩)] 23)
  have hm := Lib.hid (up h1 (made _ (.cells #[.int .i64 now] 3)) h1.size)
  have bx := Lib.hid ((Blk.new w 23 #[.pointer (some ⟨g, 0, none⟩)]).alloc (.cells #[.int .i64 now] 3))
  have by_ := Lib.hid (show Blk _ (w.heap.size + 1) _ _ by
    have := Blk.new (w.alloc (.cells #[.pointer (some ⟨g, 0, none⟩)] 23)) 3 #[.int .i64 now]
    rw [asz] at this
    exact this)
  clear h1
  go_enter Try.func19, Try.ntmps19
  go_wp2_with fail
  go_ret
  exact ⟨rfl, bx.out, by_.out, hm.out⟩
end Go.Proofs.Ytlklfolpcebahaa.bb
