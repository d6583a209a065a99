/-
  R-trees: a range over things.
-/
import Derived.Test.YtndhdpjgnepfnaaTrAD
import Derived.Test.YtndhdpjgnepfnaaRangeO
namespace Go.Proofs.Ytndhdpjgnepfnaa.tr
open Go.RowKit Go.Shelf
open base (ret_bool ret_int made up Blk Only)
open rk (Lay)
open rect rgm
set_option linter.unusedVariables false
set_option linter.unusedSimpArgs false

def LPost (J : Nat → World → Prop) (E : Code → World → Prop) (S0 : Nat → Prop) (m : Nat) (Wc : World) : Exit → Act → World → Prop
  | .normal, _, W' => Only S0 Wc W' ∧ J (m + 1) W'
  | .ret, _, W' => Only S0 Wc W' ∧ E .ret W'
  | .exit id, _, W' => Only S0 Wc W' ∧ E (.exit id) W'
  | .goto t, _, W' => Only S0 Wc W' ∧ E (.goto t) W'
  | .panic _, _, _ => False
  | .outgrown, _, _ => False
theorem wp_things {gop : Operand} {ps : Array Tmp} {assign body : Code} {QQ : Exit → Act → World → Prop} {a : Act} {w : World} (ask : Bx → Bool) (fn : Fn) (fs cp : Array Value) (hso : ∀ h, SearchOK ask (.func fn fs cp) h) (B t h n root : Nat) (v : Value) (X : List Ex)
    (hg : a.eval gop = seqV B) (hps : ps.size = 2)
    (hx : FB B t (.func fn fs cp) w) (hq : TAt w t h n root v X)
    (J : Nat → World → Prop) (E : Code → World → Prop) (S0 : Nat → Prop) (A2 : Th → World → Act → World → Prop)
    (hS : ∀ j, S0 j → j < w.heap.size ∧ j ≠ t ∧ ¬ foot root v X j ∧ j ≠ B ∧ j ≠ B + 1)
    (hJ0 : J 0 w)
    (hJs : ∀ m W W', J m W → Only (fun k => w.heap.size ≤ k) W W' → J m W')
    (hEs : ∀ c W W', E c W → Only (fun k => w.heap.size ≤ k) W W' → E c W')
    (hA : ∀ (d : Th) (W : World) (K : Act → World → Prop), w.heap.size + 1 < W.heap.size → (∀ a' W', Below W.heap.size W W' → A2 d W a' W' → K a' W') →
      assign.wpIn (Fence.wide.inRound (w.heap.size + 1)) 1 Try.prog (Exit.then K (fun _ _ _ => False)) { tmps := (ps.zip (targs d)).foldl (fun t (p, v) => t.setIfInBounds p v) a.tmps, defers := [] } W)
    (hB : ∀ (m : Nat) (d : Th) (a' : Act) (W Wb Wc : World), m < (tl ask X).length → (tl ask X).getD m dth = d → J m Wc → A2 d W a' Wb → w.heap.size + 1 < W.heap.size → Below W.heap.size W Wb → Only (fun k => k = w.heap.size + 1) Wb Wc →
      body.wpIn (Fence.wide.inRound (w.heap.size + 1)) 1 Try.prog (LPost J E S0 m Wc) a' Wc)
    (hdone : ∀ W, J (tl ask X).length W → w.heap.size + 2 ≤ W.heap.size → W.heap[w.heap.size]? = some (.deferred (some [])) → QQ .normal { a with defers := { target := .collected w.heap.size, args := #[] } :: a.defers } W)
    (hstop : ∀ (c : Code) (W : World), E c W → w.heap.size + 2 ≤ W.heap.size → W.heap[w.heap.size]? = some (.deferred (some [])) → c.wpIn Fence.wide 3 Try.prog QQ { a with defers := { target := .collected w.heap.size, args := #[] } :: a.defers } W) :
    (Code.rangeFunc gop ps assign body).wpIn Fence.wide 3 Try.prog QQ a w := by
  have hBw := hx.qb.lt
  have hBw1 := hx.rb.lt
  have hgw := hq.blk.lt
  have hloop : ∀ {A A' : World}, w.heap.size + 1 < A.heap.size → Only (fun k => k = w.heap.size + 1) A A' → Only (fun k => w.heap.size ≤ k) A A' := fun _ h => h.mono (fun i _ e => by omega)
  refine wpIn_rangeFunc_free4 (α := Nat) rfl (by omega) (gf := 45) (lb := #[.pointer (some ⟨B, 0, none⟩), .pointer (some ⟨B + 1, 0, none⟩)]) hg trivial (enters_of Try.func45 (by kernel_rfl) rfl)
    (encs := fun m => targs ((tl ask X).getD m dth)) (fun _ => by rw [hps]; rfl)
    (fun m W => m < (tl ask X).length ∧ J m W ∧ w.heap.size + 2 ≤ W.heap.size)
    (fun m W W' => J (m + 1) W' ∧ Only (fun j => S0 j ∨ j = w.heap.size + 1) W W')
    (fun m W c W' => E c W' ∧ Only (fun j => S0 j ∨ j = w.heap.size + 1) W W')
    (fun c W' => E c W' ∧ w.heap.size + 2 ≤ W'.heap.size)
    (fun W' => J (tl ask X).length W' ∧ w.heap.size + 2 ≤ W'.heap.size)
    (fun m a' W Wb => Below W.heap.size W Wb ∧ A2 ((tl ask X).getD m dth) W a' Wb ∧ w.heap.size + 1 < W.heap.size)
    ?iter ?assign ?body ?done ?stop
  case iter =>
    intro W1 Bk Bx hb1 hz1 hbk hlp hBk hBx hYY
    show CallsIn Fence.wide 2 Try.prog 45 #[.func (.yield (w.heap.size + 1)) #[] #[], .pointer (some ⟨B, 0, none⟩), .pointer (some ⟨B + 1, 0, none⟩)] W1 _
    refine (callsIn_wide (n := 2)).2 ((found_it ask fn fs cp hso B t h n root v X (w.heap.size + 1) W1.heap.size (fun m W => Bk W ∧ J m W ∧ w.heap.size + 2 ≤ W.heap.size) (fun W => ∃ c, Bx c W ∧ E c W ∧ w.heap.size + 2 ≤ W.heap.size) (fun j => S0 j ∨ j = w.heap.size + 1) W1 (hx.below hb1) (hq.below hb1) ?_ (Nat.le_refl _) ⟨hbk, hJs _ _ _ hJ0 ((Only.refl _ w).below hb1 (fun i hi h => by omega)), by omega⟩ ?_ ?_).mono ?_)
    · rintro j (h | rfl)
      · obtain ⟨h1, h2⟩ := hS j h
        exact ⟨by omega, h2⟩
      · exact ⟨by omega, by omega, fun e => by have := hq.nd.lt _ e; omega, by omega, by omega⟩
    · rintro m W W' ⟨h1, h2, h3⟩ hb
      exact ⟨hBk _ _ h1 (Kept.of_below hb (by omega)), hJs _ _ _ h2 ((Only.refl _ W).below hb (fun i hi h => by omega)), by have := hb.size; omega⟩
    · rintro m W' hm ⟨h1, h2, h3⟩
      refine (yield_deep (hYY m W' h1 ⟨hm, h2, h3⟩)).mono ?_
      rintro e W2 (⟨rfl, g1, g2, g3⟩ | ⟨rfl, c, g1, g2, g3⟩)
      · exact .inl ⟨rfl, ⟨g1, g2, by have := g3.size; omega⟩, g3⟩
      · exact .inr ⟨rfl, ⟨c, g1, g2, by have := g3.size; omega⟩, g3⟩
    · rintro e W' ⟨h1, (⟨h2, h3, h4⟩ | ⟨c, h2, h3, h4⟩)⟩
      · exact ⟨h1, .inl ⟨h2, h3, h4⟩⟩
      · exact ⟨h1, .inr ⟨c, h2, h3, h4⟩⟩
  case assign =>
    intro m W K hY hsz hK
    exact hA _ W K hsz (fun a' W' hb h2 => hK a' W' (Kept.of_below hb (by omega)) ⟨hb, h2, hsz⟩)
  case body =>
    rintro m a' W Wb Wc ⟨hm, hj, hsz⟩ ⟨hb, hA2, hsz2⟩ hlb hO hlc hlt
    have hbz := hb.size
    have hjc : J m Wc := hJs _ _ _ (hJs _ _ _ hj ((Only.refl _ W).below hb (fun i hi h => by omega))) (hloop (by omega) hO)
    have hWc : Only (fun j => S0 j ∨ j = w.heap.size + 1) W Wc := ((Only.refl _ W).below hb (fun i hi h => by omega)).trans hO (fun i hi e => .inr e)
    have nD : ∀ j, S0 j → j < w.heap.size := fun j h => (hS j h).1
    have kp : ∀ {W' : World}, Only S0 Wc W' → Kept w.heap.size Wc W' := fun h => Kept.of_only h hlt (fun e => by have := nD _ e; omega) (fun e => by have := nD _ e; omega)
    have lt2 : ∀ {W' : World}, Only S0 Wc W' → w.heap.size + 1 < W'.heap.size := fun h => by have := h.size; omega
    have tot : ∀ {W' W2 : World}, Only S0 Wc W' → Only (fun k => k = w.heap.size + 1) W' W2 → Only (fun j => S0 j ∨ j = w.heap.size + 1) W W2 := fun h ho => (hWc.trans h (fun i hi e => .inl e)).trans ho (fun i hi e => .inr e)
    refine Code.wpIn_mono (fun e a2 W' h => ?_) (hB m _ a' W Wb Wc hm rfl hjc hA2 hsz2 hb hO)
    cases e with
    | normal => exact ⟨kp h.1, fun W2 ho => ⟨hJs _ _ _ h.2 (hloop (lt2 h.1) ho), tot h.1 ho⟩⟩
    | ret => exact ⟨kp h.1, fun W2 ho => ⟨hEs _ _ _ h.2 (hloop (lt2 h.1) ho), tot h.1 ho⟩⟩
    | exit id => exact ⟨kp h.1, fun W2 ho => ⟨hEs _ _ _ h.2 (hloop (lt2 h.1) ho), tot h.1 ho⟩⟩
    | goto t => exact ⟨kp h.1, fun W2 ho => ⟨hEs _ _ _ h.2 (hloop (lt2 h.1) ho), tot h.1 ho⟩⟩
    | panic p => exact h.elim
    | outgrown => exact h.elim
  case done =>
    rintro W0 W ⟨h1, h2⟩ hl hO hK
    exact hdone W (hJs _ _ _ h1 (hloop (by omega) hO)) (Nat.le_trans h2 hO.size) hK
  case stop =>
    rintro c W0 W ⟨h1, h2⟩ hl hO hK
    exact hstop c W (hEs _ _ _ h1 (hloop (by omega) hO)) (Nat.le_trans h2 hO.size) hK
/-- .. where the assignment lays no block -/
theorem wp_things5 {gop : Operand} {ps : Array Tmp} {assign body : Code} {QQ : Exit → Act → World → Prop} {a : Act} {w : World} (ask : Bx → Bool) (fn : Fn) (fs cp : Array Value) (hso : ∀ h, SearchOK ask (.func fn fs cp) h) (B t h n root : Nat) (v : Value) (X : List Ex)
    (hg : a.eval gop = seqV B) (hps : ps.size = 2)
    (hx : FB B t (.func fn fs cp) w) (hq : TAt w t h n root v X)
    (J : Nat → World → Prop) (E : Code → World → Prop) (S0 : Nat → Prop) (a₁ : Th → Act)
    (hS : ∀ j, S0 j → j < w.heap.size ∧ j ≠ t ∧ ¬ foot root v X j ∧ j ≠ B ∧ j ≠ B + 1)
    (hJ0 : J 0 w)
    (hJs : ∀ m W W', J m W → Only (fun k => w.heap.size ≤ k) W W' → J m W')
    (hEs : ∀ c W W', E c W → Only (fun k => w.heap.size ≤ k) W W' → E c W')
    (hA : ∀ (d : Th) (W : World) (K : Act → World → Prop), K (a₁ d) W →
      assign.wpIn (Fence.wide.inRound (w.heap.size + 1)) 1 Try.prog (Exit.then K (fun _ _ _ => False)) { tmps := (ps.zip (targs d)).foldl (fun t (p, v) => t.setIfInBounds p v) a.tmps, defers := [] } W)
    (hB : ∀ (m : Nat) (d : Th) (Wc : World), m < (tl ask X).length → (tl ask X).getD m dth = d → J m Wc → w.heap.size + 1 < Wc.heap.size →
      body.wpIn (Fence.wide.inRound (w.heap.size + 1)) 1 Try.prog (LPost J E S0 m Wc) (a₁ d) Wc)
    (hdone : ∀ W, J (tl ask X).length W → w.heap.size + 2 ≤ W.heap.size → W.heap[w.heap.size]? = some (.deferred (some [])) → QQ .normal { a with defers := { target := .collected w.heap.size, args := #[] } :: a.defers } W)
    (hstop : ∀ (c : Code) (W : World), E c W → w.heap.size + 2 ≤ W.heap.size → W.heap[w.heap.size]? = some (.deferred (some [])) → c.wpIn Fence.wide 3 Try.prog QQ { a with defers := { target := .collected w.heap.size, args := #[] } :: a.defers } W) :
    (Code.rangeFunc gop ps assign body).wpIn Fence.wide 3 Try.prog QQ a w := by
  refine wp_things ask fn fs cp hso B t h n root v X hg hps hx hq J E S0 (fun d W a' Wb => a' = a₁ d ∧ Wb = W) hS hJ0 hJs hEs (fun d W K _ hK => hA d W K (hK _ _ (Below.refl _ _) ⟨rfl, rfl⟩)) ?_ hdone hstop
  rintro m d a' W Wb Wc hm hd hj ⟨rfl, rfl⟩ hs hb hO
  exact hB m d Wc hm hd hj (by have := hO.size; omega)
def thcells (d : Th) : Obj := .cells #[.int .i64 d.1.x, .int .i64 d.1.y, .int .i64 d.1.w, .int .i64 d.1.h] 28
/-- .. where the assignment lays the leaf's rectangle -/
theorem wp_things6 {gop : Operand} {ps : Array Tmp} {assign body : Code} {QQ : Exit → Act → World → Prop} {a : Act} {w : World} (ask : Bx → Bool) (fn : Fn) (fs cp : Array Value) (hso : ∀ h, SearchOK ask (.func fn fs cp) h) (B t h n root : Nat) (v : Value) (X : List Ex)
    (hg : a.eval gop = seqV B) (hps : ps.size = 2)
    (hx : FB B t (.func fn fs cp) w) (hq : TAt w t h n root v X)
    (J : Nat → World → Prop) (E : Code → World → Prop) (S0 : Nat → Prop) (a₂ : Th → Nat → Act)
    (hS : ∀ j, S0 j → j < w.heap.size ∧ j ≠ t ∧ ¬ foot root v X j ∧ j ≠ B ∧ j ≠ B + 1)
    (hJ0 : J 0 w)
    (hJs : ∀ m W W', J m W → Only (fun k => w.heap.size ≤ k) W W' → J m W')
    (hEs : ∀ c W W', E c W → Only (fun k => w.heap.size ≤ k) W W' → E c W')
    (hA : ∀ (d : Th) (W : World) (b : Nat) (K : Act → World → Prop), W.heap.size = b → K (a₂ d b) (W.alloc (thcells d)) →
      assign.wpIn (Fence.wide.inRound (w.heap.size + 1)) 1 Try.prog (Exit.then K (fun _ _ _ => False)) { tmps := (ps.zip (targs d)).foldl (fun t (p, v) => t.setIfInBounds p v) a.tmps, defers := [] } W)
    (hB : ∀ (m : Nat) (d : Th) (b : Nat) (Wc : World), m < (tl ask X).length → (tl ask X).getD m dth = d → J m Wc → w.heap.size + 2 ≤ b → Blk Wc b 28 #[.int .i64 d.1.x, .int .i64 d.1.y, .int .i64 d.1.w, .int .i64 d.1.h] →
      body.wpIn (Fence.wide.inRound (w.heap.size + 1)) 1 Try.prog (LPost J E S0 m Wc) (a₂ d b) Wc)
    (hdone : ∀ W, J (tl ask X).length W → w.heap.size + 2 ≤ W.heap.size → W.heap[w.heap.size]? = some (.deferred (some [])) → QQ .normal { a with defers := { target := .collected w.heap.size, args := #[] } :: a.defers } W)
    (hstop : ∀ (c : Code) (W : World), E c W → w.heap.size + 2 ≤ W.heap.size → W.heap[w.heap.size]? = some (.deferred (some [])) → c.wpIn Fence.wide 3 Try.prog QQ { a with defers := { target := .collected w.heap.size, args := #[] } :: a.defers } W) :
    (Code.rangeFunc gop ps assign body).wpIn Fence.wide 3 Try.prog QQ a w := by
  refine wp_things ask fn fs cp hso B t h n root v X hg hps hx hq J E S0 (fun d W a' Wb => a' = a₂ d W.heap.size ∧ Wb = W.alloc (thcells d)) hS hJ0 hJs hEs (fun d W K _ hK => hA d W _ K rfl (hK _ _ (made W _) ⟨rfl, rfl⟩)) ?_ hdone hstop
  rintro m d a' W Wb Wc hm hd hj ⟨rfl, rfl⟩ hs hb hO
  exact hB m d W.heap.size Wc hm hd hj (by omega) ((Blk.new W 28 _).only hO (by omega))
end Go.Proofs.Ytndhdpjgnepfnaa.tr
