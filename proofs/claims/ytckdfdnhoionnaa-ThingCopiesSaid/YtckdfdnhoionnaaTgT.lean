/-
  Contracts of package thing: Restore.
-/
import Derived.Test.YtckdfdnhoionnaaTgS
namespace Go.Proofs.Ytckdfdnhoionnaa.tg
open Go.RowKit
open base (ret_bool ret_int made up Blk Only)
open rk mk il nm
set_option linter.unusedVariables false
set_option linter.unusedSimpArgs false
variable {B g m K : Nat} {w w1 w2 w5 w' : World} {L : List Th} {nx : Int}

/-- one of a list is right: behind the one before it, below what comes next -/
def okR (p nx : Int) (d : Th) : Bool := !(decide (d.id < p)) && !(decide (nx ≤ d.id)) && okN d.nm && !(decide (d.ow < 1)) && rt (pc d)
def pk (L : List Th) : Nat → Int
  | 0 => 1
  | j + 1 => (L.getD j dflt).id + 1
def UpR (L : List Th) (nx : Int) (k : Nat) : Prop := ∀ j (h : j < L.length), j < k → okR (pk L j) nx L[j] = true
def Wh (L : List Th) (nx : Int) : Prop := 1 ≤ nx ∧ nx ≤ 1099511627776 ∧ UpR L nx L.length
theorem UpR.succ {k : Nat} (h : UpR L nx k) (hk : k < L.length) (hp : okR (pk L k) nx L[k] = true) : UpR L nx (k + 1) := fun j hj h2 => by
  by_cases e : j = k
  · subst e; exact hp
  · exact h j hj (by omega)
theorem UpR.not {k : Nat} (hk : k < L.length) (hp : okR (pk L k) nx L[k] = false) : ¬ Wh L nx := fun h => by
  have := h.2.2 k hk hk
  rw [hp] at this
  cases this
theorem pk_succ {k : Nat} (hk : k < L.length) : pk L (k + 1) = L[k].id + 1 := by
  show (L.getD k dflt).id + 1 = _
  rw [getD_of hk]
theorem Gd.push {p : Int} (G : Gd (L, p)) (x : Th) (h : p ≤ x.id) (hx : x.id + 1 ≤ 4398046511104) (hw : wp (pc x)) : Gd (L ++ [x], x.id + 1) := by
  have h1 := G.nx
  dsimp only at h1
  refine ⟨List.pairwise_append.2 ⟨G.ris, List.pairwise_singleton _ _, fun a ha b hb => ?_⟩, fun d hd => ?_, fun d hd => ?_, ⟨by dsimp only; omega, by dsimp only; omega⟩⟩
  · obtain rfl := List.mem_singleton.1 hb
    have := (G.id1 a ha).2
    dsimp only at this
    omega
  · rcases List.mem_append.1 hd with h | h
    · have := G.id1 d h
      dsimp only at this ⊢
      omega
    · obtain rfl := List.mem_singleton.1 h
      dsimp only
      omega
  · rcases List.mem_append.1 hd with h | h
    · exact G.pl d h
    · obtain rfl := List.mem_singleton.1 h
      exact hw
theorem Gd.next {p : Int} (G : Gd (L, p)) (h : p ≤ nx) (hx : nx ≤ 4398046511104) : Gd (L, nx) := by
  have h1 := G.nx
  dsimp only at h1
  refine ⟨G.ris, fun d hd => ?_, G.pl, ⟨by dsimp only; omega, hx⟩⟩
  have := G.id1 d hd
  dsimp only at this ⊢
  omega
abbrev xv (x : Th) : Array Value := #[.int .i64 x.id, .string x.nm, .int .i64 x.ow, .int .i64 x.kd, .int .i64 x.hs, .int .i64 x.sl]
theorem app_row {w0 : World} {b : Nat} (x : Th) (H : TAt w0 B g m L nx K) (h0 : Below w0.heap.size w0 w) (hb : w0.heap.size ≤ b) (bx : Blk w b 46 (xv x)) (hl : L.length ≤ 100000) (hB : B ≤ w.heap.size) :
    ∃ A c A5 c5 w5, w.cell? ⟨g, 0, none⟩ = some (.slice A L.length c) ∧ (w.alloc (.cells #[.int .i64 x.id, .string x.nm, .int .i64 x.ow, .int .i64 x.kd, .int .i64 x.hs, .int .i64 x.sl] 46)).cell? ⟨g, 0, none⟩ = some (.slice A L.length c) ∧
      (Builtin.append_ #[58, 58] 58 #[.slice A L.length c, .slice (some ⟨w.heap.size, 0, none⟩) 1 1]).run Try.prog (w.alloc (.cells #[.int .i64 x.id, .string x.nm, .int .i64 x.ow, .int .i64 x.kd, .int .i64 x.hs, .int .i64 x.sl] 46)) = .ok (.slice A5 (L ++ [x]).length c5) w5 ∧
      Blk (w.alloc (.cells #[.int .i64 x.id, .string x.nm, .int .i64 x.ow, .int .i64 x.kd, .int .i64 x.hs, .int .i64 x.sl] 46)) b 46 (xv x) ∧ Blk w5 b 46 (xv x) ∧ Blk w5 g 68 #[.slice A L.length c, .map (some m), .int .i64 nx] ∧ Blk (w5.setCell ⟨g, 0, none⟩ (.slice A5 (L ++ [x]).length c5)) b 46 (xv x) ∧
      Blk (w5.setCell ⟨g, 0, none⟩ (.slice A5 (L ++ [x]).length c5)) g 68 #[.slice A5 (L ++ [x]).length c5, .map (some m), .int .i64 nx] ∧ rk.Own E6 (w5.setCell ⟨g, 0, none⟩ (.slice A5 (L ++ [x]).length c5)) B 46 (.slice A5 (L ++ [x]).length c5) (L ++ [x]) ∧
      MAt (w5.setCell ⟨g, 0, none⟩ (.slice A5 (L ++ [x]).length c5)) B m L K ∧ Ch B PK w (w5.setCell ⟨g, 0, none⟩ (.slice A5 (L ++ [x]).length c5)) := by
  obtain ⟨A, c, h1, h2, _, hle, hmx⟩ := H.open_
  have hgB := H.ge
  obtain ⟨f, V, cc, hM, hcK⟩ := H.map
  have old := fun k (e : (Value.slice A L.length c).ownBlock = some k) => (h2.lt' k e).2.1
  have hg0 := h1.lt
  have hs0 := h0.size
  have g4 := h1.below h0 h1.lt
  have o4 := h2.below h0
  have m4 := hM.below h0
  have hl5 := made w (.cells #[.int .i64 x.id, .string x.nm, .int .i64 x.ow, .int .i64 x.kd, .int .i64 x.hs, .int .i64 x.sl] 46)
  have LY : Lay E6 (w.alloc (.cells #[.int .i64 x.id, .string x.nm, .int .i64 x.ow, .int .i64 x.kd, .int .i64 x.hs, .int .i64 x.sl] 46)) (some ⟨w.heap.size, 0, none⟩) [x] := Lay.lit (E := E6) _ x 46 w.heap.size (Blk.new _ _ _)
  obtain ⟨v5, w5, happ, own5, grew5⟩ := app_run TT (b := B) (c := 1) (o4.below hl5) LY (fun h => by cases h) (by simp; omega) (by rw [asz]; omega)
  have S5 : Only (fun k => (Value.slice A L.length c).ownBlock = some k) (w.alloc (.cells #[.int .i64 x.id, .string x.nm, .int .i64 x.ow, .int .i64 x.kd, .int .i64 x.hs, .int .i64 x.sl] 46)) w5 := Only.grown (Only.refl _ _) grew5.grown (fun i _ e => e)
  have ow := o4.below hl5
  have hne : ¬ (Value.slice A L.length c).ownBlock = some b := fun e => by
    have := old _ e
    omega
  have bxl := bx.below hl5 bx.lt
  have bx5 := bxl.only S5 hne
  have g5 := (g4.below hl5 g4.lt).only S5 (fun e => own_blk_ne ow (g4.below hl5 g4.lt) (by decide) _ e rfl)
  have m5 := (m4.below hl5).only S5 (fun k t cs e hb => by
    obtain ⟨_, _, cs', h1⟩ := ow.lt' k e
    unfold Blk at hb h1
    rw [hb] at h1
    injection h1 with q
    injection q with _ q
    rw [q]; decide) (fun k e => by
    obtain ⟨_, _, cs', h1⟩ := ow.lt' k e
    exact ⟨_, cs', h1⟩)
  have cc5 : Ch B PK w w5 := ((Ch.refl B PK w).step hl5).trans (Only.mono S5 (fun i _ e => by
    obtain ⟨h0, _, cs', h1⟩ := ow.lt' i e
    exact ⟨h0, _, h1, by rfl⟩))
  obtain ⟨A5, c5, hv5, -⟩ := own5.open_
  subst hv5
  have S6 : Only (fun k => k = g) w5 (w5.setCell ⟨g, 0, none⟩ (.slice A5 (L ++ [x]).length c5)) := (Only.refl (fun k => k = g) w5).setCell (p := ⟨g, 0, none⟩) (.inl rfl) _
  have o6 := own5.keep (w' := w5.setCell ⟨g, 0, none⟩ (.slice A5 (L ++ [x]).length c5)) (fun k hk => Below.heap_setCell _ ⟨g, 0, none⟩ _ k (own_blk_ne own5 g5 (by decide) k hk))
  have m6 := m5.only S6 (fun k t cs e hb => by
    cases e
    unfold Blk at hb g5
    rw [hb] at g5
    injection g5 with q
    injection q with _ q
    rw [q]; decide) (fun k e => ⟨68, _, by cases e; exact g5⟩)
  exact ⟨A, c, A5, c5, w5, g4.cell 0, (g4.below hl5 g4.lt).cell 0, happ, bxl, bx5, g5, bx5.only S6 (by show ¬ b = g; omega), g5.put 0 _, o6, ⟨f, V, cc, m6, hcK⟩, cc5.trans (Ch.cell g5 (by rfl) hgB 0 _)⟩
theorem entered {x : Th} {v : Value} {b : Nat} {M : List Th} {K' : Nat} (hg : Blk w g 68 #[v, .map (some m), .int .i64 nx]) (ho : rk.Own E6 w B 46 v M) (hm : MAt w B m L K) (hx : Blk w b 46 (xv x)) (hgB : B ≤ g) (h7 : MAt w' B m M K') (hc : MC B m w w') :
    TAt w' B g m M nx K' ∧ Ch B PK w w' ∧ Blk w' b 46 (xv x) := by
  obtain ⟨f, V, cc, hM, hcK⟩ := hm
  exact ⟨⟨⟨v, MC.blk (M := []) (V := V) hc hM.map hg (by decide), MC.own hc hM.map ho (by decide)⟩, h7, hgB⟩, hc.ch hM.map hM.ge, MC.blk (M := []) (V := V) hc hM.map hx (by decide)⟩
theorem TAt.next (H : TAt w B g m L nx K) (n2 : Int) : TAt (w.setCell ⟨g, 2, none⟩ (.int .i64 n2)) B g m L n2 K ∧ Ch B PK w (w.setCell ⟨g, 2, none⟩ (.int .i64 n2)) := by
  obtain ⟨⟨v, h1, h2⟩, h3, h4⟩ := H
  exact ⟨⟨⟨v, h1.put 2 _, h2.keep (fun k hk => Below.heap_setCell _ ⟨g, 2, none⟩ _ k (own_blk_ne h2 h1 (by decide) k hk))⟩, h3.only ((Only.refl (fun k => k = g) w).setCell (p := ⟨g, 2, none⟩) (.inl rfl) _) (fun k e => ⟨68, _, by cases e; exact h1, by decide⟩), h4⟩, Ch.cell h1 (by rfl) h4 2 _⟩
def ResP (L : List Th) (nx : Int) (w : World) (e : Ending) (w' : World) : Prop := (Wh L nx ∧ ∃ g m, e = .returned (.tuple #[.pointer (some ⟨g, 0, none⟩), .bool true]) ∧ TAt w' w.heap.size g m L nx L.length ∧ Gd (L, nx) ∧ Below w.heap.size w w') ∨ (¬ Wh L nx ∧ e = .returned (.tuple #[.pointer none, .bool false]) ∧ Below w.heap.size w w')
theorem okR_false {p nx : Int} {d : Th} (h : d.id < p ∨ nx ≤ d.id ∨ okN d.nm = false ∨ d.ow < 1 ∨ rt (pc d) = false) : okR p nx d = false := by
  unfold okR
  rcases h with h | h | h | h | h <;> simp [h]
theorem okR_true {p nx : Int} {d : Th} (h1 : ¬ d.id < p) (h2 : ¬ nx ≤ d.id) (h3 : okN d.nm = true) (h4 : ¬ d.ow < 1) (h5 : rt (pc d) = true) : okR p nx d = true := by
  unfold okR
  simp [h1, h2, h3, h4, h5]
set_option maxRecDepth 100000 in
set_option maxHeartbeats 2000000 in
theorem restore_any (A : Option Addr) (c : Nat) (L : List Th) (nx : Int) (w : World) (hA : Lay E6 w A L) (hD : ∀ x, x ∈ L → ((Lit.int .i64 x.id).wf = true ∧ x.nm.size ≤ maxLen ∧ (Lit.int .i64 x.ow).wf = true ∧ wp (pc x))) (hl : L.length ≤ 4096) :
    Calls Try.prog 24 #[.slice A L.length c, .int .i64 nx] w (ResP L nx w) := by
  have HA := Lib.hid hA
  have HD := Lib.hid hD
  have NW := Lib.hid (new_any w)
  clear hA hD
  have hl1 : decide ((L.length : Int) > 4096) = false := decide_eq_false (by omega)
  have hl2 : decide ((4096 : Int) < (L.length : Int)) = false := decide_eq_false (by omega)
  by_cases q1 : nx < 1
  · have NO := Lib.hid (show ¬ Wh L nx from fun h => by have := h.1; omega)
    have q2 : decide (nx < 1) = true := decide_eq_true q1
    go_enter Try.func24, Try.ntmps24
    go_wp2_with fail
    go_ret2
    exact .inr ⟨NO.out, rfl, Below.refl _ _⟩
  by_cases q3 : nx > 1099511627776
  · have NO := Lib.hid (show ¬ Wh L nx from fun h => by have := h.2.1; omega)
    have q2 : decide (nx < 1) = false := decide_eq_false q1
    have q4 : decide (nx > 1099511627776) = true := decide_eq_true q3
    go_enter Try.func24, Try.ntmps24
    go_wp2_with fail
    go_ret2
    exact .inr ⟨NO.out, rfl, Below.refl _ _⟩
  have WN := Lib.hid (show UpR L nx L.length → Wh L nx from fun h => ⟨by omega, by omega, h⟩)
  have Q1 := Lib.hid q1
  have Q3 := Lib.hid q3
  have q2 : decide (nx < 1) = false := decide_eq_false q1
  have q4 : decide (nx > 1099511627776) = false := decide_eq_false q3
  clear q1 q3
  go_enter Try.func24, Try.ntmps24
  go_wp2_with fail
  refine NW.out.mono ?_
  rintro e w3 ⟨rfl, ht3, hb3⟩
  have T3 := Lib.hid ht3
  have B3 := Lib.hid hb3
  clear ht3 hb3 NW q2 q4 hl1 hl2
  go_wp2_with fail
  go_loopw [23] (fun i wr => ∃ (k : Nat) (W : World) (p : Int), W = wr ∧ k ≤ L.length ∧ i = .int .i64 k ∧ p = pk L k ∧ TAt wr w.heap.size (w.heap.size + 1) w.heap.size (L.take k) p k ∧ Gd (L.take k, p) ∧ UpR L nx k ∧ p ≤ nx ∧ Below w.heap.size w wr) (fun i _ => L.length - (intOf i).toNat)
  case atStart => exact ⟨0, _, 1, rfl, by omega, rfl, rfl, T3.out, Gd.nil, (fun j _ h => by omega), by have := Q1.out; omega, B3.out⟩
  case round =>
  obtain ⟨k, w5, p, rfl, hk, rfl, hp, ht5, hg5, hu5, hpn, hb5⟩ := hrel
  have T5 := Lib.hid ht5
  have G5 := Lib.hid hg5
  have U5 := Lib.hid hu5
  have B5 := Lib.hid hb5
  have PN := Lib.hid hpn
  by_cases hkl : k < L.length
  · obtain ⟨bb, off, rfl, e0, e1, e2, e3, e4, e5⟩ := lay6 (HA.out.below hb5) hkl
    obtain ⟨hD1, hD2, hD3, hD4⟩ := HD.out _ (List.getElem_mem hkl)
    have UF := Lib.hid (fun (h : okR p nx L[k] = false) => (UpR.not hkl (by rw [← hp]; exact h) : ¬ Wh L nx))
    have US := Lib.hid (fun (h : okR p nx L[k] = true) => hu5.succ hkl (by rw [← hp]; exact h))
    have PS := Lib.hid (pk_succ hkl)
    have TK := Lib.hid (List.take_succ_eq_append_getElem hkl)
    have TL := Lib.hid (show (L.take k).length ≤ 4096 by rw [List.length_take]; omega)
    have hm6 := made w5 (.cells #[.int .i64 L[k].id, .string L[k].nm, .int .i64 L[k].ow, .int .i64 L[k].kd, .int .i64 L[k].hs, .int .i64 L[k].sl] 46)
    have B6 := Lib.hid hm6
    have BX := Lib.hid (Blk.new w5 46 #[.int .i64 L[k].id, .string L[k].nm, .int .i64 L[k].ow, .int .i64 L[k].kd, .int .i64 L[k].hs, .int .i64 L[k].sl])
    generalize L.take k = M at *
    obtain ⟨Ag, cg, hbg, -⟩ := ht5.open_
    have BG := Lib.hid (hbg.below hm6 hbg.lt)
    have WD := Lib.hid hD4
    clear ht5 hg5 hu5 hb5 hp hpn hm6 hbg hD1 hD3 hD4
    generalize L[k] = d at *
    have NM := Lib.hid (fun ws => name_any d.nm ws (by unfold maxLen at hD2; omega))
    have RT := Lib.hid (fun ws => right_any (pc d) ws)
    have OF := Lib.hid (okR_false (p := p) (nx := nx) (d := d))
    have OT := Lib.hid (okR_true (p := p) (nx := nx) (d := d))
    clear hD2
    generalize okR p nx d = z at *
    obtain ⟨x, hx⟩ : ∃ x, x = d := ⟨_, rfl⟩
    obtain ⟨d0, d1, d2, d3, d4, d5⟩ := d
    have X := Lib.hid hx
    clear hx
    generalize okN d1 = bn at *
    dsimp only [pc, pv] at e0 e1 e2 e3 e4 e5 B6 BX BG RT OF OT PS TK NM WD
    generalize rt ⟨d3, d4, d5⟩ = br at *
    generalize hw6 : w5.alloc (.cells #[.int .i64 d0, .string d1, .int .i64 d2, .int .i64 d3, .int .i64 d4, .int .i64 d5] 46) = w6 at *
    have KS := Lib.hid (fun ws (h : Below w6.heap.size w6 ws) => (show ws.cell? ⟨w5.heap.size, 0, none⟩ = some (.int .i64 d0) ∧ ws.cell? ⟨w5.heap.size, 1, none⟩ = some (.string d1) ∧ ws.cell? ⟨w5.heap.size, 2, none⟩ = some (.int .i64 d2) ∧ ws.cell? ⟨w5.heap.size, 3, none⟩ = some (.int .i64 d3) ∧ ws.cell? ⟨w5.heap.size, 4, none⟩ = some (.int .i64 d4) ∧ ws.cell? ⟨w5.heap.size, 5, none⟩ = some (.int .i64 d5) ∧ ws.cell? ⟨w.heap.size + 1, 2, none⟩ = some (.int .i64 p) from ⟨(BX.out.below h BX.out.lt).cell 0, (BX.out.below h BX.out.lt).cell 1, (BX.out.below h BX.out.lt).cell 2, (BX.out.below h BX.out.lt).cell 3, (BX.out.below h BX.out.lt).cell 4, (BX.out.below h BX.out.lt).cell 5, (BG.out.below h BG.out.lt).cell 2⟩))
    have DR := Lib.hid (Below.refl w6.heap.size w6).drew
    have NOT_ := Lib.hid (fun (h : z = false) => UF.out h)
    go_wp2_with (rw [hw6])
    clear hw6 e0 e1 e2 e3 e4 e5
    refine wp_region_held_drew (S := fun ws => ws.cell? ⟨w5.heap.size, 0, none⟩ = some (.int .i64 d0) ∧ ws.cell? ⟨w5.heap.size, 1, none⟩ = some (.string d1) ∧ ws.cell? ⟨w5.heap.size, 2, none⟩ = some (.int .i64 d2) ∧ ws.cell? ⟨w5.heap.size, 3, none⟩ = some (.int .i64 d3) ∧ ws.cell? ⟨w5.heap.size, 4, none⟩ = some (.int .i64 d4) ∧ ws.cell? ⟨w5.heap.size, 5, none⟩ = some (.int .i64 d5) ∧ ws.cell? ⟨w.heap.size + 1, 2, none⟩ = some (.int .i64 p)) (by kernel_rfl) (KS.out _ DR.out) (fun hHX => ?_)
    by_cases c1 : d0 < p
    · obtain rfl := OF.out (.inl c1)
      have k1 : decide (d0 < p) = true := decide_eq_true c1
      clear c1
      refine wpAnyH_take (i := 0) (v := ?_) rfl (by kernel_rfl) (by kernel_rfl) (by kernel_rfl) (fun _ _ _ h => h) (Or.inl ⟨by rfl, ?_⟩) (by assumption) ?_
      rotate_left
      · (intro w hSw; (try dsimp only at hSw); first | (go_simp; done) | (go_simp; with_reducible rfl))
      simp only [Act.put, List.getElem_toArray, List.getElem_cons_zero, List.getElem_cons_succ, List.setIfInBounds_toArray, List.set_cons_zero, List.set_cons_succ]
      refine wpAnyH_take (i := 1) (v := ?_) rfl (by kernel_rfl) (by kernel_rfl) (by kernel_rfl) (fun _ _ _ h => h) (Or.inl ⟨by rfl, ?_⟩) (by assumption) ?_
      rotate_left
      · (intro w hSw; (try dsimp only at hSw); first | (go_simp; done) | (go_simp; with_reducible rfl))
      simp only [Act.put, List.getElem_toArray, List.getElem_cons_zero, List.getElem_cons_succ, List.setIfInBounds_toArray, List.set_cons_zero, List.set_cons_succ]
      refine wpAnyH_take (i := 2) (v := ?_) rfl (by kernel_rfl) (by kernel_rfl) (by kernel_rfl) (fun _ _ _ h => h) (Or.inl ⟨by rfl, ?_⟩) (by assumption) ?_
      rotate_left
      · (intro w hSw; (try dsimp only at hSw); first | (go_simp; done) | (go_simp; with_reducible rfl))
      simp only [Act.put, List.getElem_toArray, List.getElem_cons_zero, List.getElem_cons_succ, List.setIfInBounds_toArray, List.set_cons_zero, List.set_cons_succ]
      refine wpAnyH_take (i := 3) (v := ?_) rfl (by kernel_rfl) (by kernel_rfl) (by kernel_rfl) (fun _ _ _ h => h) (Or.inl ⟨by rfl, ?_⟩) (by assumption) ?_
      rotate_left
      · (intro w hSw; (try dsimp only at hSw); first | (go_simp; done) | (go_simp; with_reducible rfl))
      simp only [Act.put, List.getElem_toArray, List.getElem_cons_zero, List.getElem_cons_succ, List.setIfInBounds_toArray, List.set_cons_zero, List.set_cons_succ]
      refine wpAnyH_take (i := 4) (v := ?_) rfl (by kernel_rfl) (by kernel_rfl) (by kernel_rfl) (fun _ _ _ h => h) (Or.inl ⟨by rfl, ?_⟩) (by assumption) ?_
      rotate_left
      · (intro w hSw; (try dsimp only at hSw); first | (go_simp; done) | (go_simp; with_reducible rfl))
      simp only [Act.put, List.getElem_toArray, List.getElem_cons_zero, List.getElem_cons_succ, List.setIfInBounds_toArray, List.set_cons_zero, List.set_cons_succ]
      refine wpAnyH_take (i := 5) (v := ?_) rfl (by kernel_rfl) (by kernel_rfl) (by kernel_rfl) (fun _ _ _ h => h) (Or.inl ⟨by rfl, ?_⟩) (by assumption) ?_
      rotate_left
      · (intro w hSw; (try dsimp only at hSw); first | (go_simp; done) | (go_simp; with_reducible rfl))
      simp only [Act.put, List.getElem_toArray, List.getElem_cons_zero, List.getElem_cons_succ, List.setIfInBounds_toArray, List.set_cons_zero, List.set_cons_succ]
      refine wpAnyH_take (i := 6) (v := ?_) rfl (by kernel_rfl) (by kernel_rfl) (by kernel_rfl) (fun _ _ _ h => h) (Or.inl ⟨by rfl, ?_⟩) (by assumption) ?_
      rotate_left
      · (intro w hSw; (try dsimp only at hSw); first | (go_simp; done) | (go_simp; with_reducible rfl))
      simp only [Act.put, List.getElem_toArray, List.getElem_cons_zero, List.getElem_cons_succ, List.setIfInBounds_toArray, List.set_cons_zero, List.set_cons_succ]
      refine wpAnyH_take (i := 7) (v := ?_) rfl (by kernel_rfl) (by kernel_rfl) (by kernel_rfl) (fun _ _ _ h => h) (Or.inl ⟨by rfl, ?_⟩) (by assumption) ?_
      rotate_left
      · (intro w hSw; (try dsimp only at hSw); first | (go_simp; done) | (go_simp; with_reducible rfl))
      simp only [Act.put, List.getElem_toArray, List.getElem_cons_zero, List.getElem_cons_succ, List.setIfInBounds_toArray, List.set_cons_zero, List.set_cons_succ]
      refine wpAnyH_take (i := 8) (v := undef) rfl (by kernel_rfl) (by kernel_rfl) (by kernel_rfl) (fun _ _ _ h => h) (Or.inr ⟨by rfl, rfl⟩) (by assumption) ?_
      simp only [Act.put, List.getElem_toArray, List.getElem_cons_zero, List.getElem_cons_succ, List.setIfInBounds_toArray, List.set_cons_zero, List.set_cons_succ]
      refine wpAnyH_take (i := 9) (v := undef) rfl (by kernel_rfl) (by kernel_rfl) (by kernel_rfl) (fun _ _ _ h => h) (Or.inr ⟨by rfl, rfl⟩) (by assumption) ?_
      simp only [Act.put, List.getElem_toArray, List.getElem_cons_zero, List.getElem_cons_succ, List.setIfInBounds_toArray, List.set_cons_zero, List.set_cons_succ]
      refine wpAnyH_take (i := 10) (v := undef) rfl (by kernel_rfl) (by kernel_rfl) (by kernel_rfl) (fun _ _ _ h => h) (Or.inr ⟨by rfl, rfl⟩) (by assumption) ?_
      simp only [Act.put, List.getElem_toArray, List.getElem_cons_zero, List.getElem_cons_succ, List.setIfInBounds_toArray, List.set_cons_zero, List.set_cons_succ]
      refine wpAnyH_take (i := 11) (v := undef) rfl (by kernel_rfl) (by kernel_rfl) (by kernel_rfl) (fun _ _ _ h => h) (Or.inr ⟨by rfl, rfl⟩) (by assumption) ?_
      simp only [Act.put, List.getElem_toArray, List.getElem_cons_zero, List.getElem_cons_succ, List.setIfInBounds_toArray, List.set_cons_zero, List.set_cons_succ]
      refine wpAnyH_take (i := 12) (v := ?_) rfl (by kernel_rfl) (by kernel_rfl) (by kernel_rfl) (fun _ _ _ h => h) (Or.inl ⟨by rfl, ?_⟩) (by assumption) ?_
      rotate_left
      · (intro w hSw; (try dsimp only at hSw); first | (go_simp; done) | (go_simp; with_reducible rfl))
      simp only [Act.put, List.getElem_toArray, List.getElem_cons_zero, List.getElem_cons_succ, List.setIfInBounds_toArray, List.set_cons_zero, List.set_cons_succ]
      refine wpAnyH_take (i := 13) (v := ?_) rfl (by kernel_rfl) (by kernel_rfl) (by kernel_rfl) (fun _ _ _ h => h) (Or.inl ⟨by rfl, ?_⟩) (by assumption) ?_
      rotate_left
      · (intro w hSw; (try dsimp only at hSw); first | (go_simp; done) | (go_simp; with_reducible rfl))
      simp only [Act.put, List.getElem_toArray, List.getElem_cons_zero, List.getElem_cons_succ, List.setIfInBounds_toArray, List.set_cons_zero, List.set_cons_succ]
      refine wpAnyH_take (i := 14) (v := undef) rfl (by kernel_rfl) (by kernel_rfl) (by kernel_rfl) (fun _ _ _ h => h) (Or.inr ⟨by rfl, rfl⟩) (by assumption) ?_
      simp only [Act.put, List.getElem_toArray, List.getElem_cons_zero, List.getElem_cons_succ, List.setIfInBounds_toArray, List.set_cons_zero, List.set_cons_succ]
      refine wpAnyH_take (i := 15) (v := undef) rfl (by kernel_rfl) (by kernel_rfl) (by kernel_rfl) (fun _ _ _ h => h) (Or.inr ⟨by rfl, rfl⟩) (by assumption) ?_
      simp only [Act.put, List.getElem_toArray, List.getElem_cons_zero, List.getElem_cons_succ, List.setIfInBounds_toArray, List.set_cons_zero, List.set_cons_succ]
      refine wpAnyH_take (i := 16) (v := undef) rfl (by kernel_rfl) (by kernel_rfl) (by kernel_rfl) (fun _ _ _ h => h) (Or.inr ⟨by rfl, rfl⟩) (by assumption) ?_
      simp only [Act.put, List.getElem_toArray, List.getElem_cons_zero, List.getElem_cons_succ, List.setIfInBounds_toArray, List.set_cons_zero, List.set_cons_succ]
      refine wpAnyH_take (i := 17) (v := undef) rfl (by kernel_rfl) (by kernel_rfl) (by kernel_rfl) (fun _ _ _ h => h) (Or.inr ⟨by rfl, rfl⟩) (by assumption) ?_
      simp only [Act.put, List.getElem_toArray, List.getElem_cons_zero, List.getElem_cons_succ, List.setIfInBounds_toArray, List.set_cons_zero, List.set_cons_succ]
      refine wpAnyH_take (i := 18) (v := ?_) rfl (by kernel_rfl) (by kernel_rfl) (by kernel_rfl) (fun _ _ _ h => h) (Or.inl ⟨by rfl, ?_⟩) (by assumption) ?_
      rotate_left
      · (intro w hSw; (try dsimp only at hSw); first | (go_simp; done) | (go_simp; with_reducible rfl))
      simp only [Act.put, List.getElem_toArray, List.getElem_cons_zero, List.getElem_cons_succ, List.setIfInBounds_toArray, List.set_cons_zero, List.set_cons_succ]
      refine wpAnyH_take (i := 19) (v := ?_) rfl (by kernel_rfl) (by kernel_rfl) (by kernel_rfl) (fun _ _ _ h => h) (Or.inl ⟨by rfl, ?_⟩) (by assumption) ?_
      rotate_left
      · (intro w hSw; (try dsimp only at hSw); first | (go_simp; done) | (go_simp; with_reducible rfl))
      simp only [Act.put, List.getElem_toArray, List.getElem_cons_zero, List.getElem_cons_succ, List.setIfInBounds_toArray, List.set_cons_zero, List.set_cons_succ]
      refine wpAnyH_take (i := 20) (v := undef) rfl (by kernel_rfl) (by kernel_rfl) (by kernel_rfl) (fun _ _ _ h => h) (Or.inr ⟨by rfl, rfl⟩) (by assumption) ?_
      simp only [Act.put, List.getElem_toArray, List.getElem_cons_zero, List.getElem_cons_succ, List.setIfInBounds_toArray, List.set_cons_zero, List.set_cons_succ]
      refine wpAnyH_take (i := 21) (v := undef) rfl (by kernel_rfl) (by kernel_rfl) (by kernel_rfl) (fun _ _ _ h => h) (Or.inr ⟨by rfl, rfl⟩) (by assumption) ?_
      simp only [Act.put, List.getElem_toArray, List.getElem_cons_zero, List.getElem_cons_succ, List.setIfInBounds_toArray, List.set_cons_zero, List.set_cons_succ]
      refine wpAnyH_take (i := 22) (v := undef) rfl (by kernel_rfl) (by kernel_rfl) (by kernel_rfl) (fun _ _ _ h => h) (Or.inr ⟨by rfl, rfl⟩) (by assumption) ?_
      simp only [Act.put, List.getElem_toArray, List.getElem_cons_zero, List.getElem_cons_succ, List.setIfInBounds_toArray, List.set_cons_zero, List.set_cons_succ]
      refine wpAnyH_take (i := 23) (v := ?_) rfl (by kernel_rfl) (by kernel_rfl) (by kernel_rfl) (fun _ _ _ h => h) (Or.inl ⟨by rfl, ?_⟩) (by assumption) ?_
      rotate_left
      · (intro w hSw; (try dsimp only at hSw); first | (go_simp; done) | (go_simp; with_reducible rfl))
      simp only [Act.put, List.getElem_toArray, List.getElem_cons_zero, List.getElem_cons_succ, List.setIfInBounds_toArray, List.set_cons_zero, List.set_cons_succ]
      refine wpAnyH_take (i := 24) (v := ?_) rfl (by kernel_rfl) (by kernel_rfl) (by kernel_rfl) (fun _ _ _ h => h) (Or.inl ⟨by rfl, ?_⟩) (by assumption) ?_
      rotate_left
      · (intro w hSw; (try dsimp only at hSw); first | (go_simp; done) | (go_simp; with_reducible rfl))
      simp only [Act.put, List.getElem_toArray, List.getElem_cons_zero, List.getElem_cons_succ, List.setIfInBounds_toArray, List.set_cons_zero, List.set_cons_succ]
      refine wpAnyH_take (i := 25) (v := undef) rfl (by kernel_rfl) (by kernel_rfl) (by kernel_rfl) (fun _ _ _ h => h) (Or.inr ⟨by rfl, rfl⟩) (by assumption) ?_
      simp only [Act.put, List.getElem_toArray, List.getElem_cons_zero, List.getElem_cons_succ, List.setIfInBounds_toArray, List.set_cons_zero, List.set_cons_succ]
      refine wpAnyH_take (i := 26) (v := undef) rfl (by kernel_rfl) (by kernel_rfl) (by kernel_rfl) (fun _ _ _ h => h) (Or.inr ⟨by rfl, rfl⟩) (by assumption) ?_
      simp only [Act.put, List.getElem_toArray, List.getElem_cons_zero, List.getElem_cons_succ, List.setIfInBounds_toArray, List.set_cons_zero, List.set_cons_succ]
      refine wpAnyH_take (i := 27) (v := undef) rfl (by kernel_rfl) (by kernel_rfl) (by kernel_rfl) (fun _ _ _ h => h) (Or.inr ⟨by rfl, rfl⟩) (by assumption) ?_
      simp only [Act.put, List.getElem_toArray, List.getElem_cons_zero, List.getElem_cons_succ, List.setIfInBounds_toArray, List.set_cons_zero, List.set_cons_succ]
      refine wpAnyH_take (i := 28) (v := undef) rfl (by kernel_rfl) (by kernel_rfl) (by kernel_rfl) (fun _ _ _ h => h) (Or.inr ⟨by rfl, rfl⟩) (by assumption) ?_
      simp only [Act.put, List.getElem_toArray, List.getElem_cons_zero, List.getElem_cons_succ, List.setIfInBounds_toArray, List.set_cons_zero, List.set_cons_succ]
      refine wpAnyH_take (i := 29) (v := ?_) rfl (by kernel_rfl) (by kernel_rfl) (by kernel_rfl) (fun _ _ _ h => h) (Or.inl ⟨by rfl, ?_⟩) (by assumption) ?_
      rotate_left
      · (intro w hSw; (try dsimp only at hSw); first | (go_simp; done) | (go_simp; with_reducible rfl))
      simp only [Act.put, List.getElem_toArray, List.getElem_cons_zero, List.getElem_cons_succ, List.setIfInBounds_toArray, List.set_cons_zero, List.set_cons_succ]
      refine wpAnyH_done (by kernel_rfl) ?_ _
      clear hHX
      have BF := Lib.hid (up B5.out (up B6.out DR.out B6.out.size) B5.out.size)
      go_wp2_with fail
      go_ret2
      exact .inr ⟨NOT_.out (by first | rfl | trivial), rfl, BF.out⟩
    have k1 : decide (d0 < p) = false := decide_eq_false c1
    by_cases c2 : nx ≤ d0
    · obtain rfl := OF.out (.inr (.inl c2))
      have k2 : decide (d0 ≥ nx) = true := decide_eq_true c2
      clear c2 c1
      refine wpAnyH_take (i := 0) (v := ?_) rfl (by kernel_rfl) (by kernel_rfl) (by kernel_rfl) (fun _ _ _ h => h) (Or.inl ⟨by rfl, ?_⟩) (by assumption) ?_
      rotate_left
      · (intro w hSw; (try dsimp only at hSw); first | (go_simp; done) | (go_simp; with_reducible rfl))
      simp only [Act.put, List.getElem_toArray, List.getElem_cons_zero, List.getElem_cons_succ, List.setIfInBounds_toArray, List.set_cons_zero, List.set_cons_succ]
      refine wpAnyH_take (i := 1) (v := ?_) rfl (by kernel_rfl) (by kernel_rfl) (by kernel_rfl) (fun _ _ _ h => h) (Or.inl ⟨by rfl, ?_⟩) (by assumption) ?_
      rotate_left
      · (intro w hSw; (try dsimp only at hSw); first | (go_simp; done) | (go_simp; with_reducible rfl))
      simp only [Act.put, List.getElem_toArray, List.getElem_cons_zero, List.getElem_cons_succ, List.setIfInBounds_toArray, List.set_cons_zero, List.set_cons_succ]
      refine wpAnyH_take (i := 2) (v := ?_) rfl (by kernel_rfl) (by kernel_rfl) (by kernel_rfl) (fun _ _ _ h => h) (Or.inl ⟨by rfl, ?_⟩) (by assumption) ?_
      rotate_left
      · (intro w hSw; (try dsimp only at hSw); first | (go_simp; done) | (go_simp; with_reducible rfl))
      simp only [Act.put, List.getElem_toArray, List.getElem_cons_zero, List.getElem_cons_succ, List.setIfInBounds_toArray, List.set_cons_zero, List.set_cons_succ]
      refine wpAnyH_take (i := 3) (v := ?_) rfl (by kernel_rfl) (by kernel_rfl) (by kernel_rfl) (fun _ _ _ h => h) (Or.inl ⟨by rfl, ?_⟩) (by assumption) ?_
      rotate_left
      · (intro w hSw; (try dsimp only at hSw); first | (go_simp; done) | (go_simp; with_reducible rfl))
      simp only [Act.put, List.getElem_toArray, List.getElem_cons_zero, List.getElem_cons_succ, List.setIfInBounds_toArray, List.set_cons_zero, List.set_cons_succ]
      refine wpAnyH_take (i := 4) (v := ?_) rfl (by kernel_rfl) (by kernel_rfl) (by kernel_rfl) (fun _ _ _ h => h) (Or.inl ⟨by rfl, ?_⟩) (by assumption) ?_
      rotate_left
      · (intro w hSw; (try dsimp only at hSw); first | (go_simp; done) | (go_simp; with_reducible rfl))
      simp only [Act.put, List.getElem_toArray, List.getElem_cons_zero, List.getElem_cons_succ, List.setIfInBounds_toArray, List.set_cons_zero, List.set_cons_succ]
      refine wpAnyH_take (i := 5) (v := ?_) rfl (by kernel_rfl) (by kernel_rfl) (by kernel_rfl) (fun _ _ _ h => h) (Or.inl ⟨by rfl, ?_⟩) (by assumption) ?_
      rotate_left
      · (intro w hSw; (try dsimp only at hSw); first | (go_simp; done) | (go_simp; with_reducible rfl))
      simp only [Act.put, List.getElem_toArray, List.getElem_cons_zero, List.getElem_cons_succ, List.setIfInBounds_toArray, List.set_cons_zero, List.set_cons_succ]
      refine wpAnyH_take (i := 6) (v := ?_) rfl (by kernel_rfl) (by kernel_rfl) (by kernel_rfl) (fun _ _ _ h => h) (Or.inl ⟨by rfl, ?_⟩) (by assumption) ?_
      rotate_left
      · (intro w hSw; (try dsimp only at hSw); first | (go_simp; done) | (go_simp; with_reducible rfl))
      simp only [Act.put, List.getElem_toArray, List.getElem_cons_zero, List.getElem_cons_succ, List.setIfInBounds_toArray, List.set_cons_zero, List.set_cons_succ]
      refine wpAnyH_take (i := 7) (v := ?_) rfl (by kernel_rfl) (by kernel_rfl) (by kernel_rfl) (fun _ _ _ h => h) (Or.inl ⟨by rfl, ?_⟩) (by assumption) ?_
      rotate_left
      · (intro w hSw; (try dsimp only at hSw); first | (go_simp; done) | (go_simp; with_reducible rfl))
      simp only [Act.put, List.getElem_toArray, List.getElem_cons_zero, List.getElem_cons_succ, List.setIfInBounds_toArray, List.set_cons_zero, List.set_cons_succ]
      refine wpAnyH_take (i := 8) (v := ?_) rfl (by kernel_rfl) (by kernel_rfl) (by kernel_rfl) (fun _ _ _ h => h) (Or.inl ⟨by rfl, ?_⟩) (by assumption) ?_
      rotate_left
      · (intro w hSw; (try dsimp only at hSw); first | (go_simp; done) | (go_simp; with_reducible rfl))
      simp only [Act.put, List.getElem_toArray, List.getElem_cons_zero, List.getElem_cons_succ, List.setIfInBounds_toArray, List.set_cons_zero, List.set_cons_succ]
      refine wpAnyH_take (i := 9) (v := ?_) rfl (by kernel_rfl) (by kernel_rfl) (by kernel_rfl) (fun _ _ _ h => h) (Or.inl ⟨by rfl, ?_⟩) (by assumption) ?_
      rotate_left
      · (intro w hSw; (try dsimp only at hSw); first | (go_simp; done) | (go_simp; with_reducible rfl))
      simp only [Act.put, List.getElem_toArray, List.getElem_cons_zero, List.getElem_cons_succ, List.setIfInBounds_toArray, List.set_cons_zero, List.set_cons_succ]
      refine wpAnyH_take (i := 10) (v := ?_) rfl (by kernel_rfl) (by kernel_rfl) (by kernel_rfl) (fun _ _ _ h => h) (Or.inl ⟨by rfl, ?_⟩) (by assumption) ?_
      rotate_left
      · (intro w hSw; (try dsimp only at hSw); first | (go_simp; done) | (go_simp; with_reducible rfl))
      simp only [Act.put, List.getElem_toArray, List.getElem_cons_zero, List.getElem_cons_succ, List.setIfInBounds_toArray, List.set_cons_zero, List.set_cons_succ]
      refine wpAnyH_take (i := 11) (v := ?_) rfl (by kernel_rfl) (by kernel_rfl) (by kernel_rfl) (fun _ _ _ h => h) (Or.inl ⟨by rfl, ?_⟩) (by assumption) ?_
      rotate_left
      · (intro w hSw; (try dsimp only at hSw); first | (go_simp; done) | (go_simp; with_reducible rfl))
      simp only [Act.put, List.getElem_toArray, List.getElem_cons_zero, List.getElem_cons_succ, List.setIfInBounds_toArray, List.set_cons_zero, List.set_cons_succ]
      refine wpAnyH_take (i := 12) (v := ?_) rfl (by kernel_rfl) (by kernel_rfl) (by kernel_rfl) (fun _ _ _ h => h) (Or.inl ⟨by rfl, ?_⟩) (by assumption) ?_
      rotate_left
      · (intro w hSw; (try dsimp only at hSw); first | (go_simp; done) | (go_simp; with_reducible rfl))
      simp only [Act.put, List.getElem_toArray, List.getElem_cons_zero, List.getElem_cons_succ, List.setIfInBounds_toArray, List.set_cons_zero, List.set_cons_succ]
      refine wpAnyH_take (i := 13) (v := ?_) rfl (by kernel_rfl) (by kernel_rfl) (by kernel_rfl) (fun _ _ _ h => h) (Or.inl ⟨by rfl, ?_⟩) (by assumption) ?_
      rotate_left
      · (intro w hSw; (try dsimp only at hSw); first | (go_simp; done) | (go_simp; with_reducible rfl))
      simp only [Act.put, List.getElem_toArray, List.getElem_cons_zero, List.getElem_cons_succ, List.setIfInBounds_toArray, List.set_cons_zero, List.set_cons_succ]
      refine wpAnyH_take (i := 14) (v := undef) rfl (by kernel_rfl) (by kernel_rfl) (by kernel_rfl) (fun _ _ _ h => h) (Or.inr ⟨by rfl, rfl⟩) (by assumption) ?_
      simp only [Act.put, List.getElem_toArray, List.getElem_cons_zero, List.getElem_cons_succ, List.setIfInBounds_toArray, List.set_cons_zero, List.set_cons_succ]
      refine wpAnyH_take (i := 15) (v := undef) rfl (by kernel_rfl) (by kernel_rfl) (by kernel_rfl) (fun _ _ _ h => h) (Or.inr ⟨by rfl, rfl⟩) (by assumption) ?_
      simp only [Act.put, List.getElem_toArray, List.getElem_cons_zero, List.getElem_cons_succ, List.setIfInBounds_toArray, List.set_cons_zero, List.set_cons_succ]
      refine wpAnyH_take (i := 16) (v := undef) rfl (by kernel_rfl) (by kernel_rfl) (by kernel_rfl) (fun _ _ _ h => h) (Or.inr ⟨by rfl, rfl⟩) (by assumption) ?_
      simp only [Act.put, List.getElem_toArray, List.getElem_cons_zero, List.getElem_cons_succ, List.setIfInBounds_toArray, List.set_cons_zero, List.set_cons_succ]
      refine wpAnyH_take (i := 17) (v := undef) rfl (by kernel_rfl) (by kernel_rfl) (by kernel_rfl) (fun _ _ _ h => h) (Or.inr ⟨by rfl, rfl⟩) (by assumption) ?_
      simp only [Act.put, List.getElem_toArray, List.getElem_cons_zero, List.getElem_cons_succ, List.setIfInBounds_toArray, List.set_cons_zero, List.set_cons_succ]
      refine wpAnyH_take (i := 18) (v := ?_) rfl (by kernel_rfl) (by kernel_rfl) (by kernel_rfl) (fun _ _ _ h => h) (Or.inl ⟨by rfl, ?_⟩) (by assumption) ?_
      rotate_left
      · (intro w hSw; (try dsimp only at hSw); first | (go_simp; done) | (go_simp; with_reducible rfl))
      simp only [Act.put, List.getElem_toArray, List.getElem_cons_zero, List.getElem_cons_succ, List.setIfInBounds_toArray, List.set_cons_zero, List.set_cons_succ]
      refine wpAnyH_take (i := 19) (v := ?_) rfl (by kernel_rfl) (by kernel_rfl) (by kernel_rfl) (fun _ _ _ h => h) (Or.inl ⟨by rfl, ?_⟩) (by assumption) ?_
      rotate_left
      · (intro w hSw; (try dsimp only at hSw); first | (go_simp; done) | (go_simp; with_reducible rfl))
      simp only [Act.put, List.getElem_toArray, List.getElem_cons_zero, List.getElem_cons_succ, List.setIfInBounds_toArray, List.set_cons_zero, List.set_cons_succ]
      refine wpAnyH_take (i := 20) (v := undef) rfl (by kernel_rfl) (by kernel_rfl) (by kernel_rfl) (fun _ _ _ h => h) (Or.inr ⟨by rfl, rfl⟩) (by assumption) ?_
      simp only [Act.put, List.getElem_toArray, List.getElem_cons_zero, List.getElem_cons_succ, List.setIfInBounds_toArray, List.set_cons_zero, List.set_cons_succ]
      refine wpAnyH_take (i := 21) (v := undef) rfl (by kernel_rfl) (by kernel_rfl) (by kernel_rfl) (fun _ _ _ h => h) (Or.inr ⟨by rfl, rfl⟩) (by assumption) ?_
      simp only [Act.put, List.getElem_toArray, List.getElem_cons_zero, List.getElem_cons_succ, List.setIfInBounds_toArray, List.set_cons_zero, List.set_cons_succ]
      refine wpAnyH_take (i := 22) (v := undef) rfl (by kernel_rfl) (by kernel_rfl) (by kernel_rfl) (fun _ _ _ h => h) (Or.inr ⟨by rfl, rfl⟩) (by assumption) ?_
      simp only [Act.put, List.getElem_toArray, List.getElem_cons_zero, List.getElem_cons_succ, List.setIfInBounds_toArray, List.set_cons_zero, List.set_cons_succ]
      refine wpAnyH_take (i := 23) (v := ?_) rfl (by kernel_rfl) (by kernel_rfl) (by kernel_rfl) (fun _ _ _ h => h) (Or.inl ⟨by rfl, ?_⟩) (by assumption) ?_
      rotate_left
      · (intro w hSw; (try dsimp only at hSw); first | (go_simp; done) | (go_simp; with_reducible rfl))
      simp only [Act.put, List.getElem_toArray, List.getElem_cons_zero, List.getElem_cons_succ, List.setIfInBounds_toArray, List.set_cons_zero, List.set_cons_succ]
      refine wpAnyH_take (i := 24) (v := ?_) rfl (by kernel_rfl) (by kernel_rfl) (by kernel_rfl) (fun _ _ _ h => h) (Or.inl ⟨by rfl, ?_⟩) (by assumption) ?_
      rotate_left
      · (intro w hSw; (try dsimp only at hSw); first | (go_simp; done) | (go_simp; with_reducible rfl))
      simp only [Act.put, List.getElem_toArray, List.getElem_cons_zero, List.getElem_cons_succ, List.setIfInBounds_toArray, List.set_cons_zero, List.set_cons_succ]
      refine wpAnyH_take (i := 25) (v := undef) rfl (by kernel_rfl) (by kernel_rfl) (by kernel_rfl) (fun _ _ _ h => h) (Or.inr ⟨by rfl, rfl⟩) (by assumption) ?_
      simp only [Act.put, List.getElem_toArray, List.getElem_cons_zero, List.getElem_cons_succ, List.setIfInBounds_toArray, List.set_cons_zero, List.set_cons_succ]
      refine wpAnyH_take (i := 26) (v := undef) rfl (by kernel_rfl) (by kernel_rfl) (by kernel_rfl) (fun _ _ _ h => h) (Or.inr ⟨by rfl, rfl⟩) (by assumption) ?_
      simp only [Act.put, List.getElem_toArray, List.getElem_cons_zero, List.getElem_cons_succ, List.setIfInBounds_toArray, List.set_cons_zero, List.set_cons_succ]
      refine wpAnyH_take (i := 27) (v := undef) rfl (by kernel_rfl) (by kernel_rfl) (by kernel_rfl) (fun _ _ _ h => h) (Or.inr ⟨by rfl, rfl⟩) (by assumption) ?_
      simp only [Act.put, List.getElem_toArray, List.getElem_cons_zero, List.getElem_cons_succ, List.setIfInBounds_toArray, List.set_cons_zero, List.set_cons_succ]
      refine wpAnyH_take (i := 28) (v := undef) rfl (by kernel_rfl) (by kernel_rfl) (by kernel_rfl) (fun _ _ _ h => h) (Or.inr ⟨by rfl, rfl⟩) (by assumption) ?_
      simp only [Act.put, List.getElem_toArray, List.getElem_cons_zero, List.getElem_cons_succ, List.setIfInBounds_toArray, List.set_cons_zero, List.set_cons_succ]
      refine wpAnyH_take (i := 29) (v := ?_) rfl (by kernel_rfl) (by kernel_rfl) (by kernel_rfl) (fun _ _ _ h => h) (Or.inl ⟨by rfl, ?_⟩) (by assumption) ?_
      rotate_left
      · (intro w hSw; (try dsimp only at hSw); first | (go_simp; done) | (go_simp; with_reducible rfl))
      simp only [Act.put, List.getElem_toArray, List.getElem_cons_zero, List.getElem_cons_succ, List.setIfInBounds_toArray, List.set_cons_zero, List.set_cons_succ]
      refine wpAnyH_done (by kernel_rfl) ?_ _
      clear hHX
      have BF := Lib.hid (up B5.out (up B6.out DR.out B6.out.size) B5.out.size)
      go_wp2_with fail
      go_ret2
      exact .inr ⟨NOT_.out (by first | rfl | trivial), rfl, BF.out⟩
    have k2 : decide (d0 ≥ nx) = false := decide_eq_false c2
    have C1 := Lib.hid c1
    have C2 := Lib.hid c2
    clear c1 c2
    refine wpAnyH_take (i := 0) (v := ?_) rfl (by kernel_rfl) (by kernel_rfl) (by kernel_rfl) (fun _ _ _ h => h) (Or.inl ⟨by rfl, ?_⟩) (by assumption) ?_
    rotate_left
    · (intro w hSw; (try dsimp only at hSw); first | (go_simp; done) | (go_simp; with_reducible rfl))
    simp only [Act.put, List.getElem_toArray, List.getElem_cons_zero, List.getElem_cons_succ, List.setIfInBounds_toArray, List.set_cons_zero, List.set_cons_succ]
    refine wpAnyH_take (i := 1) (v := ?_) rfl (by kernel_rfl) (by kernel_rfl) (by kernel_rfl) (fun _ _ _ h => h) (Or.inl ⟨by rfl, ?_⟩) (by assumption) ?_
    rotate_left
    · (intro w hSw; (try dsimp only at hSw); first | (go_simp; done) | (go_simp; with_reducible rfl))
    simp only [Act.put, List.getElem_toArray, List.getElem_cons_zero, List.getElem_cons_succ, List.setIfInBounds_toArray, List.set_cons_zero, List.set_cons_succ]
    refine wpAnyH_take (i := 2) (v := ?_) rfl (by kernel_rfl) (by kernel_rfl) (by kernel_rfl) (fun _ _ _ h => h) (Or.inl ⟨by rfl, ?_⟩) (by assumption) ?_
    rotate_left
    · (intro w hSw; (try dsimp only at hSw); first | (go_simp; done) | (go_simp; with_reducible rfl))
    simp only [Act.put, List.getElem_toArray, List.getElem_cons_zero, List.getElem_cons_succ, List.setIfInBounds_toArray, List.set_cons_zero, List.set_cons_succ]
    refine wpAnyH_take (i := 3) (v := ?_) rfl (by kernel_rfl) (by kernel_rfl) (by kernel_rfl) (fun _ _ _ h => h) (Or.inl ⟨by rfl, ?_⟩) (by assumption) ?_
    rotate_left
    · (intro w hSw; (try dsimp only at hSw); first | (go_simp; done) | (go_simp; with_reducible rfl))
    simp only [Act.put, List.getElem_toArray, List.getElem_cons_zero, List.getElem_cons_succ, List.setIfInBounds_toArray, List.set_cons_zero, List.set_cons_succ]
    refine wpAnyH_take (i := 4) (v := ?_) rfl (by kernel_rfl) (by kernel_rfl) (by kernel_rfl) (fun _ _ _ h => h) (Or.inl ⟨by rfl, ?_⟩) (by assumption) ?_
    rotate_left
    · (intro w hSw; (try dsimp only at hSw); first | (go_simp; done) | (go_simp; with_reducible rfl))
    simp only [Act.put, List.getElem_toArray, List.getElem_cons_zero, List.getElem_cons_succ, List.setIfInBounds_toArray, List.set_cons_zero, List.set_cons_succ]
    refine wpAnyH_take (i := 5) (v := ?_) rfl (by kernel_rfl) (by kernel_rfl) (by kernel_rfl) (fun _ _ _ h => h) (Or.inl ⟨by rfl, ?_⟩) (by assumption) ?_
    rotate_left
    · (intro w hSw; (try dsimp only at hSw); first | (go_simp; done) | (go_simp; with_reducible rfl))
    simp only [Act.put, List.getElem_toArray, List.getElem_cons_zero, List.getElem_cons_succ, List.setIfInBounds_toArray, List.set_cons_zero, List.set_cons_succ]
    refine wpAnyH_take (i := 6) (v := ?_) rfl (by kernel_rfl) (by kernel_rfl) (by kernel_rfl) (fun _ _ _ h => h) (Or.inl ⟨by rfl, ?_⟩) (by assumption) ?_
    rotate_left
    · (intro w hSw; (try dsimp only at hSw); first | (go_simp; done) | (go_simp; with_reducible rfl))
    simp only [Act.put, List.getElem_toArray, List.getElem_cons_zero, List.getElem_cons_succ, List.setIfInBounds_toArray, List.set_cons_zero, List.set_cons_succ]
    refine wpAnyH_take (i := 7) (v := ?_) rfl (by kernel_rfl) (by kernel_rfl) (by kernel_rfl) (fun _ _ _ h => h) (Or.inl ⟨by rfl, ?_⟩) (by assumption) ?_
    rotate_left
    · (intro w hSw; (try dsimp only at hSw); first | (go_simp; done) | (go_simp; with_reducible rfl))
    simp only [Act.put, List.getElem_toArray, List.getElem_cons_zero, List.getElem_cons_succ, List.setIfInBounds_toArray, List.set_cons_zero, List.set_cons_succ]
    refine wpAnyH_take (i := 8) (v := ?_) rfl (by kernel_rfl) (by kernel_rfl) (by kernel_rfl) (fun _ _ _ h => h) (Or.inl ⟨by rfl, ?_⟩) (by assumption) ?_
    rotate_left
    · (intro w hSw; (try dsimp only at hSw); first | (go_simp; done) | (go_simp; with_reducible rfl))
    simp only [Act.put, List.getElem_toArray, List.getElem_cons_zero, List.getElem_cons_succ, List.setIfInBounds_toArray, List.set_cons_zero, List.set_cons_succ]
    refine wpAnyH_take (i := 9) (v := ?_) rfl (by kernel_rfl) (by kernel_rfl) (by kernel_rfl) (fun _ _ _ h => h) (Or.inl ⟨by rfl, ?_⟩) (by assumption) ?_
    rotate_left
    · (intro w hSw; (try dsimp only at hSw); first | (go_simp; done) | (go_simp; with_reducible rfl))
    simp only [Act.put, List.getElem_toArray, List.getElem_cons_zero, List.getElem_cons_succ, List.setIfInBounds_toArray, List.set_cons_zero, List.set_cons_succ]
    refine wpAnyH_take (i := 10) (v := ?_) rfl (by kernel_rfl) (by kernel_rfl) (by kernel_rfl) (fun _ _ _ h => h) (Or.inl ⟨by rfl, ?_⟩) (by assumption) ?_
    rotate_left
    · (intro w hSw; (try dsimp only at hSw); first | (go_simp; done) | (go_simp; with_reducible rfl))
    simp only [Act.put, List.getElem_toArray, List.getElem_cons_zero, List.getElem_cons_succ, List.setIfInBounds_toArray, List.set_cons_zero, List.set_cons_succ]
    refine wpAnyH_take (i := 11) (v := ?_) rfl (by kernel_rfl) (by kernel_rfl) (by kernel_rfl) (fun _ _ _ h => h) (Or.inl ⟨by rfl, ?_⟩) (by assumption) ?_
    rotate_left
    · (intro w hSw; (try dsimp only at hSw); first | (go_simp; done) | (go_simp; with_reducible rfl))
    simp only [Act.put, List.getElem_toArray, List.getElem_cons_zero, List.getElem_cons_succ, List.setIfInBounds_toArray, List.set_cons_zero, List.set_cons_succ]
    refine wpAnyH_take (i := 12) (v := ?_) rfl (by kernel_rfl) (by kernel_rfl) (by kernel_rfl) (fun _ _ _ h => h) (Or.inl ⟨by rfl, ?_⟩) (by assumption) ?_
    rotate_left
    · (intro w hSw; (try dsimp only at hSw); first | (go_simp; done) | (go_simp; with_reducible rfl))
    simp only [Act.put, List.getElem_toArray, List.getElem_cons_zero, List.getElem_cons_succ, List.setIfInBounds_toArray, List.set_cons_zero, List.set_cons_succ]
    refine wpAnyH_take (i := 13) (v := ?_) rfl (by kernel_rfl) (by kernel_rfl) (by kernel_rfl) (fun _ _ _ h => h) (Or.inl ⟨by rfl, ?_⟩) (by assumption) ?_
    rotate_left
    · (intro w hSw; (try dsimp only at hSw); first | (go_simp; done) | (go_simp; with_reducible rfl))
    simp only [Act.put, List.getElem_toArray, List.getElem_cons_zero, List.getElem_cons_succ, List.setIfInBounds_toArray, List.set_cons_zero, List.set_cons_succ]
    refine wpAnyH_take (i := 14) (v := ?_) rfl (by kernel_rfl) (by kernel_rfl) (by kernel_rfl) (fun _ _ _ h => h) (Or.inl ⟨by rfl, ?_⟩) (by assumption) ?_
    rotate_left
    · (intro w hSw; (try dsimp only at hSw); first | (go_simp; done) | (go_simp; with_reducible rfl))
    simp only [Act.put, List.getElem_toArray, List.getElem_cons_zero, List.getElem_cons_succ, List.setIfInBounds_toArray, List.set_cons_zero, List.set_cons_succ]
    refine wpAnyH_take (i := 15) (v := ?_) rfl (by kernel_rfl) (by kernel_rfl) (by kernel_rfl) (fun _ _ _ h => h) (Or.inl ⟨by rfl, ?_⟩) (by assumption) ?_
    rotate_left
    · (intro w hSw; (try dsimp only at hSw); first | (go_simp; done) | (go_simp; with_reducible rfl))
    simp only [Act.put, List.getElem_toArray, List.getElem_cons_zero, List.getElem_cons_succ, List.setIfInBounds_toArray, List.set_cons_zero, List.set_cons_succ]
    refine wpAnyH_ready (rs := [16]) (by kernel_rfl) (by simp) ?_
    refine AllReadyH.cons rfl (fun K hK => ?_) AllReadyH.nil
    go_simp
    go_wp2_with (go_at_call 41; refine (NM.out _).mono ?_; rintro e wx ⟨rfl, rfl⟩)
    refine hK.out _ _ (KS.out _ DR.out) (fun hHY => ?_)
    clear hK K hHX
    have hHX := hHY
    clear hHY
    cases bn with
    | false =>
      obtain rfl := OF.out (.inr (.inr (.inl rfl)))
      refine wpAnyH_take (i := 17) (v := ?_) rfl (by kernel_rfl) (by kernel_rfl) (by kernel_rfl) (fun _ _ _ h => h) (Or.inl ⟨by rfl, ?_⟩) (by assumption) ?_
      rotate_left
      · (intro w hSw; (try dsimp only at hSw); first | (go_simp; done) | (go_simp; with_reducible rfl))
      simp only [Act.put, List.getElem_toArray, List.getElem_cons_zero, List.getElem_cons_succ, List.setIfInBounds_toArray, List.set_cons_zero, List.set_cons_succ]
      refine wpAnyH_take (i := 18) (v := ?_) rfl (by kernel_rfl) (by kernel_rfl) (by kernel_rfl) (fun _ _ _ h => h) (Or.inl ⟨by rfl, ?_⟩) (by assumption) ?_
      rotate_left
      · (intro w hSw; (try dsimp only at hSw); first | (go_simp; done) | (go_simp; with_reducible rfl))
      simp only [Act.put, List.getElem_toArray, List.getElem_cons_zero, List.getElem_cons_succ, List.setIfInBounds_toArray, List.set_cons_zero, List.set_cons_succ]
      refine wpAnyH_take (i := 19) (v := ?_) rfl (by kernel_rfl) (by kernel_rfl) (by kernel_rfl) (fun _ _ _ h => h) (Or.inl ⟨by rfl, ?_⟩) (by assumption) ?_
      rotate_left
      · (intro w hSw; (try dsimp only at hSw); first | (go_simp; done) | (go_simp; with_reducible rfl))
      simp only [Act.put, List.getElem_toArray, List.getElem_cons_zero, List.getElem_cons_succ, List.setIfInBounds_toArray, List.set_cons_zero, List.set_cons_succ]
      refine wpAnyH_take (i := 20) (v := undef) rfl (by kernel_rfl) (by kernel_rfl) (by kernel_rfl) (fun _ _ _ h => h) (Or.inr ⟨by rfl, rfl⟩) (by assumption) ?_
      simp only [Act.put, List.getElem_toArray, List.getElem_cons_zero, List.getElem_cons_succ, List.setIfInBounds_toArray, List.set_cons_zero, List.set_cons_succ]
      refine wpAnyH_take (i := 21) (v := undef) rfl (by kernel_rfl) (by kernel_rfl) (by kernel_rfl) (fun _ _ _ h => h) (Or.inr ⟨by rfl, rfl⟩) (by assumption) ?_
      simp only [Act.put, List.getElem_toArray, List.getElem_cons_zero, List.getElem_cons_succ, List.setIfInBounds_toArray, List.set_cons_zero, List.set_cons_succ]
      refine wpAnyH_take (i := 22) (v := undef) rfl (by kernel_rfl) (by kernel_rfl) (by kernel_rfl) (fun _ _ _ h => h) (Or.inr ⟨by rfl, rfl⟩) (by assumption) ?_
      simp only [Act.put, List.getElem_toArray, List.getElem_cons_zero, List.getElem_cons_succ, List.setIfInBounds_toArray, List.set_cons_zero, List.set_cons_succ]
      refine wpAnyH_take (i := 23) (v := ?_) rfl (by kernel_rfl) (by kernel_rfl) (by kernel_rfl) (fun _ _ _ h => h) (Or.inl ⟨by rfl, ?_⟩) (by assumption) ?_
      rotate_left
      · (intro w hSw; (try dsimp only at hSw); first | (go_simp; done) | (go_simp; with_reducible rfl))
      simp only [Act.put, List.getElem_toArray, List.getElem_cons_zero, List.getElem_cons_succ, List.setIfInBounds_toArray, List.set_cons_zero, List.set_cons_succ]
      refine wpAnyH_take (i := 24) (v := ?_) rfl (by kernel_rfl) (by kernel_rfl) (by kernel_rfl) (fun _ _ _ h => h) (Or.inl ⟨by rfl, ?_⟩) (by assumption) ?_
      rotate_left
      · (intro w hSw; (try dsimp only at hSw); first | (go_simp; done) | (go_simp; with_reducible rfl))
      simp only [Act.put, List.getElem_toArray, List.getElem_cons_zero, List.getElem_cons_succ, List.setIfInBounds_toArray, List.set_cons_zero, List.set_cons_succ]
      refine wpAnyH_take (i := 25) (v := undef) rfl (by kernel_rfl) (by kernel_rfl) (by kernel_rfl) (fun _ _ _ h => h) (Or.inr ⟨by rfl, rfl⟩) (by assumption) ?_
      simp only [Act.put, List.getElem_toArray, List.getElem_cons_zero, List.getElem_cons_succ, List.setIfInBounds_toArray, List.set_cons_zero, List.set_cons_succ]
      refine wpAnyH_take (i := 26) (v := undef) rfl (by kernel_rfl) (by kernel_rfl) (by kernel_rfl) (fun _ _ _ h => h) (Or.inr ⟨by rfl, rfl⟩) (by assumption) ?_
      simp only [Act.put, List.getElem_toArray, List.getElem_cons_zero, List.getElem_cons_succ, List.setIfInBounds_toArray, List.set_cons_zero, List.set_cons_succ]
      refine wpAnyH_take (i := 27) (v := undef) rfl (by kernel_rfl) (by kernel_rfl) (by kernel_rfl) (fun _ _ _ h => h) (Or.inr ⟨by rfl, rfl⟩) (by assumption) ?_
      simp only [Act.put, List.getElem_toArray, List.getElem_cons_zero, List.getElem_cons_succ, List.setIfInBounds_toArray, List.set_cons_zero, List.set_cons_succ]
      refine wpAnyH_take (i := 28) (v := undef) rfl (by kernel_rfl) (by kernel_rfl) (by kernel_rfl) (fun _ _ _ h => h) (Or.inr ⟨by rfl, rfl⟩) (by assumption) ?_
      simp only [Act.put, List.getElem_toArray, List.getElem_cons_zero, List.getElem_cons_succ, List.setIfInBounds_toArray, List.set_cons_zero, List.set_cons_succ]
      refine wpAnyH_take (i := 29) (v := ?_) rfl (by kernel_rfl) (by kernel_rfl) (by kernel_rfl) (fun _ _ _ h => h) (Or.inl ⟨by rfl, ?_⟩) (by assumption) ?_
      rotate_left
      · (intro w hSw; (try dsimp only at hSw); first | (go_simp; done) | (go_simp; with_reducible rfl))
      simp only [Act.put, List.getElem_toArray, List.getElem_cons_zero, List.getElem_cons_succ, List.setIfInBounds_toArray, List.set_cons_zero, List.set_cons_succ]
      refine wpAnyH_done (by kernel_rfl) ?_ _
      clear hHX
      have BF := Lib.hid (up B5.out (up B6.out DR.out B6.out.size) B5.out.size)
      go_wp2_with fail
      go_ret2
      exact .inr ⟨NOT_.out (by first | rfl | trivial), rfl, BF.out⟩
    | true =>
    by_cases c3 : d2 < 1
    · obtain rfl := OF.out (.inr (.inr (.inr (.inl c3))))
      have k3 : decide (d2 < 1) = true := decide_eq_true c3
      clear c3
      refine wpAnyH_take (i := 17) (v := ?_) rfl (by kernel_rfl) (by kernel_rfl) (by kernel_rfl) (fun _ _ _ h => h) (Or.inl ⟨by rfl, ?_⟩) (by assumption) ?_
      rotate_left
      · (intro w hSw; (try dsimp only at hSw); first | (go_simp; done) | (go_simp; with_reducible rfl))
      simp only [Act.put, List.getElem_toArray, List.getElem_cons_zero, List.getElem_cons_succ, List.setIfInBounds_toArray, List.set_cons_zero, List.set_cons_succ]
      refine wpAnyH_take (i := 18) (v := ?_) rfl (by kernel_rfl) (by kernel_rfl) (by kernel_rfl) (fun _ _ _ h => h) (Or.inl ⟨by rfl, ?_⟩) (by assumption) ?_
      rotate_left
      · (intro w hSw; (try dsimp only at hSw); first | (go_simp; done) | (go_simp; with_reducible rfl))
      simp only [Act.put, List.getElem_toArray, List.getElem_cons_zero, List.getElem_cons_succ, List.setIfInBounds_toArray, List.set_cons_zero, List.set_cons_succ]
      refine wpAnyH_take (i := 19) (v := ?_) rfl (by kernel_rfl) (by kernel_rfl) (by kernel_rfl) (fun _ _ _ h => h) (Or.inl ⟨by rfl, ?_⟩) (by assumption) ?_
      rotate_left
      · (intro w hSw; (try dsimp only at hSw); first | (go_simp; done) | (go_simp; with_reducible rfl))
      simp only [Act.put, List.getElem_toArray, List.getElem_cons_zero, List.getElem_cons_succ, List.setIfInBounds_toArray, List.set_cons_zero, List.set_cons_succ]
      refine wpAnyH_take (i := 20) (v := ?_) rfl (by kernel_rfl) (by kernel_rfl) (by kernel_rfl) (fun _ _ _ h => h) (Or.inl ⟨by rfl, ?_⟩) (by assumption) ?_
      rotate_left
      · (intro w hSw; (try dsimp only at hSw); first | (go_simp; done) | (go_simp; with_reducible rfl))
      simp only [Act.put, List.getElem_toArray, List.getElem_cons_zero, List.getElem_cons_succ, List.setIfInBounds_toArray, List.set_cons_zero, List.set_cons_succ]
      refine wpAnyH_take (i := 21) (v := ?_) rfl (by kernel_rfl) (by kernel_rfl) (by kernel_rfl) (fun _ _ _ h => h) (Or.inl ⟨by rfl, ?_⟩) (by assumption) ?_
      rotate_left
      · (intro w hSw; (try dsimp only at hSw); first | (go_simp; done) | (go_simp; with_reducible rfl))
      simp only [Act.put, List.getElem_toArray, List.getElem_cons_zero, List.getElem_cons_succ, List.setIfInBounds_toArray, List.set_cons_zero, List.set_cons_succ]
      refine wpAnyH_take (i := 22) (v := ?_) rfl (by kernel_rfl) (by kernel_rfl) (by kernel_rfl) (fun _ _ _ h => h) (Or.inl ⟨by rfl, ?_⟩) (by assumption) ?_
      rotate_left
      · (intro w hSw; (try dsimp only at hSw); first | (go_simp; done) | (go_simp; with_reducible rfl))
      simp only [Act.put, List.getElem_toArray, List.getElem_cons_zero, List.getElem_cons_succ, List.setIfInBounds_toArray, List.set_cons_zero, List.set_cons_succ]
      refine wpAnyH_take (i := 23) (v := ?_) rfl (by kernel_rfl) (by kernel_rfl) (by kernel_rfl) (fun _ _ _ h => h) (Or.inl ⟨by rfl, ?_⟩) (by assumption) ?_
      rotate_left
      · (intro w hSw; (try dsimp only at hSw); first | (go_simp; done) | (go_simp; with_reducible rfl))
      simp only [Act.put, List.getElem_toArray, List.getElem_cons_zero, List.getElem_cons_succ, List.setIfInBounds_toArray, List.set_cons_zero, List.set_cons_succ]
      refine wpAnyH_take (i := 24) (v := ?_) rfl (by kernel_rfl) (by kernel_rfl) (by kernel_rfl) (fun _ _ _ h => h) (Or.inl ⟨by rfl, ?_⟩) (by assumption) ?_
      rotate_left
      · (intro w hSw; (try dsimp only at hSw); first | (go_simp; done) | (go_simp; with_reducible rfl))
      simp only [Act.put, List.getElem_toArray, List.getElem_cons_zero, List.getElem_cons_succ, List.setIfInBounds_toArray, List.set_cons_zero, List.set_cons_succ]
      refine wpAnyH_take (i := 25) (v := undef) rfl (by kernel_rfl) (by kernel_rfl) (by kernel_rfl) (fun _ _ _ h => h) (Or.inr ⟨by rfl, rfl⟩) (by assumption) ?_
      simp only [Act.put, List.getElem_toArray, List.getElem_cons_zero, List.getElem_cons_succ, List.setIfInBounds_toArray, List.set_cons_zero, List.set_cons_succ]
      refine wpAnyH_take (i := 26) (v := undef) rfl (by kernel_rfl) (by kernel_rfl) (by kernel_rfl) (fun _ _ _ h => h) (Or.inr ⟨by rfl, rfl⟩) (by assumption) ?_
      simp only [Act.put, List.getElem_toArray, List.getElem_cons_zero, List.getElem_cons_succ, List.setIfInBounds_toArray, List.set_cons_zero, List.set_cons_succ]
      refine wpAnyH_take (i := 27) (v := undef) rfl (by kernel_rfl) (by kernel_rfl) (by kernel_rfl) (fun _ _ _ h => h) (Or.inr ⟨by rfl, rfl⟩) (by assumption) ?_
      simp only [Act.put, List.getElem_toArray, List.getElem_cons_zero, List.getElem_cons_succ, List.setIfInBounds_toArray, List.set_cons_zero, List.set_cons_succ]
      refine wpAnyH_take (i := 28) (v := undef) rfl (by kernel_rfl) (by kernel_rfl) (by kernel_rfl) (fun _ _ _ h => h) (Or.inr ⟨by rfl, rfl⟩) (by assumption) ?_
      simp only [Act.put, List.getElem_toArray, List.getElem_cons_zero, List.getElem_cons_succ, List.setIfInBounds_toArray, List.set_cons_zero, List.set_cons_succ]
      refine wpAnyH_take (i := 29) (v := ?_) rfl (by kernel_rfl) (by kernel_rfl) (by kernel_rfl) (fun _ _ _ h => h) (Or.inl ⟨by rfl, ?_⟩) (by assumption) ?_
      rotate_left
      · (intro w hSw; (try dsimp only at hSw); first | (go_simp; done) | (go_simp; with_reducible rfl))
      simp only [Act.put, List.getElem_toArray, List.getElem_cons_zero, List.getElem_cons_succ, List.setIfInBounds_toArray, List.set_cons_zero, List.set_cons_succ]
      refine wpAnyH_done (by kernel_rfl) ?_ _
      clear hHX
      have BF := Lib.hid (up B5.out (up B6.out DR.out B6.out.size) B5.out.size)
      go_wp2_with fail
      go_ret2
      exact .inr ⟨NOT_.out (by first | rfl | trivial), rfl, BF.out⟩
    have k3 : decide (d2 < 1) = false := decide_eq_false c3
    have C3 := Lib.hid c3
    clear c3
    refine wpAnyH_take (i := 17) (v := ?_) rfl (by kernel_rfl) (by kernel_rfl) (by kernel_rfl) (fun _ _ _ h => h) (Or.inl ⟨by rfl, ?_⟩) (by assumption) ?_
    rotate_left
    · (intro w hSw; (try dsimp only at hSw); first | (go_simp; done) | (go_simp; with_reducible rfl))
    simp only [Act.put, List.getElem_toArray, List.getElem_cons_zero, List.getElem_cons_succ, List.setIfInBounds_toArray, List.set_cons_zero, List.set_cons_succ]
    refine wpAnyH_take (i := 18) (v := ?_) rfl (by kernel_rfl) (by kernel_rfl) (by kernel_rfl) (fun _ _ _ h => h) (Or.inl ⟨by rfl, ?_⟩) (by assumption) ?_
    rotate_left
    · (intro w hSw; (try dsimp only at hSw); first | (go_simp; done) | (go_simp; with_reducible rfl))
    simp only [Act.put, List.getElem_toArray, List.getElem_cons_zero, List.getElem_cons_succ, List.setIfInBounds_toArray, List.set_cons_zero, List.set_cons_succ]
    refine wpAnyH_take (i := 19) (v := ?_) rfl (by kernel_rfl) (by kernel_rfl) (by kernel_rfl) (fun _ _ _ h => h) (Or.inl ⟨by rfl, ?_⟩) (by assumption) ?_
    rotate_left
    · (intro w hSw; (try dsimp only at hSw); first | (go_simp; done) | (go_simp; with_reducible rfl))
    simp only [Act.put, List.getElem_toArray, List.getElem_cons_zero, List.getElem_cons_succ, List.setIfInBounds_toArray, List.set_cons_zero, List.set_cons_succ]
    refine wpAnyH_take (i := 20) (v := ?_) rfl (by kernel_rfl) (by kernel_rfl) (by kernel_rfl) (fun _ _ _ h => h) (Or.inl ⟨by rfl, ?_⟩) (by assumption) ?_
    rotate_left
    · (intro w hSw; (try dsimp only at hSw); first | (go_simp; done) | (go_simp; with_reducible rfl))
    simp only [Act.put, List.getElem_toArray, List.getElem_cons_zero, List.getElem_cons_succ, List.setIfInBounds_toArray, List.set_cons_zero, List.set_cons_succ]
    refine wpAnyH_take (i := 21) (v := ?_) rfl (by kernel_rfl) (by kernel_rfl) (by kernel_rfl) (fun _ _ _ h => h) (Or.inl ⟨by rfl, ?_⟩) (by assumption) ?_
    rotate_left
    · (intro w hSw; (try dsimp only at hSw); first | (go_simp; done) | (go_simp; with_reducible rfl))
    simp only [Act.put, List.getElem_toArray, List.getElem_cons_zero, List.getElem_cons_succ, List.setIfInBounds_toArray, List.set_cons_zero, List.set_cons_succ]
    refine wpAnyH_take (i := 22) (v := ?_) rfl (by kernel_rfl) (by kernel_rfl) (by kernel_rfl) (fun _ _ _ h => h) (Or.inl ⟨by rfl, ?_⟩) (by assumption) ?_
    rotate_left
    · (intro w hSw; (try dsimp only at hSw); first | (go_simp; done) | (go_simp; with_reducible rfl))
    simp only [Act.put, List.getElem_toArray, List.getElem_cons_zero, List.getElem_cons_succ, List.setIfInBounds_toArray, List.set_cons_zero, List.set_cons_succ]
    refine wpAnyH_take (i := 23) (v := ?_) rfl (by kernel_rfl) (by kernel_rfl) (by kernel_rfl) (fun _ _ _ h => h) (Or.inl ⟨by rfl, ?_⟩) (by assumption) ?_
    rotate_left
    · (intro w hSw; (try dsimp only at hSw); first | (go_simp; done) | (go_simp; with_reducible rfl))
    simp only [Act.put, List.getElem_toArray, List.getElem_cons_zero, List.getElem_cons_succ, List.setIfInBounds_toArray, List.set_cons_zero, List.set_cons_succ]
    refine wpAnyH_take (i := 24) (v := ?_) rfl (by kernel_rfl) (by kernel_rfl) (by kernel_rfl) (fun _ _ _ h => h) (Or.inl ⟨by rfl, ?_⟩) (by assumption) ?_
    rotate_left
    · (intro w hSw; (try dsimp only at hSw); first | (go_simp; done) | (go_simp; with_reducible rfl))
    simp only [Act.put, List.getElem_toArray, List.getElem_cons_zero, List.getElem_cons_succ, List.setIfInBounds_toArray, List.set_cons_zero, List.set_cons_succ]
    refine wpAnyH_take (i := 25) (v := ?_) rfl (by kernel_rfl) (by kernel_rfl) (by kernel_rfl) (fun _ _ _ h => h) (Or.inl ⟨by rfl, ?_⟩) (by assumption) ?_
    rotate_left
    · (intro w hSw; (try dsimp only at hSw); first | (go_simp; done) | (go_simp; with_reducible rfl))
    simp only [Act.put, List.getElem_toArray, List.getElem_cons_zero, List.getElem_cons_succ, List.setIfInBounds_toArray, List.set_cons_zero, List.set_cons_succ]
    refine wpAnyH_take (i := 26) (v := ?_) rfl (by kernel_rfl) (by kernel_rfl) (by kernel_rfl) (fun _ _ _ h => h) (Or.inl ⟨by rfl, ?_⟩) (by assumption) ?_
    rotate_left
    · (intro w hSw; (try dsimp only at hSw); first | (go_simp; done) | (go_simp; with_reducible rfl))
    simp only [Act.put, List.getElem_toArray, List.getElem_cons_zero, List.getElem_cons_succ, List.setIfInBounds_toArray, List.set_cons_zero, List.set_cons_succ]
    refine wpAnyH_ready (rs := [27]) (by kernel_rfl) (by simp) ?_
    refine AllReadyH.cons rfl (fun K hK => ?_) AllReadyH.nil
    go_simp
    go_wp2_with (go_at_call 22; refine (RT.out _).mono ?_; rintro e wx ⟨rfl, hbx⟩)
    have BY := Lib.hid (up DR.out hbx DR.out.size)
    clear hbx
    refine hK.out _ _ (KS.out _ BY.out) (fun hHY => ?_)
    clear hK K hHX
    have hHX := hHY
    clear hHY
    cases br with
    | false =>
      obtain rfl := OF.out (.inr (.inr (.inr (.inr rfl))))
      refine wpAnyH_take (i := 28) (v := ?_) rfl (by kernel_rfl) (by kernel_rfl) (by kernel_rfl) (fun _ _ _ h => h) (Or.inl ⟨by rfl, ?_⟩) (by assumption) ?_
      rotate_left
      · (intro w hSw; (try dsimp only at hSw); first | (go_simp; done) | (go_simp; with_reducible rfl))
      simp only [Act.put, List.getElem_toArray, List.getElem_cons_zero, List.getElem_cons_succ, List.setIfInBounds_toArray, List.set_cons_zero, List.set_cons_succ]
      refine wpAnyH_take (i := 29) (v := ?_) rfl (by kernel_rfl) (by kernel_rfl) (by kernel_rfl) (fun _ _ _ h => h) (Or.inl ⟨by rfl, ?_⟩) (by assumption) ?_
      rotate_left
      · (intro w hSw; (try dsimp only at hSw); first | (go_simp; done) | (go_simp; with_reducible rfl))
      simp only [Act.put, List.getElem_toArray, List.getElem_cons_zero, List.getElem_cons_succ, List.setIfInBounds_toArray, List.set_cons_zero, List.set_cons_succ]
      refine wpAnyH_done (by kernel_rfl) ?_ _
      clear hHX
      have BF := Lib.hid (up B5.out (up B6.out BY.out B6.out.size) B5.out.size)
      go_wp2_with fail
      go_ret2
      exact .inr ⟨NOT_.out (by first | rfl | trivial), rfl, BF.out⟩
    | true =>
    obtain rfl := OT.out C1.out C2.out (by first | rfl | trivial) C3.out (by first | rfl | trivial)
    refine wpAnyH_take (i := 28) (v := ?_) rfl (by kernel_rfl) (by kernel_rfl) (by kernel_rfl) (fun _ _ _ h => h) (Or.inl ⟨by rfl, ?_⟩) (by assumption) ?_
    rotate_left
    · (intro w hSw; (try dsimp only at hSw); first | (go_simp; done) | (go_simp; with_reducible rfl))
    simp only [Act.put, List.getElem_toArray, List.getElem_cons_zero, List.getElem_cons_succ, List.setIfInBounds_toArray, List.set_cons_zero, List.set_cons_succ]
    refine wpAnyH_take (i := 29) (v := ?_) rfl (by kernel_rfl) (by kernel_rfl) (by kernel_rfl) (fun _ _ _ h => h) (Or.inl ⟨by rfl, ?_⟩) (by assumption) ?_
    rotate_left
    · (intro w hSw; (try dsimp only at hSw); first | (go_simp; done) | (go_simp; with_reducible rfl))
    simp only [Act.put, List.getElem_toArray, List.getElem_cons_zero, List.getElem_cons_succ, List.setIfInBounds_toArray, List.set_cons_zero, List.set_cons_succ]
    refine wpAnyH_done (by kernel_rfl) ?_ _
    clear hHX OF OT NM RT UF NOT_ k1 k2 k3
    have B8 := Lib.hid (BY.out.drew)
    have bxd := BX.out.below B8.out BX.out.lt
    have BXD := Lib.hid (show Blk wx.drew w5.heap.size 46 (xv x) by rw [X.out]; exact bxd)
    obtain ⟨A9, c9, A5, c5, wn, j0, j0', happ, jb0, jb, jg, jb6, jg6, jo6, jm6, jc⟩ := app_row x T5.out (up B6.out B8.out B6.out.size) (Nat.le_refl _) BXD.out (by have := TL.out; omega) (by have := B5.out.size; have := B6.out.size; have := B8.out.size; omega)
    have TKX := Lib.hid (show L.take (k + 1) = M ++ [x] from by rw [TK.out, X.out])
    have EN := Lib.hid (enter_any (K := k) (M' := M ++ [x]) x _ _ jg6 jm6 (by rw [X.out]; exact WD.out) (G5.out.ris.ids _) (fun q => by
      have kk := ids_new (fun d hd => (show d.id < x.id from by have := (G5.out.id1 d hd).2; have := C1.out; rw [X.out]; dsimp only at this ⊢; omega)) q
      rw [kk]
      by_cases z : q = pc x
      · rw [if_pos z, if_pos z, z]
      · rw [if_neg z, if_neg z]) (by have := TL.out; omega) (by omega) (by have := jc.size; have := B5.out.size; have := B6.out.size; have := B8.out.size; omega))
    have ED := Lib.hid (fun ws K' (h7 : MAt ws w.heap.size w.heap.size (M ++ [x]) K') hc => entered jg6 jo6 jm6 jb6 (by omega) h7 hc)
    have CC := Lib.hid jc
    have J0 := Lib.hid j0
    have J0' := Lib.hid j0'
    have HAP := Lib.hid happ
    have SB := Lib.hid (fun ws (h : Blk ws w5.heap.size 46 #[.int .i64 d0, .string d1, .int .i64 d2, .int .i64 d3, .int .i64 d4, .int .i64 d5]) => (show ws.cell? ⟨w5.heap.size, 0, none⟩ = some (.int .i64 d0) ∧ ws.cell? ⟨w5.heap.size, 1, none⟩ = some (.string d1) ∧ ws.cell? ⟨w5.heap.size, 2, none⟩ = some (.int .i64 d2) ∧ ws.cell? ⟨w5.heap.size, 3, none⟩ = some (.int .i64 d3) ∧ ws.cell? ⟨w5.heap.size, 4, none⟩ = some (.int .i64 d4) ∧ ws.cell? ⟨w5.heap.size, 5, none⟩ = some (.int .i64 d5) from by
      exact ⟨h.cell 0, h.cell 1, h.cell 2, h.cell 3, h.cell 4, h.cell 5⟩))
    have JB0 := Lib.hid jb0
    have JB := Lib.hid jb
    have JB6 := Lib.hid jb6
    have JG := Lib.hid jg
    have P9 := Lib.hid (show d0 + 1 ≤ nx ∧ nx ≤ 1099511627776 ∧ p ≤ d0 ∧ 1 ≤ p from by have := C2.out; have := C1.out; have := Q3.out; have := G5.out.nx; dsimp only at this; omega)
    have GS := Lib.hid (show Gd (M ++ [x], d0 + 1) from by
      have h9 := P9.out
      have := G5.out.push x (by rw [X.out]; dsimp only; omega) (by rw [X.out]; dsimp only; omega) (by rw [X.out]; exact WD.out)
      rw [X.out] at this ⊢
      exact this)
    clear j0 j0' happ jb0 jb jg jb6 jg6 jo6 jm6 jc bxd C1 C2 C3 KS
    rw [X.out] at EN J0' HAP JB0 JB JB6 BXD ED CC
    dsimp only [tv, xv] at EN J0' HAP JB0 JB JB6 BXD
    generalize (M ++ [({ id := d0, nm := d1, ow := d2, kd := d3, hs := d4, sl := d5 } : Th)]).length = n5 at *
    go_wp2_with fail
    refine wp_region_held_drew (S := fun ws => ws.cell? ⟨w5.heap.size, 0, none⟩ = some (.int .i64 d0) ∧ ws.cell? ⟨w5.heap.size, 1, none⟩ = some (.string d1) ∧ ws.cell? ⟨w5.heap.size, 2, none⟩ = some (.int .i64 d2) ∧ ws.cell? ⟨w5.heap.size, 3, none⟩ = some (.int .i64 d3) ∧ ws.cell? ⟨w5.heap.size, 4, none⟩ = some (.int .i64 d4) ∧ ws.cell? ⟨w5.heap.size, 5, none⟩ = some (.int .i64 d5)) (by kernel_rfl) (SB.out _ BXD.out) (fun hHeld => ?_)
    refine wpAnyH_take (i := 0) (v := ?_) rfl (by kernel_rfl) (by kernel_rfl) (by kernel_rfl) (fun _ _ _ h => h) (Or.inl ⟨by rfl, ?_⟩) (by assumption) ?_
    rotate_left
    · (intro w hSw; (try dsimp only at hSw); first | (go_simp; done) | (go_simp; with_reducible rfl))
    simp only [Act.put, List.getElem_toArray, List.getElem_cons_zero, List.getElem_cons_succ, List.setIfInBounds_toArray, List.set_cons_zero, List.set_cons_succ]
    refine wpAnyH_take (i := 1) (v := ?_) rfl (by kernel_rfl) (by kernel_rfl) (by kernel_rfl) (fun _ _ _ h => h) (Or.inl ⟨by rfl, ?_⟩) (by assumption) ?_
    rotate_left
    · (intro w hSw; (try dsimp only at hSw); first | (go_simp; done) | (go_simp; with_reducible rfl))
    simp only [Act.put, List.getElem_toArray, List.getElem_cons_zero, List.getElem_cons_succ, List.setIfInBounds_toArray, List.set_cons_zero, List.set_cons_succ]
    refine wpAnyH_take (i := 2) (v := ?_) rfl (by kernel_rfl) (by kernel_rfl) (by kernel_rfl) (fun _ _ _ h => h) (Or.inl ⟨by rfl, ?_⟩) (by assumption) ?_
    rotate_left
    · (intro w hSw; (try dsimp only at hSw); first | (go_simp; done) | (go_simp; with_reducible rfl))
    simp only [Act.put, List.getElem_toArray, List.getElem_cons_zero, List.getElem_cons_succ, List.setIfInBounds_toArray, List.set_cons_zero, List.set_cons_succ]
    refine wpAnyH_take (i := 3) (v := ?_) rfl (by kernel_rfl) (by kernel_rfl) (by kernel_rfl) (fun _ _ _ h => h) (Or.inl ⟨by rfl, ?_⟩) (by assumption) ?_
    rotate_left
    · (intro w hSw; (try dsimp only at hSw); first | (go_simp; done) | (go_simp; with_reducible rfl))
    simp only [Act.put, List.getElem_toArray, List.getElem_cons_zero, List.getElem_cons_succ, List.setIfInBounds_toArray, List.set_cons_zero, List.set_cons_succ]
    refine wpAnyH_take (i := 5) (v := ?_) rfl (by kernel_rfl) (by kernel_rfl) (by kernel_rfl) (fun _ _ _ h => h) (Or.inl ⟨by rfl, ?_⟩) (by assumption) ?_
    rotate_left
    · (intro w hSw; (try dsimp only at hSw); first | (go_simp; done) | (go_simp; with_reducible rfl))
    simp only [Act.put, List.getElem_toArray, List.getElem_cons_zero, List.getElem_cons_succ, List.setIfInBounds_toArray, List.set_cons_zero, List.set_cons_succ]
    generalize wx.drew = w9 at *
    refine wpAnyH_ready (rs := [4, 6]) (by kernel_rfl) (by simp) ?_
    refine AllReadyH.cons rfl (fun K hK => ?_) (AllReadyH.cons rfl (fun K hK => ?_) AllReadyH.nil)
    · have lk := J0.out
      go_simp
      refine hK.out _ _ (SB.out _ BXD.out) (fun hH1 => ?_)
      clear hK K hHeld lk
      refine wpAnyH_ready (rs := [6]) (by kernel_rfl) (by simp) ?_
      refine AllReadyH.cons rfl (fun K hK => ?_) AllReadyH.nil
      go_simp
      refine hK.out _ _ (SB.out _ JB0.out) (fun hH2 => ?_)
      clear hK K hH1
      have happ := HAP.out
      refine wpAnyH_ready (rs := [7]) (by kernel_rfl) (by simp) ?_
      refine AllReadyH.cons rfl (fun K hK => ?_) AllReadyH.nil
      rw [if_pos (by rfl)]
      refine op_app (.tmp 61) (.tmp 63) rfl rfl rfl rfl happ ?_
      simp only [Act.put, List.setIfInBounds_toArray, List.set_cons_zero, List.set_cons_succ]
      refine hK.out _ _ (SB.out _ JB.out) (fun hH3 => ?_)
      clear hK K hH2 happ HAP
      refine wpAnyH_take (i := 8) (v := ?_) rfl (by kernel_rfl) (by kernel_rfl) (by kernel_rfl) (fun _ _ _ h => h) (Or.inl ⟨by rfl, ?_⟩) (by assumption) ?_
      rotate_left
      · (intro w hSw; (try dsimp only at hSw); first | (go_simp; done) | (go_simp; with_reducible rfl))
      simp only [Act.put, List.getElem_toArray, List.getElem_cons_zero, List.getElem_cons_succ, List.setIfInBounds_toArray, List.set_cons_zero, List.set_cons_succ]
      refine wpAnyH_take (i := 9) (v := ?_) rfl (by kernel_rfl) (by kernel_rfl) (by kernel_rfl) (fun _ _ _ h => h) (Or.inl ⟨by rfl, ?_⟩) (by assumption) ?_
      rotate_left
      · (intro w hSw; (try dsimp only at hSw); first | (go_simp; done) | (go_simp; with_reducible rfl))
      simp only [Act.put, List.getElem_toArray, List.getElem_cons_zero, List.getElem_cons_succ, List.setIfInBounds_toArray, List.set_cons_zero, List.set_cons_succ]
      have f0 := JG.out.free 0
      have k0 := JG.out.cell 0
      refine wpAnyH_ready (rs := [10]) (by kernel_rfl) (by simp) ?_
      refine AllReadyH.cons rfl (fun K hK => ?_) AllReadyH.nil
      go_simp
      refine hK.out _ _ (SB.out _ JB6.out) (fun hH4 => ?_)
      clear hK K hH3 f0 k0
      refine wpAnyH_done (by kernel_rfl) ?_ _
      clear hH4
      obtain ⟨b0, b1, b2, b3, b4, b5⟩ := SB.out _ JB6.out
      generalize wn.setCell ⟨w.heap.size + 1, 0, none⟩ (.slice A5 n5 c5) = wm at *
      go_wp2_with fail
      refine EN.out.mono ?_
      rintro e w7 ⟨rfl, hm7, hc7⟩
      obtain ⟨ht7, hc7', hx7⟩ := ED.out _ _ hm7 hc7
      obtain ⟨A7, c7, hg7, -⟩ := ht7.open_
      have f2 := hg7.free 2
      have c2 := hg7.cell 2
      have T8 := Lib.hid (ht7.next (d0 + 1))
      have BQ := B5.out.trans (up B6.out B8.out B6.out.size |>.mono (by have := B5.out.size; omega))
      have BQ2 := BQ.trans (CC.out.to BQ.size)
      have BQ3 := BQ2.trans (hc7'.to BQ2.size)
      have BZ := Lib.hid (BQ3.trans (T8.out.2.to BQ3.size))
      clear b0 b1 b2 b3 b4 b5
      try rw [X.out] at hx7
      obtain ⟨b0, -⟩ := SB.out _ hx7
      have hwr : IntKind.i64.wrap (d0 + 1) = d0 + 1 := IntWalk.i64_in _ (by have := P9.out; omega)
      clear hm7 hc7 hc7' hx7 ht7 hg7 BQ BQ2 BQ3 EN ED
      go_wp2_with fail
      refine ⟨⟨k + 1, _, d0 + 1, rfl, by omega, by go_num, PS.out.symm, by rw [TKX.out, X.out]; exact T8.out.1, by rw [TKX.out]; exact GS.out, US.out (by first | rfl | trivial), P9.out.1, BZ.out⟩, by simp [intOf]; omega⟩
    · go_simp
      refine hK.out _ _ (SB.out _ JB0.out) (fun hH1 => ?_)
      clear hK K hHeld
      have lk := J0'.out
      refine wpAnyH_ready (rs := [4]) (by kernel_rfl) (by simp) ?_
      refine AllReadyH.cons rfl (fun K hK => ?_) AllReadyH.nil
      go_simp
      refine hK.out _ _ (SB.out _ JB0.out) (fun hH2 => ?_)
      clear hK K hH1 lk
      have happ := HAP.out
      refine wpAnyH_ready (rs := [7]) (by kernel_rfl) (by simp) ?_
      refine AllReadyH.cons rfl (fun K hK => ?_) AllReadyH.nil
      rw [if_pos (by rfl)]
      refine op_app (.tmp 61) (.tmp 63) rfl rfl rfl rfl happ ?_
      simp only [Act.put, List.setIfInBounds_toArray, List.set_cons_zero, List.set_cons_succ]
      refine hK.out _ _ (SB.out _ JB.out) (fun hH3 => ?_)
      clear hK K hH2 happ HAP
      refine wpAnyH_take (i := 8) (v := ?_) rfl (by kernel_rfl) (by kernel_rfl) (by kernel_rfl) (fun _ _ _ h => h) (Or.inl ⟨by rfl, ?_⟩) (by assumption) ?_
      rotate_left
      · (intro w hSw; (try dsimp only at hSw); first | (go_simp; done) | (go_simp; with_reducible rfl))
      simp only [Act.put, List.getElem_toArray, List.getElem_cons_zero, List.getElem_cons_succ, List.setIfInBounds_toArray, List.set_cons_zero, List.set_cons_succ]
      refine wpAnyH_take (i := 9) (v := ?_) rfl (by kernel_rfl) (by kernel_rfl) (by kernel_rfl) (fun _ _ _ h => h) (Or.inl ⟨by rfl, ?_⟩) (by assumption) ?_
      rotate_left
      · (intro w hSw; (try dsimp only at hSw); first | (go_simp; done) | (go_simp; with_reducible rfl))
      simp only [Act.put, List.getElem_toArray, List.getElem_cons_zero, List.getElem_cons_succ, List.setIfInBounds_toArray, List.set_cons_zero, List.set_cons_succ]
      have f0 := JG.out.free 0
      have k0 := JG.out.cell 0
      refine wpAnyH_ready (rs := [10]) (by kernel_rfl) (by simp) ?_
      refine AllReadyH.cons rfl (fun K hK => ?_) AllReadyH.nil
      go_simp
      refine hK.out _ _ (SB.out _ JB6.out) (fun hH4 => ?_)
      clear hK K hH3 f0 k0
      refine wpAnyH_done (by kernel_rfl) ?_ _
      clear hH4
      obtain ⟨b0, b1, b2, b3, b4, b5⟩ := SB.out _ JB6.out
      generalize wn.setCell ⟨w.heap.size + 1, 0, none⟩ (.slice A5 n5 c5) = wm at *
      go_wp2_with fail
      refine EN.out.mono ?_
      rintro e w7 ⟨rfl, hm7, hc7⟩
      obtain ⟨ht7, hc7', hx7⟩ := ED.out _ _ hm7 hc7
      obtain ⟨A7, c7, hg7, -⟩ := ht7.open_
      have f2 := hg7.free 2
      have c2 := hg7.cell 2
      have T8 := Lib.hid (ht7.next (d0 + 1))
      have BQ := B5.out.trans (up B6.out B8.out B6.out.size |>.mono (by have := B5.out.size; omega))
      have BQ2 := BQ.trans (CC.out.to BQ.size)
      have BQ3 := BQ2.trans (hc7'.to BQ2.size)
      have BZ := Lib.hid (BQ3.trans (T8.out.2.to BQ3.size))
      clear b0 b1 b2 b3 b4 b5
      try rw [X.out] at hx7
      obtain ⟨b0, -⟩ := SB.out _ hx7
      have hwr : IntKind.i64.wrap (d0 + 1) = d0 + 1 := IntWalk.i64_in _ (by have := P9.out; omega)
      clear hm7 hc7 hc7' hx7 ht7 hg7 BQ BQ2 BQ3 EN ED
      go_wp2_with fail
      refine ⟨⟨k + 1, _, d0 + 1, rfl, by omega, by go_num, PS.out.symm, by rw [TKX.out, X.out]; exact T8.out.1, by rw [TKX.out]; exact GS.out, US.out (by first | rfl | trivial), P9.out.1, BZ.out⟩, by simp [intOf]; omega⟩
  · obtain rfl : k = L.length := by omega
    rw [List.take_length] at *
    obtain ⟨Ag, cg, hbg, -⟩ := ht5.open_
    have f2 := hbg.free 2
    have c2 := hbg.cell 2
    have TE := Lib.hid (T5.out.next nx)
    have GE := Lib.hid (G5.out.next PN.out (by have := Q3.out; omega))
    have BE := Lib.hid (B5.out.trans (TE.out.2.to B5.out.size))
    clear ht5 hg5 hu5 hb5 hp hpn hbg
    go_wp2_with fail
    go_ret2
    exact .inl ⟨WN.out U5.out, _, _, rfl, TE.out.1, GE.out, BE.out⟩
end Go.Proofs.Ytckdfdnhoionnaa.tg
