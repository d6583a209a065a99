/-
  Rows of ints: searched, put in between, taken out of.
-/
import Derived.Test.YtemkhblogmdleaaDoorRk
import Derived.Test.YtemkhblogmdleaaDoorIsKeys
import Derived.StillTailTactics
namespace Go.Proofs.YtemkhblogmdleaaDoor.il
open Go.RowKit
open base (ret_bool ret_int made up Blk Only)
open rk
set_option linter.unusedVariables false
set_option linter.unusedSimpArgs false

def E1 : Enc Int := ⟨fun z => [.int .i64 z], 1, by decide, fun _ => rfl, by
  intro x v hv
  simp at hv
  rw [hv]
  rfl⟩
theorem TI : Ty E1 Tryd.prog 22 3 (.int .i64 0) 8 := ⟨Tryd.underlying22, by kernel_rfl, rfl, by decide⟩
theorem flat1 (l : List Int) : flat E1 l = l.map (Value.int .i64) := by
  unfold flat E1
  induction l with
  | nil => rfl
  | cons x l ih => simp only [List.flatMap_cons, List.map_cons, ih]; rfl
abbrev OwnI (w : World) (B : Nat) (v : Value) (l : List Int) : Prop := Own E1 w B 3 v l
theorem blk_setCells {g : Nat} {t : TypeId} : ∀ (vs : List Value) (o : Nat) (w : World) (cs : Array Value), Blk w g t cs → o + vs.length ≤ cs.size → ∃ cs', Blk (w.setCells g o vs) g t cs' ∧ cs'.size = cs.size ∧ ∀ m, cs'[m]? = if o ≤ m ∧ m < o + vs.length then vs[m - o]? else cs[m]?
  | [], o, w, cs, h, _ => ⟨cs, h, rfl, fun m => by rw [if_neg (by rintro ⟨a, b⟩; simp at b; omega)]⟩
  | v :: vs, o, w, cs, h, hl => by
    have hl2 : o + 1 + vs.length ≤ cs.size := by simp at hl; omega
    obtain ⟨cs', h1, h2, h3⟩ := blk_setCells vs (o + 1) (w.setCell ⟨g, o, none⟩ v) _ (h.put o v) (by rw [Array.size_setIfInBounds]; exact hl2)
    refine ⟨cs', h1, by rw [h2, Array.size_setIfInBounds], fun m => ?_⟩
    rw [h3 m]
    by_cases q : o + 1 ≤ m ∧ m < o + 1 + vs.length
    · rw [if_pos q, if_pos (by simp; omega), show m - o = (m - (o + 1)) + 1 by omega, List.getElem?_cons_succ]
    · rw [if_neg q]
      by_cases e : m = o
      · subst e
        rw [if_pos (by simp), Nat.sub_self, List.getElem?_cons_zero]
        simp [show m < cs.size by omega]
      · rw [if_neg (by simp; omega), Array.getElem?_setIfInBounds_ne (by omega)]
theorem only_setCells {S : Nat → Prop} {a : World} {g : Nat} (hg : S g ∨ a.heap.size ≤ g) : ∀ (vs : List Value) (o : Nat) (w : World), Only S a w → Only S a (w.setCells g o vs)
  | [], _, _, h => h
  | v :: vs, o, w, h => only_setCells hg vs (o + 1) _ (h.setCell (p := ⟨g, o, none⟩) hg v)
theorem shape_blk {w : World} {g : Nat} {t : TypeId} {cs : Array Value} (h : Blk w g t cs) : w.shape? g = some (t, cs.size) := by
  unfold Blk at h
  unfold World.shape?
  rw [h]
/-- what is told of a row whose block is known -/
theorem own_full {w : World} {B g c : Nat} {n : Nat} {l : List Int} (h : OwnI w B (.slice (some ⟨g, 0, none⟩) n c) l) : ∃ cs, B ≤ g ∧ Blk w g 3 cs ∧ n = l.length ∧ l.length ≤ c ∧ c ≤ maxLen ∧ cs.size = c ∧ ∀ j (hj : j < l.length), cs[j]? = some (.int .i64 l[j]) := by
  rcases h.2 with ⟨h1, _⟩ | ⟨g', cap, cur, h1, hb, hg, hnc, hcm, hcs, htake⟩
  · cases h1
  · injection h1 with h2 h3 h4
    injection h2 with h2
    injection h2 with h2
    subst h2 h4
    refine ⟨cur, hb, hg, h3, hnc, hcm, by rw [hcs]; exact Nat.mul_one _, fun j hj => ?_⟩
    have e : (cur.toList.take (l.length * E1.k))[j]? = some (.int .i64 l[j]) := by
      rw [htake, flat1, List.getElem?_map, List.getElem?_eq_getElem hj]
      rfl
    rw [List.getElem?_take, if_pos (by show j < l.length * 1; omega)] at e
    rw [← e]
    simp
theorem own_mk {w : World} {B g c : Nat} {l : List Int} {cs : Array Value} (hB : B ≤ g) (hb : Blk w g 3 cs) (h1 : l.length ≤ c) (h2 : c ≤ maxLen) (h3 : cs.size = c) (h4 : ∀ j (hj : j < l.length), cs[j]? = some (.int .i64 l[j])) : OwnI w B (.slice (some ⟨g, 0, none⟩) l.length c) l := by
  refine ⟨flat_length E1 l, .inr ⟨g, c, cs, rfl, hB, hb, h1, h2, by rw [h3]; exact (Nat.mul_one _).symm, ?_⟩⟩
  apply List.ext_getElem?
  intro m
  rw [List.getElem?_take, flat1, List.getElem?_map]
  by_cases hm : m < l.length
  · rw [if_pos (by show m < l.length * 1; omega), Array.getElem?_toList, h4 m hm, List.getElem?_eq_getElem hm]
    rfl
  · rw [if_neg (by show ¬ m < l.length * 1; omega), List.getElem?_eq_none (by omega)]
    rfl
theorem getD_cell {w : World} {g : Nat} {t : TypeId} {cs : Array Value} {l : List Int} (hb : Blk w g t cs) (h : ∀ j (hj : j < l.length), cs[j]? = some (.int .i64 l[j])) : ∀ j, j < l.length → w.cell? ⟨g, 0 + j, none⟩ = some (.int .i64 (l.getD j 0)) := fun j hj => by
  rw [Nat.zero_add, hb.cell, h j hj, List.getD_eq_getElem?_getD, List.getElem?_eq_getElem hj]
  rfl

/-- the place of a number in a rising list -/
def pl (l : List Int) (p : Int) : Nat := l.countP (fun x => decide (x < p))
theorem pl_le (l : List Int) (p : Int) : pl l p ≤ l.length := List.countP_le_length
theorem search_any (B g c : Nat) (l : List Int) (p : Int) (w : World) (h : OwnI w B (.slice (some ⟨g, 0, none⟩) l.length c) l) (hs : l.Pairwise (· < ·)) (hl : l.length ≤ 100000) :
    Calls Tryd.prog 32 #[.slice (some ⟨g, 0, none⟩) l.length c, .int .i64 p] w fun e w' => e = .returned (.tuple #[.int .i64 (pl l p : Nat), .bool (l.contains p)]) ∧ ∃ q, w' = w.drewN q := by
  obtain ⟨cs, _, hb, _, _, _, _, hc⟩ := own_full h
  have := Any.slices_BinarySearch_int YtemkhblogmdleaaDoor.searchA g 0 l.length c l p w (Nat.le_refl _) (by omega) (getD_cell hb hc) (by rw [List.take_length]; exact hs.imp (fun h => Int.le_of_lt h))
  rw [List.take_length] at this
  exact this
set_option maxHeartbeats 400000 in
theorem search_nil (p : Int) (w : World) :
    Calls Tryd.prog 32 #[.slice none 0 0, .int .i64 p] w fun e w' => e = .returned (.tuple #[.int .i64 0, .bool false]) ∧ w' = w := by
  go_enter Tryd.func32, Tryd.ntmps32
  go_wp2_with fail
  go_loop [7, 8] (fun i j => i = .int .i64 0 ∧ j = .int .i64 0) (fun _ _ => 0)
  case atStart => exact ⟨rfl, rfl⟩
  case round =>
    obtain ⟨rfl, rfl⟩ := hrel
    go_wp2_with fail
    go_ret2
    exact ⟨rfl, rfl⟩

/-- one is taken out -/
theorem delete_any (B g c i : Nat) (l : List Int) (w : World) (h : OwnI w B (.slice (some ⟨g, 0, none⟩) l.length c) l) (hi : i < l.length) :
    Calls Tryd.prog 34 #[.slice (some ⟨g, 0, none⟩) l.length c, .int .i64 i, .int .i64 ((i : Int) + 1)] w fun e w' => e = .returned (.slice (some ⟨g, 0, none⟩) (l.eraseIdx i).length c) ∧ OwnI w' B (.slice (some ⟨g, 0, none⟩) (l.eraseIdx i).length c) (l.eraseIdx i) ∧ Only (fun k => k = g) w w' := by
  obtain ⟨cs, hB, hb, _, h1, h2, h3, hc⟩ := own_full h
  have h2' : c ≤ 9223372036854775807 := by unfold maxLen at h2; omega
  have K := Any.slices_Delete_int_cells YtemkhblogmdleaaDoor.deleteA g 0 l.length c i (i + 1) l w (Nat.le_refl _) h1 h2' (by omega) (by omega) (getD_cell hb hc) (fun j _ => hb.free _)
  rw [List.take_length] at K
  refine Calls.mono K ?_
  rintro e w' ⟨rfl, q, rfl⟩
  have hel : (l.eraseIdx i).length = l.length - 1 := by rw [List.length_eraseIdx_of_lt hi]
  obtain ⟨cs', hb', hz, hg⟩ := blk_setCells ((l.take i ++ l.drop (i + 1) ++ List.replicate (i + 1 - i) 0).map (Value.int .i64)) 0 (w.drewN q) cs (hb.drewN q) (by simp; omega)
  refine ⟨by rw [hel, show i + 1 - i = 1 by omega], own_mk hB hb' (by omega) h2 (by omega) (fun j hj => ?_), only_setCells (S := fun k => k = g) (.inl rfl) _ _ _ ((Only.refl _ w).drewN q)⟩
  rw [hg j, if_pos (by simp; omega), Nat.sub_zero, List.getElem?_map, List.getElem?_append_left (by simp; omega), ← List.eraseIdx_eq_take_drop_succ, List.getElem?_eq_getElem hj]
  rfl

def ins (l : List Int) (i : Nat) (p : Int) : List Int := l.take i ++ p :: l.drop i
theorem ins_length (l : List Int) {i : Nat} (p : Int) (hi : i ≤ l.length) : (ins l i p).length = l.length + 1 := by
  unfold ins
  simp
  omega
theorem ins_get (l : List Int) {i : Nat} (p : Int) (hi : i ≤ l.length) (j : Nat) : (ins l i p)[j]? = if j < i then l[j]? else if j = i then some p else l[j - 1]? := by
  unfold ins
  by_cases h : j < i
  · rw [if_pos h, List.getElem?_append_left (by simp; omega), List.getElem?_take, if_pos h]
  · rw [if_neg h, List.getElem?_append_right (by simp; omega), List.length_take, Nat.min_eq_left hi]
    by_cases e : j = i
    · subst e
      simp
    · rw [if_neg e, show j - i = (j - i - 1) + 1 by omega, List.getElem?_cons_succ, List.getElem?_drop]
      congr 1
      omega
/-- of what there was only the row's own block may have turned; it lies where it lay, or in a new block -/
structure Chg (w w' : World) (v v' : Value) : Prop where
  only : Only (fun k => v.ownBlock = some k) w w'
  at_ : v'.ownBlock = v.ownBlock ∨ ∃ k, v'.ownBlock = some k ∧ w.heap.size ≤ k
def InsP (B : Nat) (v : Value) (l : List Int) (w : World) (e : Ending) (w' : World) : Prop := ∃ v', e = .returned v' ∧ OwnI w' B v' l ∧ Chg w w' v v'
theorem grown_only {w w' : World} {v v' : Value} (h : Grew w w' v v') : Chg w w' v v' := ⟨Only.grown (Only.refl _ w) h.grown (fun i _ e => e), by
  rcases h.at_ with e | e
  · exact .inl e
  · exact .inr ⟨_, e, Nat.le_refl _⟩⟩
set_option maxHeartbeats 1000000 in
set_option maxRecDepth 100000 in
/-- put behind all -/
theorem insert_end (B bx : Nat) (v : Value) (l : List Int) (p : Int) (w : World) (h : OwnI w B v l) (hb : Blk w bx 3 #[.int .i64 p]) (hl : l.length ≤ 100000) (hB : B ≤ w.heap.size) :
    Calls Tryd.prog 33 #[v, .int .i64 l.length, .slice (some ⟨bx, 0, none⟩) 1 1] w (InsP B v (l ++ [p]) w) := by
  have LY := Lib.hid (Lay.lit (E := E1) w p 3 bx hb)
  have O0 := Lib.hid h
  obtain ⟨A, c, rfl, -, hle, hmx⟩ := h.open_
  clear h hb
  cases A with
  | none =>
    go_enter Tryd.func33, Tryd.ntmps33
    go_wp2_with ((with_reducible show wpList _ _ _ (⟨some 25, _, _, _, _, _⟩ :: _) _ _); go_must (refine wp_app TI (c := 1) (n := 1) rfl _ _ rfl rfl rfl rfl rfl O0.out LY.out (by simp; omega) hB ?_))
    all_goals
      intro v2 w2 own2 grew2
      have O2 := Lib.hid (And.intro own2 (grown_only grew2))
      clear own2 grew2
      go_wp2_with fail
      go_ret
      exact ⟨_, rfl, O2.out.1, ⟨O2.out.2.only, O2.out.2.at_⟩⟩
  | some a =>
    obtain ⟨ab, ao, asp⟩ := a
    go_enter Tryd.func33, Tryd.ntmps33
    go_wp2_with ((with_reducible show wpList _ _ _ (⟨some 25, _, _, _, _, _⟩ :: _) _ _); go_must (refine wp_app TI (c := 1) (n := 1) rfl _ _ rfl rfl rfl rfl rfl O0.out LY.out (by simp; omega) hB ?_))
    all_goals
      intro v2 w2 own2 grew2
      have O2 := Lib.hid (And.intro own2 (grown_only grew2))
      clear own2 grew2
      go_wp2_with fail
      go_ret
      exact ⟨_, rfl, O2.out.1, ⟨O2.out.2.only, O2.out.2.at_⟩⟩
theorem one_map (l : List Int) : ∀ v ∈ l.map (Value.int .i64), v.oneCell' = true := by
  intro v hv
  obtain ⟨n, _, rfl⟩ := List.mem_map.1 hv
  rfl
/-- put in between -/
theorem insert_in (B bx g c i : Nat) (l : List Int) (p : Int) (w : World) (h : OwnI w B (.slice (some ⟨g, 0, none⟩) l.length c) l) (hb : Blk w bx 3 #[.int .i64 p]) (hne : bx ≠ g) (hi : i < l.length) (hl : l.length ≤ 100000) (hB : B ≤ w.heap.size) :
    Calls Tryd.prog 33 #[.slice (some ⟨g, 0, none⟩) l.length c, .int .i64 i, .slice (some ⟨bx, 0, none⟩) 1 1] w (InsP B (.slice (some ⟨g, 0, none⟩) l.length c) (ins l i p) w) := by
  obtain ⟨cs, hgB, hg, _, h1, h2, h3, hc⟩ := own_full h
  have h2' : c ≤ 9223372036854775807 := by unfold maxLen at h2; omega
  have c1 : ∀ j v, (l.map (Value.int .i64))[j]? = some v → w.cell? ⟨g, 0 + j, none⟩ = some v := fun j v hj => by
    rw [List.getElem?_map] at hj
    have hj2 : j < l.length := by
      rcases Nat.lt_or_ge j l.length with q | q
      · exact q
      · rw [List.getElem?_eq_none q] at hj
        cases hj
    rw [List.getElem?_eq_getElem hj2] at hj
    cases hj
    rw [Nat.zero_add, hg.cell, hc j hj2]
  have c2 : ∀ j v, [Value.int .i64 p][j]? = some v → w.cell? ⟨bx, 0 + j, none⟩ = some v := fun j v hj => by
    rw [Nat.zero_add, hb.cell]
    simpa using hj
  by_cases hr : l.length + 1 ≤ c
  · have K := Any2.slices_Insert_int_shift YtemkhblogmdleaaDoor.insertA g 0 l.length c i bx 0 1 1 (l.map (Value.int .i64)) [.int .i64 p] w hi (by omega) hr h2' hne (by simp) rfl c1
      (fun j hj => by rw [Nat.zero_add, hg.cell, Array.getElem?_eq_getElem (by omega)]; rfl) (fun j _ => hg.free _) c2 (one_map l) (by simp [Value.oneCell']) 3 3 1 cs.size (shape_blk hb) (shape_blk hg) (by omega) (hb.free _) (hb.free _)
    refine Calls.mono K ?_
    rintro e w' ⟨rfl, rfl⟩
    obtain ⟨k1, hb1, hz1, hg1⟩ := blk_setCells ((l.map (Value.int .i64)).drop i) (0 + (i + 1)) w.drew cs (hg.drewN 1) (by simp; omega)
    obtain ⟨k2, hb2, hz2, hg2⟩ := blk_setCells [Value.int .i64 p] (0 + i) _ k1 hb1 (by simp; omega)
    have hil := ins_length l p (Nat.le_of_lt hi)
    refine ⟨_, rfl, ?_, ⟨only_setCells (S := fun k => some g = some k) (.inl rfl) _ _ _ (only_setCells (S := fun k => some g = some k) (.inl rfl) _ _ _ ((Only.refl _ w).drewN 1)), .inl rfl⟩⟩
    rw [← hil]
    refine own_mk hgB hb2 (by omega) h2 (by omega) (fun j hj => ?_)
    have hx := ins_get l p (Nat.le_of_lt hi) j
    rw [List.getElem?_eq_getElem hj] at hx
    rw [hg2 j]
    by_cases e1 : j < i
    · rw [if_pos e1, List.getElem?_eq_getElem (by omega)] at hx
      rw [if_neg (by simp; omega), hg1 j, if_neg (by simp; omega), hc j (by omega)]
      injection hx with hx
      rw [hx]
    · by_cases e2 : j = i
      · subst e2
        rw [if_neg e1, if_pos rfl] at hx
        injection hx with hx
        rw [if_pos (by simp), hx]
        simp
      · rw [if_neg e1, if_neg e2, List.getElem?_eq_getElem (by omega)] at hx
        injection hx with hx
        rw [if_neg (by simp; omega), hg1 j, if_pos (by simp; omega), List.getElem?_drop, List.getElem?_map, show i + (j - (0 + (i + 1))) = j - 1 by omega, List.getElem?_eq_getElem (by omega), hx]
        rfl
  · have K := Any2.slices_Insert_int_grow YtemkhblogmdleaaDoor.insertA g 0 l.length c i bx 0 1 1 (l.map (Value.int .i64)) [.int .i64 p] w hi (by omega) h1 (by omega) (by omega) (by simp) rfl c1 c2 (one_map l) (by simp [Value.oneCell'])
    refine Calls.mono K ?_
    rintro e w' ⟨rfl, rfl⟩
    have hge := grownCap_ge w (l.length + 1) c 3
    have hle := grownCap_le_maxLen w (l.length + 1) c 3 (by unfold maxLen; omega)
    have hty : YtemkhblogmdleaaDoor.insertA_ren.t 3 = 3 := by kernel_rfl
    rw [hty]
    generalize grownCap w (l.length + 1) c 3 = cap at hge hle ⊢
    obtain ⟨cs0, hcs0⟩ : ∃ x, x = ((l.map (Value.int .i64)).take i).toArray ++ Builtin.zeroCells (Value.int .i64 0).cells (l.length + 1 - i) ++ Builtin.zeroCells (Value.int .i64 0).cells (cap - (l.length + 1)) := ⟨_, rfl⟩
    have hsz0 : cs0.size = cap := by
      rw [hcs0]
      simp [size_zeroCells, Value.cells]
      omega
    have hlow : ∀ j (hj : j < i), cs0[j]? = some (.int .i64 (l[j]'(by omega))) := fun j hj => by
      rw [hcs0, Array.getElem?_append_left (by simp [size_zeroCells, Value.cells]; omega), Array.getElem?_append_left (by simp; omega)]
      simp [List.getElem?_take, hj, List.getElem?_eq_getElem (show j < l.length by omega)]
    rw [← hcs0]
    have hb0 : Blk (w.alloc (.cells cs0 3)) w.heap.size 3 cs0 := Blk.new _ _ _
    obtain ⟨k1, hb1, hz1, hg1⟩ := blk_setCells [Value.int .i64 p] i (w.alloc (.cells cs0 3)).drew cs0 (hb0.drewN 1) (by simp; omega)
    obtain ⟨k2, hb2, hz2, hg2⟩ := blk_setCells ((l.map (Value.int .i64)).drop i) (i + 1) _ k1 (hb1.drewN 1) (by simp; omega)
    have hil := ins_length l p (Nat.le_of_lt hi)
    refine ⟨_, rfl, ?_, ⟨only_setCells (.inr (Nat.le_refl _)) _ _ _ ((only_setCells (.inr (Nat.le_refl _)) _ _ _ (((Only.refl _ w).alloc _).drewN 1)).drewN 1), .inr ⟨_, rfl, Nat.le_refl _⟩⟩⟩
    rw [← hil]
    refine own_mk hB hb2 (by omega) hle (by omega) (fun j hj => ?_)
    have hx := ins_get l p (Nat.le_of_lt hi) j
    rw [List.getElem?_eq_getElem hj] at hx
    rw [hg2 j]
    by_cases e1 : j < i
    · rw [if_pos e1, List.getElem?_eq_getElem (by omega)] at hx
      injection hx with hx
      rw [if_neg (by simp; omega), hg1 j, if_neg (by simp; omega), hlow j e1, hx]
    · by_cases e2 : j = i
      · subst e2
        rw [if_neg e1, if_pos rfl] at hx
        injection hx with hx
        rw [if_neg (by omega), hg1 j, if_pos (by simp), hx]
        simp
      · rw [if_neg e1, if_neg e2, List.getElem?_eq_getElem (by omega)] at hx
        injection hx with hx
        rw [if_pos (by simp; omega), List.getElem?_drop, List.getElem?_map, show i + (j - (i + 1)) = j - 1 by omega, List.getElem?_eq_getElem (by omega), hx]
        rfl
theorem ins_end (l : List Int) (p : Int) : ins l l.length p = l ++ [p] := by
  unfold ins
  simp
/-- wherever it is put -/
theorem insert_any (B bx i : Nat) (v : Value) (l : List Int) (p : Int) (w : World) (h : OwnI w B v l) (hb : Blk w bx 3 #[.int .i64 p]) (hne : v.ownBlock ≠ some bx) (hi : i ≤ l.length) (hl : l.length ≤ 100000) (hB : B ≤ w.heap.size) :
    Calls Tryd.prog 33 #[v, .int .i64 i, .slice (some ⟨bx, 0, none⟩) 1 1] w (InsP B v (ins l i p) w) := by
  by_cases e : i = l.length
  · subst e
    rw [ins_end]
    exact insert_end B bx v l p w h hb hl hB
  · obtain ⟨g, c, cs, rfl, _⟩ := h.full (by omega)
    exact insert_in B bx g c i l p w h hb (fun q => hne (by rw [q]; rfl)) (by omega) hl hB
/-- wherever it is searched -/
def SeaP (l : List Int) (p : Int) (w : World) (e : Ending) (w' : World) : Prop := ∃ b, e = .returned (.tuple #[.int .i64 (pl l p : Nat), .bool b]) ∧ ∃ q, w' = w.drewN q
theorem search_both (B : Nat) (v : Value) (l : List Int) (p : Int) (w : World) (h : OwnI w B v l) (hs : l.Pairwise (· < ·)) (hl : l.length ≤ 100000) :
    Calls Tryd.prog 32 #[v, .int .i64 p] w (SeaP l p w) := by
  rcases h.2 with ⟨rfl, h0⟩ | ⟨g, c, cs, rfl, _⟩
  · have : l = [] := List.eq_nil_of_length_eq_zero h0
    subst this
    exact (search_nil p w).mono fun e w' ⟨he, hw⟩ => ⟨false, he, 0, by rw [hw]; rfl⟩
  · exact (search_any B g c l p w h hs hl).mono fun e w' ⟨he, hw⟩ => ⟨_, he, hw⟩
theorem Own.empty1 (w : World) (t : TypeId) : Own E1 (w.alloc (.cells #[] t)) w.heap.size t (.slice (some ⟨w.heap.size, 0, none⟩) 0 0) [] :=
  ⟨rfl, .inr ⟨w.heap.size, 0, #[], rfl, Nat.le_refl _, heap_alloc_new w _, by simp, by unfold maxLen; omega, by simp, rfl⟩⟩
theorem eql_nil (w : World) (a : Option Addr) (n c : Nat) : (binOp .eql 22 (.slice a n c) (.slice none 0 0)).run Tryd.prog w = .ok (.bool a.isNone) w := by
  simp only [binOp]
  simp [Op.equal, Op.maxDepth, run_equalIn_slice_nil w 9999 22 3 a n c Tryd.underlying22]
def NewP (L : List Int) (w : World) (e : Ending) (w' : World) : Prop := ∃ v, e = .returned v ∧ OwnI w' w.heap.size v L ∧ Below w.heap.size w w'
set_option maxRecDepth 100000 in
set_option maxHeartbeats 1000000 in
theorem clone_any (A : Option Addr) (c : Nat) (L : List Int) (w : World) (hA : Lay E1 w A L) (hl : L.length ≤ 100000) :
    Calls Tryd.prog 27 #[.slice A L.length c] w (NewP L w) := by
  cases A with
  | none =>
    have hL : L = [] := by
      cases L with
      | nil => rfl
      | cons d L =>
        obtain ⟨b, off, e, -⟩ := hA (by simp)
        cases e
    subst hL
    have en := eql_nil w none 0 c
    dsimp only [List.length_nil, Option.isNone] at en ⊢
    go_enter Tryd.func27, Tryd.ntmps27
    go_wp2_with fail
    go_ret
    exact ⟨_, rfl, Own.nil _ _ _, Below.refl _ _⟩
  | some ad =>
    have OE := Lib.hid (Own.empty1 w 3)
    have LY := Lib.hid (hA.below (made w (.cells #[] 3)))
    have B6 := Lib.hid (made w (.cells #[] 3))
    clear hA
    have en := eql_nil w (some ad) L.length c
    dsimp only [Option.isNone] at en
    go_enter Tryd.func27, Tryd.ntmps27
    go_wp2_with ((with_reducible show wpList _ _ _ (⟨some 7, _, _, _, _, _⟩ :: _) _ _); go_must (refine wp_app TI (c := c) (n := L.length) rfl _ _ rfl rfl rfl rfl rfl OE.out LY.out (by simp; omega) B6.out.size ?_))
    intro v7 w7 own7 gr7
    have B7 := Lib.hid (B6.out.trans (gr7.below OE.out B6.out.size))
    have O7 := Lib.hid own7
    obtain ⟨A2, c2, rfl, -⟩ := own7.open_
    clear own7 gr7 OE LY B6
    go_wp2_with fail
    go_ret
    exact ⟨_, rfl, O7.out, B7.out⟩
theorem clone_own (B : Nat) (v : Value) (L : List Int) (w : World) (h : OwnI w B v L) (hl : L.length ≤ 100000) :
    Calls Tryd.prog 27 #[v] w (NewP L w) := by
  obtain ⟨A, c, rfl, hA, -⟩ := h.open_
  exact clone_any A c L w hA hl
end Go.Proofs.YtemkhblogmdleaaDoor.il
