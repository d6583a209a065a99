/-
  The queue: a row of items is sorted.
-/
import Derived.Test.YtmfhellpdpfoaaaQuJ
import Derived.Test.YtmfhellpdpfoaaaQuSort
namespace Go.Proofs.Ytmfhellpdpfoaaa.qu
open Go.RowKit
open base (ret_bool ret_int made up Blk Only)
open rk mk
set_option linter.unusedVariables false
set_option linter.unusedSimpArgs false
variable {w w' : World} {q m : Nat} {v : Value} {L M : List It} {ad : Int} {F : Nat → Prop}

instance : Inhabited It := ⟨z0⟩
set_option maxHeartbeats 1000000 in
/-- which of two is ahead: what it leaves, to the block -/
theorem order_lay (a b : It) (w : World) : Calls Try.prog 34 #[.agg #[.int .i64 a.1, .int .i64 a.2.1, .string a.2.2], .agg #[.int .i64 b.1, .int .i64 b.2.1, .string b.2.2]] w fun e w' => e = .returned (.int .i64 (oi a b)) ∧ ∃ n os, w' = Go.Sort.grow (w.drewN n) os := by
  obtain ⟨a0, a1, a2⟩ := a
  obtain ⟨b0, b1, b2⟩ := b
  have EX := Lib.hid (show ∃ n os, (w.alloc (.cells #[.int .i64 a0, .int .i64 a1, .string a2] 66)).alloc (.cells #[.int .i64 b0, .int .i64 b1, .string b2] 66) = Go.Sort.grow (w.drewN n) os from
    ⟨0, _, by rw [Go.Sort.alloc_eq_grow, Go.Sort.alloc_eq_grow, Go.Sort.grow_grow]; rfl⟩)
  have K1 := Lib.hid ((Blk.new w 66 #[.int .i64 a0, .int .i64 a1, .string a2]).alloc (.cells #[.int .i64 b0, .int .i64 b1, .string b2] 66))
  have K2 := Lib.hid (Blk.new (w.alloc (.cells #[.int .i64 a0, .int .i64 a1, .string a2] 66)) 66 #[.int .i64 b0, .int .i64 b1, .string b2])
  have HB := asz w (.cells #[.int .i64 a0, .int .i64 a1, .string a2] 66)
  rw [HB] at K2
  clear HB
  unfold oi
  dsimp only
  generalize hw1 : (w.alloc (.cells #[.int .i64 a0, .int .i64 a1, .string a2] 66)).alloc (.cells #[.int .i64 b0, .int .i64 b1, .string b2] 66) = w1 at *
  have a0c := K1.out.cell 0
  have a1c := K1.out.cell 1
  have b0c := K2.out.cell 0
  have b1c := K2.out.cell 1
  by_cases h : a1 = b1
  · have t1 : (a1 != b1) = false := by simpa using h
    rw [if_pos h]
    have C := Lib.hid (cmp_any a0 b0 w1)
    clear h
    go_enter Try.func34, Try.ntmps34
    go_wp2_with (rw [hw1])
    refine C.out.mono ?_
    rintro e w' ⟨rfl, rfl⟩
    clear hw1
    go_wp2_with fail
    go_ret
    exact ⟨rfl, EX.out⟩
  · have t1 : (a1 != b1) = true := by simpa using h
    rw [if_neg h]
    have C := Lib.hid (cmp_any a1 b1 w1)
    clear h
    go_enter Try.func34, Try.ntmps34
    go_wp2_with (rw [hw1])
    refine C.out.mono ?_
    rintro e w' ⟨rfl, rfl⟩
    clear hw1
    go_wp2_with fail
    go_ret
    exact ⟨rfl, EX.out⟩
theorem lt_of (a b : It) : ltOf oi a b = decide (lt a b) := lt_dec a b
theorem swo : Go.Sort.SWO (ltOf oi) where
  irrefl x := by rw [lt_of]; exact decide_eq_false (lt_irrefl x)
  trans x y z h1 h2 := by rw [lt_of] at *; exact decide_eq_true (lt_trans (of_decide_eq_true h1) (of_decide_eq_true h2))
  ntrans x y z h1 h2 := by rw [lt_of] at *; exact decide_eq_false (le_trans (of_decide_eq_false h2) (of_decide_eq_false h1))
theorem holds_of {b c g : Nat} {t : TypeId} (h : Own EQ w b t (.slice (some ⟨g, 0, none⟩) L.length c) L) : Go.Sort.HoldsK EQ.enc 3 w g 0 L.toArray := by
  intro j hj
  rw [Go.Sort.size_flatK, List.size_toArray] at hj
  have h0 : 0 < L.length := by
    rcases Nat.eq_zero_or_pos L.length with q | q
    · rw [q] at hj; omega
    · exact q
  have hi : j / 3 < L.length := by omega
  obtain ⟨g', c', cs, e, -, hb, -⟩ := h.full h0
  injection e with e
  injection e with e
  injection e with e
  subst e
  refine ⟨?_, hb.free _⟩
  obtain ⟨A, c', e, hl, _⟩ := h.open_
  injection e with e1 e2 e3
  obtain ⟨b', off, e4, -, hc⟩ := hl h0
  rw [← e1] at e4
  injection e4 with e4
  injection e4 with e5 e6
  subst e5 e6
  have x := hc (j / 3) hi (j % 3) (Nat.mod_lt _ (by decide))
  rw [Go.Sort.get_flatK _ _ _ _ (by rw [List.size_toArray]; exact hj)]
  rw [show 0 + j / 3 * EQ.k + j % 3 = 0 + j by show 0 + j / 3 * 3 + j % 3 = 0 + j; omega] at x
  rw [x]
  have hm : j % 3 < (EQ.enc L[j / 3]).length := by rw [EQ.len]; exact Nat.mod_lt _ (by decide)
  rw [show (L.toArray)[j / 3]! = L[j / 3] by rw [getElem!_pos _ _ (by simpa using hi)]; simp]
  rw [List.getElem?_eq_getElem hm, id, getElem!_pos (EQ.enc L[j / 3]) (j % 3) hm]
theorem lay_of {g : Nat} {d : Array It} (h : Go.Sort.HoldsK EQ.enc 3 w g 0 d) (hg : g < w.heap.size) : Lay EQ w (some ⟨g, 0, none⟩) d.toList := fun h0 => by
  refine ⟨g, 0, rfl, hg, fun i hi j hj => ?_⟩
  have hi' : i < d.size := by simpa using hi
  have x := (h.cell (i := i) (c := j) hi' hj).1
  show w.cell? ⟨g, 0 + i * 3 + j, none⟩ = _
  rw [x]
  have hm : j < (EQ.enc d.toList[i]).length := by rw [EQ.len]; exact hj
  have hm' : j < (EQ.enc d[i]).length := by rw [EQ.len]; exact hj
  rw [getElem!_pos d i hi', getElem!_pos (EQ.enc d[i]) j hm']
  simp only [Array.getElem_toList]
  rw [List.getElem?_eq_getElem hm']
theorem perm_of {d d' : Array It} (h : Go.Sort.PermIn 0 d.size d d') : d'.toList.Perm d.toList := by
  obtain ⟨hs, -, hp⟩ := h
  rw [Array.toList_extract, Array.toList_extract] at hp
  simp only [List.extract, List.drop_zero, Nat.sub_zero] at hp
  rwa [List.take_of_length_le (by simp; omega), List.take_of_length_le (by simp)] at hp
theorem world_of {g n : Nat} {d : Array It} {os : Array Obj} : Only (fun k => k = g) w (Go.Proofs.sortWorldK EQ.enc 3 w g 0 n d os) := by
  refine ⟨rfl, rfl, rfl, ?_, fun k hk hne => ?_⟩
  · simp [Go.Proofs.sortWorldK, Go.Sort.grow, Go.Sort.putRowK, Go.Sort.putRow, Go.Sort.mapBlock, Go.Sort.ahead]
  · have hne : g ≠ k := fun e => hne e.symm
    simp [Go.Proofs.sortWorldK, Go.Sort.grow, Go.Sort.putRowK, Go.Sort.putRow, Go.Sort.mapBlock, Go.Sort.ahead, Array.getElem?_append, hk, Array.getElem?_modify, Array.getElem_modify, hne]
theorem srt_pw {d : Array It} (h : Go.Sort.SortedIn (ltOf oi) 0 d.size d) : d.toList.Pairwise (fun a b => ¬ lt b a) := by
  rw [List.pairwise_iff_getElem]
  intro i j hi hj hij
  have hi' : i < d.size := by simpa using hi
  have hj' : j < d.size := by simpa using hj
  have := h i j (by omega) hij hj'
  rw [lt_of, getElem!_pos d i hi', getElem!_pos d j hj'] at this
  simpa using of_decide_eq_false this
/-- two sorted lists of the same items are one -/
theorem sd_uniq : ∀ {A B : List It}, A.Perm B → A.Pairwise (fun a b => ¬ lt b a) → B.Pairwise lt → A = B
  | A, [], h, _, _ => h.eq_nil
  | [], b :: B, h, _, _ => absurd h.length_eq (by simp)
  | a :: A, b :: B, h, ha, hb => by
    obtain ⟨ha1, ha2⟩ := List.pairwise_cons.1 ha
    obtain ⟨hb1, hb2⟩ := List.pairwise_cons.1 hb
    have e : a = b := Classical.byContradiction fun hne => by
      rcases List.mem_cons.1 (h.mem_iff.1 (show a ∈ a :: A by simp)) with q | q
      · exact hne q
      · rcases List.mem_cons.1 (h.mem_iff.2 (show b ∈ b :: B by simp)) with q' | q'
        · exact hne q'.symm
        · exact ha1 b q' (hb1 a q)
    subst e
    rw [sd_uniq h.cons_inv ha2 hb2]
theorem sort_any {A0 : Option Addr} {b c : Nat} {t : TypeId} (hO : Own EQ w b t (.slice A0 L.length c) L) (hM : M.Pairwise lt) (hp : L.Perm M) (hl : L.length ≤ 100000) :
    Calls Try.prog 39 #[.slice A0 L.length c, .func (.func 34) #[] #[]] w fun e w' => e = .returned (.tuple #[]) ∧ Lay EQ w' A0 M ∧ Only (fun k => ∃ g, A0 = some ⟨g, 0, none⟩ ∧ k = g) w w' := by
  rcases Nat.eq_zero_or_pos L.length with h0 | h0
  · have hL : L = [] := List.eq_nil_of_length_eq_zero h0
    subst hL
    have hM0 : M = [] := hp.symm.eq_nil
    subst hM0
    have H := AnyF.slices_SortFunc_none { Ytmfhellpdpfoaaa.sortF with } A0 c (.func (.func 34) #[] #[]) w
    change Calls Try.prog 39 _ _ _ at H
    refine H.mono ?_
    rintro e w' ⟨rfl, rfl⟩
    exact ⟨rfl, Lay.nil _ _ _, Only.refl _ _⟩
  · obtain ⟨g, c', cs, e, -, hb, -⟩ := hO.full h0
    injection e with e1 e2 e3
    subst e1
    have eg : ∀ args w, (callFunc 34 args).run Try.prog w = .ok (.enter 34 args) w := enters_of Try.func34 (by kernel_rfl) rfl
    have hH := holds_of hO
    have H := AnyQ.slices_SortFunc Ytmfhellpdpfoaaa.sortF 3 Try.isAgg66 Try.sizeOf66 EQ.enc EQ.len EQ.one oi swo 34 #[] g 0 c L.toArray w eg (fun n os dk _ x y => by
      have := order_lay x y (Go.Proofs.sortWorldK EQ.enc 3 w g 0 n dk os)
      simpa [EQ] using this) hH hb.lt (by simp; omega)
    change Calls Try.prog 39 _ _ _ at H
    rw [List.size_toArray] at H
    refine H.mono ?_
    rintro e w' ⟨rfl, d', n, os, hp', hs', rfl⟩
    have hsz : d'.size = L.toArray.size := hp'.1
    have hp2 : d'.toList.Perm L := perm_of (d := L.toArray) (by rw [List.size_toArray]; exact hp')
    have e1 : d'.toList = M := sd_uniq (hp2.trans hp) (srt_pw (by rw [hsz, List.size_toArray]; exact hs')) hM
    have hld := Go.Proofs.SWK.holds (dk := d') ⟨n, os, rfl⟩ hb.lt hH hsz
    rw [← e1]
    refine ⟨rfl, lay_of hld (Nat.lt_of_lt_of_le hb.lt world_of.size), world_of.mono (fun i _ e => ⟨g, rfl, e⟩)⟩
end Go.Proofs.Ytmfhellpdpfoaaa.qu
