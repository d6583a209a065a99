/-
  Set and wrong of whatever arguments; Equal of two houses with the same lists; new lists are right.
-/
import Derived.Test.YtemkhblogmdleaaDoorAccQ1
import Derived.Test.YtemkhblogmdleaaDoorAccQ2
import Derived.Test.YtemkhblogmdleaaDoorAccQ3
namespace Go.Proofs.YtemkhblogmdleaaDoor.acw
open Go.RowKit
open base (ret_bool ret_int made up Blk Only Nums)
open rk il
set_option linter.unusedVariables false
set_option linter.unusedSimpArgs false

theorem wrong_bad (o : Int) (A : Option Addr) (n ca : Nat) (B : Option Addr) (nb cb : Nat) (C : Option Addr) (nc cc : Nat) (z p : Int) (on : Bool) (w : World) (h : z < 1 ∨ 3 < z ∨ p < 1 ∨ 256 < p) :
    Calls Tryd.prog 20 #[.agg #[.int .i64 o, .slice A n ca, .slice B nb cb, .slice C nc cc], .int .i64 z, .int .i64 p, .bool on] w fun e w' => e = .returned (.int .i64 11) ∧ Below w.heap.size w w' := by
  have HB := Lib.hid (made w (.cells #[.int .i64 o, .slice A n ca, .slice B nb cb, .slice C nc cc] 24))
  by_cases q1 : z < 1
  · have k1 : decide (z < 1) = true := decide_eq_true q1
    clear h q1
    go_enter Tryd.func20, Tryd.ntmps20
    go_wp2_with fail
    go_ret
    exact ⟨rfl, HB.out⟩
  have k1 : decide (z < 1) = false := decide_eq_false q1
  by_cases q2 : 3 < z
  · have k2 : decide (z > 3) = true := decide_eq_true q2
    clear h q1 q2
    go_enter Tryd.func20, Tryd.ntmps20
    go_wp2_with fail
    go_ret
    exact ⟨rfl, HB.out⟩
  have k2 : decide (z > 3) = false := decide_eq_false q2
  by_cases q3 : p < 1
  · have k3 : decide (p < 1) = true := decide_eq_true q3
    clear h q1 q2 q3
    go_enter Tryd.func20, Tryd.ntmps20
    go_wp2_with fail
    go_ret
    exact ⟨rfl, HB.out⟩
  have k3 : decide (p < 1) = false := decide_eq_false q3
  have k4 : decide (p > 256) = true := decide_eq_true (by omega)
  clear h q1 q2 q3
  go_enter Tryd.func20, Tryd.ntmps20
  go_wp2_with fail
  go_ret
  exact ⟨rfl, HB.out⟩
set_option maxHeartbeats 2000000 in
theorem hequal_eq (o : Int) (A : Option Addr) (ca : Nat) (la : List Int) (B : Option Addr) (cb : Nat) (lb : List Int) (C : Option Addr) (cc : Nat) (lc : List Int) (A2 : Option Addr) (ca2 : Nat) (B2 : Option Addr) (cb2 : Nat) (C2 : Option Addr) (cc2 : Nat) (w : World) (h : ac.Ls w A la B lb C lc) (h2 : ac.Ls w A2 la B2 lb C2 lc) :
    Calls Tryd.prog 18 #[.agg #[.int .i64 o, .slice A la.length ca, .slice B lb.length cb, .slice C lc.length cc], .agg #[.int .i64 o, .slice A2 la.length ca2, .slice B2 lb.length cb2, .slice C2 lc.length cc2]] w (ac.SmP true w) := by
  have hm0 := made w (.cells #[.int .i64 o, .slice A la.length ca, .slice B lb.length cb, .slice C lc.length cc] 24)
  have hm := hm0.alloc (by rw [ac.asz]; omega) (.cells #[.int .i64 o, .slice A2 la.length ca2, .slice B2 lb.length cb2, .slice C2 lc.length cc2] 24)
  have hs2 : ((w.alloc (.cells #[.int .i64 o, .slice A la.length ca, .slice B lb.length cb, .slice C lc.length cc] 24)).alloc (.cells #[.int .i64 o, .slice A2 la.length ca2, .slice B2 lb.length cb2, .slice C2 lc.length cc2] 24)).heap.size = w.heap.size + 2 := by rw [ac.asz, ac.asz]
  have bx : Blk ((w.alloc (.cells #[.int .i64 o, .slice A la.length ca, .slice B lb.length cb, .slice C lc.length cc] 24)).alloc (.cells #[.int .i64 o, .slice A2 la.length ca2, .slice B2 lb.length cb2, .slice C2 lc.length cc2] 24)) w.heap.size 24 #[.int .i64 o, .slice A la.length ca, .slice B lb.length cb, .slice C lc.length cc] := (Blk.new _ _ _).alloc _
  have by_ : Blk ((w.alloc (.cells #[.int .i64 o, .slice A la.length ca, .slice B lb.length cb, .slice C lc.length cc] 24)).alloc (.cells #[.int .i64 o, .slice A2 la.length ca2, .slice B2 lb.length cb2, .slice C2 lc.length cc2] 24)) (w.heap.size + 1) 24 #[.int .i64 o, .slice A2 la.length ca2, .slice B2 lb.length cb2, .slice C2 lc.length cc2] := by
    have := Blk.new (w.alloc (.cells #[.int .i64 o, .slice A la.length ca, .slice B lb.length cb, .slice C lc.length cc] 24)) 24 #[.int .i64 o, .slice A2 la.length ca2, .slice B2 lb.length cb2, .slice C2 lc.length cc2]
    rw [ac.asz] at this
    exact this
  have H1 := Lib.hid hm
  have BX := Lib.hid bx
  have BY := Lib.hid by_
  have LS := Lib.hid (h.keep hm)
  have LT := Lib.hid (h2.keep hm)
  have KX := Lib.hid (fun ws h => BX.out.below (w' := ws) h BX.out.lt)
  have KY := Lib.hid (fun ws h => BY.out.below (w' := ws) h BY.out.lt)
  have b0 := bx.cell 0
  have b1 := bx.cell 1
  have b2 := bx.cell 2
  have b3 := bx.cell 3
  have a0 := by_.cell 0
  have a1 := by_.cell 1
  have a2 := by_.cell 2
  have a3 := by_.cell 3
  have RA := Lib.hid (fun ws h => ac.equal_eq A ca la A2 ca2 ws (LS.out.keep h).a (LT.out.keep h).a LS.out.la)
  have RB := Lib.hid (fun ws h => ac.equal_eq B cb lb B2 cb2 ws (LS.out.keep h).b (LT.out.keep h).b LS.out.lb)
  have RC := Lib.hid (fun ws h => ac.equal_eq C cc lc C2 cc2 ws (LS.out.keep h).c (LT.out.keep h).c LS.out.lc)
  clear hm0 hm bx by_ h h2 BX BY LS LT hs2
  go_enter Tryd.func18, Tryd.ntmps18
  go_wp2_with fail
  generalize hw2 : (w.alloc (.cells #[.int .i64 o, .slice A la.length ca, .slice B lb.length cb, .slice C lc.length cc] 24)).alloc (.cells #[.int .i64 o, .slice A2 la.length ca2, .slice B2 lb.length cb2, .slice C2 lc.length cc2] 24) = w1 at *
  refine (RA.out _ (Below.refl _ _)).mono ?_
  rintro e w2 ⟨rfl, hb2⟩
  have BB2 := Lib.hid hb2
  have y := KX.out _ hb2
  have x := KY.out _ hb2
  have c0 := y.cell 0
  have c1 := y.cell 1
  have c2 := y.cell 2
  have c3 := y.cell 3
  have d0 := x.cell 0
  have d1 := x.cell 1
  have d2 := x.cell 2
  have d3 := x.cell 3
  clear hb2 b0 b1 b2 b3 a0 a1 a2 a3 x y RA hw2
  go_wp2_with fail
  refine (RB.out _ BB2.out).mono ?_
  rintro e w3 ⟨rfl, hb3⟩
  have B3 := Lib.hid (up BB2.out hb3 BB2.out.size)
  have y := KX.out _ B3.out
  have x := KY.out _ B3.out
  have b0 := y.cell 0
  have b1 := y.cell 1
  have b2 := y.cell 2
  have b3 := y.cell 3
  have a0 := x.cell 0
  have a1 := x.cell 1
  have a2 := x.cell 2
  have a3 := x.cell 3
  clear hb3 c0 c1 c2 c3 d0 d1 d2 d3 x y RB
  go_wp2_with fail
  refine (RC.out _ B3.out).mono ?_
  rintro e w4 ⟨rfl, hb4⟩
  have B4 := Lib.hid (up B3.out hb4 B3.out.size)
  clear hb4 b0 b1 b2 b3 a0 a1 a2 a3 RC
  go_wp2_with fail
  go_ret
  exact ⟨rfl, up H1.out B4.out H1.out.size⟩

def sel (z : Int) (la lb lc : List Int) : List Int := if z = 1 then la else if z = 2 then lb else lc
def wrongAny (o : Int) (la lb lc : List Int) (z p : Int) (on : Bool) : Int := if z < 1 ∨ 3 < z ∨ p < 1 ∨ 256 < p then 11 else wrongOf o p on (ac.on (sel z la lb lc) p) (sel z la lb lc).length
def na (k z : Int) (on : Bool) (p : Int) (l : List Int) : List Int := if z = k then nw on p l else l
/-- a right list, told by its elements -/
theorem rightL_iff {l : List Int} {o : Int} : ac.RightL l o ↔ l.length ≤ 16 ∧ l.Pairwise (· < ·) ∧ ∀ x ∈ l, 1 ≤ x ∧ x ≤ 256 ∧ x ≠ o := by
  have gd : ∀ i (h : i < l.length), l.getD i 0 = l[i] := fun i h => by simp [List.getD, h]
  constructor
  · rintro ⟨h1, h2⟩
    refine ⟨h1, ?_, fun x hx => ?_⟩
    · rw [List.pairwise_iff_getElem]
      intro i j hi hj hij
      induction j with
      | zero => omega
      | succ j ih =>
        have := (h2 (j + 1) hj).2.2.2 (by omega)
        rw [Nat.add_sub_cancel, gd j (by omega), gd (j + 1) hj] at this
        by_cases e : i = j
        · subst e; exact this
        · have := ih (by omega) (by omega)
          omega
    · obtain ⟨i, hi, rfl⟩ := List.getElem_of_mem hx
      obtain ⟨a, b, c, _⟩ := h2 i hi
      rw [gd i hi] at a b c
      exact ⟨a, b, c⟩
  · rintro ⟨h1, h2, h3⟩
    refine ⟨h1, fun i hi => ?_⟩
    have a := h3 l[i] (List.getElem_mem hi)
    refine ⟨by rw [gd i hi]; exact a.1, by rw [gd i hi]; exact a.2.1, by rw [gd i hi]; exact a.2.2, fun h0 => ?_⟩
    rw [gd i hi, gd (i - 1) (by omega)]
    exact List.pairwise_iff_getElem.1 h2 (i - 1) i (by omega) hi (by omega)
theorem ins_mem (l : List Int) (i : Nat) (p x : Int) : x ∈ il.ins l i p ↔ x = p ∨ x ∈ l := by
  have : x ∈ l ↔ x ∈ l.take i ∨ x ∈ l.drop i := by rw [← List.mem_append, List.take_append_drop]
  unfold il.ins
  rw [List.mem_append, List.mem_cons, this]
  constructor
  · rintro (h | h | h)
    · exact .inr (.inl h)
    · exact .inl h
    · exact .inr (.inr h)
  · rintro (h | h | h)
    · exact .inr (.inl h)
    · exact .inl h
    · exact .inr (.inr h)
theorem ins_pair {p : Int} : ∀ {l : List Int}, l.Pairwise (· < ·) → p ∉ l → (il.ins l (il.pl l p) p).Pairwise (· < ·)
  | [], _, _ => by simp [il.ins, il.pl]
  | x :: l, h, hp => by
    obtain ⟨h1, h2⟩ := List.pairwise_cons.1 h
    by_cases q : p < x
    · have z : il.pl (x :: l) p = 0 := by
        unfold il.pl
        rw [List.countP_eq_zero]
        intro a ha
        rcases List.mem_cons.1 ha with rfl | ha
        · simp; omega
        · have := h1 a ha
          simp; omega
      rw [z]
      show (p :: x :: l).Pairwise (· < ·)
      refine List.pairwise_cons.2 ⟨fun a ha => ?_, h⟩
      rcases List.mem_cons.1 ha with rfl | ha
      · exact q
      · have := h1 a ha
        omega
    · have hx : p ≠ x := fun e => hp (by simp [e])
      have z : il.pl (x :: l) p = il.pl l p + 1 := by
        unfold il.pl
        rw [List.countP_cons, if_pos (by simp; omega)]
      rw [z]
      show (x :: il.ins l (il.pl l p) p).Pairwise (· < ·)
      refine List.pairwise_cons.2 ⟨fun a ha => ?_, ins_pair h2 (fun m => hp (by simp [m]))⟩
      rcases (ins_mem l _ p a).1 ha with rfl | ha
      · omega
      · exact h1 a ha
theorem on_iff {l : List Int} {p : Int} : ac.on l p = true ↔ p ∈ l := by
  unfold ac.on
  rw [List.any_eq_true]
  constructor
  · rintro ⟨x, hx, e⟩
    have : x = p := by simpa using e
    exact this ▸ hx
  · exact fun h => ⟨p, h, by simp⟩
theorem right_new {l : List Int} {o p : Int} {on : Bool} (h : ac.RightL l o) (h1 : 1 ≤ p) (h2 : p ≤ 256) (hw : wrongOf o p on (ac.on l p) l.length = 0) : ac.RightL (nw on p l) o := by
  obtain ⟨a, b, c⟩ := rightL_iff.1 h
  have hpo : p ≠ o := fun e => by simp [wrongOf, e] at hw
  rw [rightL_iff]
  cases on with
  | true =>
    have hn : ac.on l p = false := by
      cases e : ac.on l p with
      | false => rfl
      | true => simp [wrongOf, hpo, e] at hw
    have hp : p ∉ l := fun m => by rw [on_iff.2 m] at hn; cases hn
    have hl : l.length < 16 := by
      rcases Nat.lt_or_ge l.length 16 with q | q
      · exact q
      · simp [wrongOf, hpo, hn, q] at hw
    have e : nw true p l = il.ins l (il.pl l p) p := rwi_ins b hp
    rw [e]
    refine ⟨by rw [il.ins_length _ _ (il.pl_le l p)]; omega, ins_pair b hp, fun x hx => ?_⟩
    rcases (ins_mem l _ p x).1 hx with rfl | hx
    · exact ⟨h1, h2, hpo⟩
    · exact c x hx
  | false =>
    show (rwo l p).length ≤ 16 ∧ _
    refine ⟨Nat.le_trans (List.length_filter_le _ _) a, List.Pairwise.filter _ b, fun x hx => c x (List.mem_filter.1 hx).1⟩
theorem rightH_new {o : Int} {la lb lc : List Int} {z p : Int} {on : Bool} (h : ac.RightH o la lb lc) (hw : wrongAny o la lb lc z p on = 0) : ac.RightH o (na 1 z on p la) (na 2 z on p lb) (na 3 z on p lc) := by
  unfold wrongAny at hw
  by_cases q : z < 1 ∨ 3 < z ∨ p < 1 ∨ 256 < p
  · rw [if_pos q] at hw; cases hw
  · rw [if_neg q] at hw
    obtain ⟨h0, h1, h2, h3⟩ := h
    have hz : z = 1 ∨ z = 2 ∨ z = 3 := by omega
    rcases hz with rfl | rfl | rfl
    · exact ⟨h0, right_new h1 (by omega) (by omega) hw, h2, h3⟩
    · exact ⟨h0, h1, right_new h2 (by omega) (by omega) hw, h3⟩
    · exact ⟨h0, h1, h2, right_new h3 (by omega) (by omega) hw⟩
theorem set_any (o : Int) (A : Option Addr) (ca : Nat) (la : List Int) (B : Option Addr) (cb : Nat) (lb : List Int) (C : Option Addr) (cc : Nat) (lc : List Int) (z p : Int) (on : Bool) (w : World) (h : ac.RightH o la lb lc) (L : ac.Ls w A la B lb C lc) :
    Calls Tryd.prog 19 #[.agg #[.int .i64 o, .slice A la.length ca, .slice B lb.length cb, .slice C lc.length cc], .int .i64 z, .int .i64 p, .bool on] w (SetP (wrongAny o la lb lc z p on) o (na 1 z on p la) (na 2 z on p lb) (na 3 z on p lc) w) := by
  have hb : decide (1 ≤ p ∧ p ≤ 256) = true ↔ (1 ≤ p ∧ p ≤ 256) := by simp
  by_cases q : z < 1 ∨ 3 < z ∨ p < 1 ∨ 256 < p
  · have hq : z < 1 ∨ 3 < z ∨ decide (1 ≤ p ∧ p ≤ 256) = false := by
      rcases q with q | q | q | q
      · exact .inl q
      · exact .inr (.inl q)
      · exact .inr (.inr (decide_eq_false (by omega)))
      · exact .inr (.inr (decide_eq_false (by omega)))
    have K := ac.set_bad o A la.length ca B lb.length cb C lc.length cc z p on w _ hb (by rcases hq with q | q | q; exact .inl q; exact .inr (.inl q); exact .inr (.inr (.inl q)))
    rw [if_pos hq] at K
    refine K.mono ?_
    rintro e w' ⟨he, hb'⟩
    exact SetP.bad (by unfold wrongAny; rw [if_pos q]) (by decide) he hb'
  · by_cases hpo : p = o
    · have K := ac.set_bad o A la.length ca B lb.length cb C lc.length cc z p on w _ hb (.inr (.inr (.inr hpo)))
      rw [if_neg (by simp; omega)] at K
      refine K.mono ?_
      rintro e w' ⟨he, hb'⟩
      exact SetP.bad (k := 38) (by unfold wrongAny wrongOf; rw [if_neg q, if_pos hpo]) (by decide) he hb'
    · obtain ⟨h0, h1, h2, h3⟩ := h
      have g1 := rightL_iff.1 h1
      have g2 := rightL_iff.1 h2
      have g3 := rightL_iff.1 h3
      have hz : z = 1 ∨ z = 2 ∨ z = 3 := by omega
      have ee : ∀ z, ¬ (z < 1 ∨ 3 < z ∨ p < 1 ∨ 256 < p) → wrongAny o la lb lc z p on = wrongOf o p on (ac.on (sel z la lb lc) p) (sel z la lb lc).length := fun z q => by unfold wrongAny; rw [if_neg q]
      rw [ee z q]
      rcases hz with rfl | rfl | rfl
      · exact set_1 o A ca la B cb lb C cc lc p on w (by omega) (by omega) hpo (nums_lay L.a) (nums_lay L.b) (nums_lay L.c) (by omega) (by omega) (by omega) g1.2.1
      · exact set_2 o A ca la B cb lb C cc lc p on w (by omega) (by omega) hpo (nums_lay L.a) (nums_lay L.b) (nums_lay L.c) (by omega) (by omega) (by omega) g2.2.1
      · exact set_3 o A ca la B cb lb C cc lc p on w (by omega) (by omega) hpo (nums_lay L.a) (nums_lay L.b) (nums_lay L.c) (by omega) (by omega) (by omega) g3.2.1
theorem wrong_any (o : Int) (A : Option Addr) (ca : Nat) (la : List Int) (B : Option Addr) (cb : Nat) (lb : List Int) (C : Option Addr) (cc : Nat) (lc : List Int) (z p : Int) (on : Bool) (w : World) (L : ac.Ls w A la B lb C lc) (hl : la.length ≤ 100000 ∧ lb.length ≤ 100000 ∧ lc.length ≤ 100000) :
    Calls Tryd.prog 20 #[.agg #[.int .i64 o, .slice A la.length ca, .slice B lb.length cb, .slice C lc.length cc], .int .i64 z, .int .i64 p, .bool on] w fun e w' => e = .returned (.int .i64 (wrongAny o la lb lc z p on)) ∧ Below w.heap.size w w' := by
  by_cases q : z < 1 ∨ 3 < z ∨ p < 1 ∨ 256 < p
  · have : wrongAny o la lb lc z p on = 11 := by unfold wrongAny; rw [if_pos q]
    rw [this]
    exact wrong_bad o A la.length ca B lb.length cb C lc.length cc z p on w q
  · have hz : z = 1 ∨ z = 2 ∨ z = 3 := by omega
    have ee : wrongAny o la lb lc z p on = wrongOf o p on (ac.on (sel z la lb lc) p) (sel z la lb lc).length := by unfold wrongAny; rw [if_neg q]
    rw [ee]
    rcases hz with rfl | rfl | rfl
    · exact wrong_1 o A ca la B cb lb C cc lc p on w (by omega) (by omega) L.a (by omega)
    · exact wrong_2 o A ca la B cb lb C cc lc p on w (by omega) (by omega) L.b (by omega)
    · exact wrong_3 o A ca la B cb lb C cc lc p on w (by omega) (by omega) L.c (by omega)
/-- what is owned, told as lists that are read -/
theorem Tri.ls {Bd : Nat} {w : World} {A B C : Option Addr} {ca cb cc : Nat} {la lb lc : List Int} (h : Tri Bd w [(.slice A la.length ca, la), (.slice B lb.length cb, lb), (.slice C lc.length cc, lc)]) (ha : la.length ≤ 9000000) (hb : lb.length ≤ 9000000) (hc : lc.length ≤ 9000000) : ac.Ls w A la B lb C lc := by
  have k : ∀ (X : Option Addr) (c : Nat) (l : List Int), OwnI w Bd (.slice X l.length c) l → Nums .i64 w X l := fun X c l o => by
    obtain ⟨X2, c2, e, hl, _⟩ := o.open_
    cases e
    exact lay_nums hl
  exact ⟨k _ _ _ (h.own (.slice A la.length ca, la) (by simp)), k _ _ _ (h.own (.slice B lb.length cb, lb) (by simp)), k _ _ _ (h.own (.slice C lc.length cc, lc) (by simp)), ha, hb, hc⟩
theorem Tri.open3 {Bd : Nat} {w : World} {t0 t1 t2 : Value} {la lb lc : List Int} (h : Tri Bd w [(t0, la), (t1, lb), (t2, lc)]) : ∃ A ca B cb C cc, t0 = .slice A la.length ca ∧ t1 = .slice B lb.length cb ∧ t2 = .slice C lc.length cc := by
  obtain ⟨A, ca, e0, -⟩ := (h.own (t0, la) (by simp)).open_
  obtain ⟨B, cb, e1, -⟩ := (h.own (t1, lb) (by simp)).open_
  obtain ⟨C, cc, e2, -⟩ := (h.own (t2, lc) (by simp)).open_
  exact ⟨A, ca, B, cb, C, cc, e0, e1, e2⟩
end Go.Proofs.YtemkhblogmdleaaDoor.acw
