/-
  Contract of varint: Text.
-/
import Derived.Test.YtndhammngejdiaaDoorVtA
import Derived.Lib.AppendStr
namespace Go.Proofs.YtndhammngejdiaaDoor.vi
open Go.RowKit
open base (ret_bool ret_int made up Nums Only Blk)
open bytes vnum
set_option linter.unusedVariables false
set_option linter.unusedSimpArgs false

/-- a text's bytes -/
def bs (s : ByteArray) : List Nat := s.data.toList.map UInt8.toNat
theorem bs_len (s : ByteArray) : (bs s).length = s.size := by
  unfold bs
  rw [List.length_map, Array.length_toList]
  rfl
theorem bs_small (s : ByteArray) : Small (bs s) := fun c hc => by
  obtain ⟨b, _, rfl⟩ := List.mem_map.1 hc
  exact b.toNat_lt
theorem bs_cells (s : ByteArray) : Go.Lib.strCells s = By (bs s) := by
  unfold Go.Lib.strCells By bs
  rw [List.map_map]
  rfl
theorem app_str {w : World} {v : Value} {l : List Nat} (h : Own w 0 v l) (s : ByteArray) (hs : l.length + s.size ≤ 100000000) :
    ∃ v' w', (Builtin.append_ #[32, 9] 32 #[v, .string s]).run Tryd.prog w = .ok v' w' ∧ Own w' 0 v' (l ++ bs s) ∧ w.grownBy w' v.ownBlock ∧ (v'.ownBlock = v.ownBlock ∨ ∃ k, v'.ownBlock = some k ∧ w.heap.size ≤ k) := by
  obtain ⟨i, hi, hzz⟩ := Option.map_eq_some_iff.1 info_u8
  simp only [Prod.mk.injEq] at hzz
  obtain ⟨hz, hsz, hby⟩ := hzz
  have fin : ∀ (base : Nat) (w' : World) (v' : Value), w'.ownsRow base 5 1 v' (l.length + s.size) (By l ++ Go.Lib.strCells s) → Own w' base v' (l ++ bs s) := fun base w' v' ho => by
    unfold Own
    rw [List.length_append, bs_len, By_append, ← bs_cells]
    exact ho
  rcases h.2 with ⟨e, h0⟩ | ⟨g, cap, cur, e, hb, hg, hnc, hcm, hcs, htake⟩
  · have hl : l = [] := List.eq_nil_of_length_eq_zero h0
    subst hl e
    obtain ⟨v', w', hr, ho, hgr, -⟩ := Go.Lib.run_append_own_string (P := Tryd.prog) w w.heap.size 32 9 32 5 i Tryd.underlying32 Tryd.underlying9 hi hz hsz hby (.slice none 0 0) 0 (By []) (World.ownsRow_nil _ _ _ _) s (by unfold maxLen; simp at hs; omega) (by simp at hs; omega) (Nat.le_refl _)
    have ho2 := fin w.heap.size w' v' (by simpa using ho)
    refine ⟨v', w', hr, ho2.base (Nat.zero_le _), hgr, ?_⟩
    rcases ho2.2 with ⟨e, _⟩ | ⟨g, cap, cur, e, hb, _⟩
    · rw [e]; exact .inl rfl
    · rw [e]; exact .inr ⟨g, rfl, hb⟩
  · obtain ⟨v', w', hr, ho, hgr, -⟩ := Go.Lib.run_append_own_string (P := Tryd.prog) w 0 32 9 32 5 i Tryd.underlying32 Tryd.underlying9 hi hz hsz hby v l.length (By l) h s (by unfold maxLen; omega) (by omega) (Nat.zero_le _)
    refine ⟨v', w', hr, fin 0 w' v' ho, hgr, ?_⟩
    subst e
    by_cases q : l.length + s.size ≤ cap
    · have hr2 := Go.Lib.run_append_room_string (P := Tryd.prog) w 32 9 32 5 i Tryd.underlying32 Tryd.underlying9 hi hsz g l.length cap cur hg s q (by omega)
      rw [hr2] at hr
      injection hr with e1 _
      subst e1
      exact .inl rfl
    · have hr2 := Go.Lib.run_append_grow_string (P := Tryd.prog) w 32 9 32 5 i (.int .u8 0) Tryd.underlying32 Tryd.underlying9 hi hz ⟨g, 0, none⟩ l.length cap (By l) (by rw [By_len, hsz]; omega) (h.cells (g := g) rfl) s (by omega) (by omega) (by rw [hby]; exact growslice_fits (by omega) (by omega))
      rw [hr2] at hr
      injection hr with e1 _
      subst e1
      exact .inr ⟨_, rfl, Nat.le_refl _⟩
theorem wp_apps {w : World} {ops : Array Oper} {rest : List Oper} {o : Oper} {a : Act} {Q : Exit → Act → World → Prop} (hgd : o.guard = none) (sl x : Operand)
    (ho : o.op = .call { callee := .builtin .append, args := #[sl, x], argTypes := #[32, 9] }) (hty : o.type = 32)
    {v : Value} {l : List Nat} {s : ByteArray} (h1 : a.eval sl = v) (h2 : a.eval x = .string s) (h : Own w 0 v l) (hs : l.length + s.size ≤ 100000000)
    (k : ∀ v' w', Own w' 0 v' (l ++ bs s) → w.grownBy w' v.ownBlock → (v'.ownBlock = v.ownBlock ∨ ∃ k, v'.ownBlock = some k ∧ w.heap.size ≤ k) → wpList Tryd.prog ops Q rest (a.put o.dst v') w') : wpList Tryd.prog ops Q (o :: rest) a w := by
  obtain ⟨v', w', hr, h3, h4, h5⟩ := app_str h s hs
  refine wpList_plain hgd fun K hK => ?_
  unfold Oper.wp execOp
  simp only [ho, resolve, invoke, builtin, Sem.run_bind, Sem.run_pure, Result.andThen_ok, List.map_toArray, List.map_cons, List.map_nil, h1, h2, hty, hr]
  exact hK _ _ (k v' w' h3 h4 h5)
theorem OutV.apps {w0 w w2 : World} {g : Nat} {r0 : Option Nat} {v v' : Value} {l l' : List Nat} (h : OutV w0 g r0 w l v) (ho : Own w2 0 v' l') (hg : w.grownBy w2 v.ownBlock) (ha : v'.ownBlock = v.ownBlock ∨ ∃ k, v'.ownBlock = some k ∧ w.heap.size ≤ k) :
    Blk w2 g 58 #[v] ∧ OutV w0 g r0 (w2.setCell ⟨g, 0, none⟩ v') l' v' := by
  have hne := own_ne h.at_.2 h.at_.1 (by decide)
  have hb := Blk.grown h.at_.1 hg (fun e => hne e.symm)
  refine ⟨hb, h.trans ⟨⟨hb.put 0 v', ho.keep fun i hi => ?_⟩, ha, ?_⟩⟩
  · exact Below.heap_setCell w2 _ _ i (fun e => own_ne ho hb (by decide) (by rw [hi, e]))
  · exact ((Only.refl _ w).grown hg (fun i _ e => .inr e.symm)).setCell (.inl (.inl rfl)) _
set_option maxHeartbeats 1000000 in
theorem otext_any (g : Nat) (v : Value) (l : List Nat) (s : ByteArray) (w : World) (h : OutAt w g v l) (hl : l.length ≤ 5000000) (hm : s.size ≤ 1000000) :
    Calls Tryd.prog 25 #[.pointer (some ⟨g, 0, none⟩), .string s] w (OutP g v.ownBlock (l ++ (enc (s.size : Int) ++ bs s)) w) := by
  have OI := Lib.hid (oint_any g v l (s.size : Int) w h (by omega) (by omega) (by omega))
  have hel := enc_len (n := (s.size : Int)) (by omega) (by omega)
  clear h
  unfold OutP at OI
  generalize enc (s.size : Int) = q at *
  go_enter Tryd.func25, Tryd.ntmps25
  go_wp2_with fail
  refine OI.out.mono ?_
  rintro e w1 ⟨rfl, v1, hO⟩
  have hc := hO.at_.1.cell 0
  have O := Lib.hid hO
  have LE := Lib.hid (show (l ++ q).length + s.size ≤ 100000000 by simp; omega)
  clear hO OI
  go_wp2_with ((with_reducible show wpList _ _ _ (⟨some 15, _, _, _, _, _⟩ :: _) _ _); go_must (refine wp_apps rfl _ _ rfl rfl rfl rfl O.out.at_.2 LE.out ?_))
  intro v2 w2 own2 grew2 at2
  try rw [List.append_assoc] at own2
  obtain ⟨hb2, hO2⟩ := O.out.apps own2 grew2 at2
  obtain ⟨A2, n2, c2, rfl⟩ := own_form own2
  have O2 := Lib.hid hO2
  have hc2 := hb2.cell 0
  have hf2 := hb2.free 0
  clear own2 grew2 at2 hb2 hO2 hc O
  go_wp2_with fail
  go_ret
  exact ⟨rfl, _, O2.out⟩
end Go.Proofs.YtndhammngejdiaaDoor.vi
