/-
  The queue and the document's list side by side.
-/
import Derived.Test.YtmfhellpdpfoaaaQuN
namespace Go.Proofs.Ytmfhellpdpfoaaa.qu
open Go.RowKit
open base (ret_bool ret_int made up Blk Only)
open rk mk
set_option linter.unusedVariables false
set_option linter.unusedSimpArgs false
variable {w w' : World} {q sb B : Nat} {vl : Value} {L M : List It} {ad : Int} {F F' : Nat → Prop}

structure St (w : World) (sb : Nat) (vl : Value) (M : List It) (ad : Int) (B : Nat) : Prop where
  blk : Blk w sb 29 #[vl, .int .i64 ad]
  row : Own EQ w B 39 vl M
  low : B ≤ sb
theorem St.keep (h : St w sb vl M ad B) (e : ∀ k, (k = sb ∨ vl.ownBlock = some k) → w'.heap[k]? = w.heap[k]?) : St w' sb vl M ad B :=
  ⟨(e sb (.inl rfl)).trans h.blk, h.row.keep (fun g hg => e g (.inr hg)), h.low⟩
theorem St.lt (h : St w sb vl M ad B) {k : Nat} (hk : k = sb ∨ vl.ownBlock = some k) : k < w.heap.size := by
  rcases hk with rfl | e
  · exact h.blk.lt
  · exact (h.row.lt' k e).2.1
theorem St.below (h : St w sb vl M ad B) (hb : Below w.heap.size w w') : St w' sb vl M ad B := h.keep (fun k hk => hb.block k (h.lt hk))
theorem St.only {S : Nat → Prop} (h : St w sb vl M ad B) (ho : Only S w w') (hs : ∀ k, (k = sb ∨ vl.ownBlock = some k) → ¬ S k) : St w' sb vl M ad B := h.keep (fun k hk => ho.block k (h.lt hk) (hs k hk))
theorem QS.ty {t : TypeId} {cs : Array Value} (h : QS F w q M ad) {k : Nat} (hk : F k) (hb : Blk w k t cs) : t = 55 ∨ t = 66 := by
  obtain ⟨m, v, L, h1, h2, h3, rfl⟩ := h.ex
  exact h1.ty hk hb
theorem St.apart {M2 : List It} {ad2 : Int} (h : St w sb vl M ad B) (H : QS F w q M2 ad2) {k : Nat} (hk : k = sb ∨ vl.ownBlock = some k) : ¬ F k := fun hf => by
  rcases hk with rfl | e
  · rcases H.ty hf h.blk with q | q <;> exact absurd q (by decide)
  · obtain ⟨_, _, cs, hb⟩ := h.row.lt' k e
    rcases H.ty hf hb with q | q <;> exact absurd q (by decide)
theorem St.mv {M2 : List It} {ad2 : Int} (h : St w sb vl M ad B) (H : QS F w q M2 ad2) (m : Mv F F' w w') : St w' sb vl M ad B := h.only m.1 (fun k hk => h.apart H hk)
/-- another row -/
theorem St.put (h : St w sb vl M ad B) {v' : Value} {M' : List It} (ho : Own EQ w B 39 v' M') : St (w.setCell ⟨sb, 0, none⟩ v') sb v' M' ad B ∧ Only (fun k => k = sb) w (w.setCell ⟨sb, 0, none⟩ v') := by
  have hs : ∀ g, v'.ownBlock = some g → sb ≠ g := fun g hg e => by
    obtain ⟨_, _, cs, hb⟩ := ho.lt' g hg
    subst e
    exact ty_ne h.blk hb (by decide) rfl
  exact ⟨⟨h.blk.put 0 v', ho.keep (fun g hg => Below.heap_setCell w _ _ _ (fun e => hs g hg e.symm)), h.low⟩, (Only.refl (fun k => k = sb) _).setCell (p := ⟨sb, _, none⟩) (.inl rfl) _⟩
theorem St.num (h : St w sb vl M ad B) (ad' : Int) : St (w.setCell ⟨sb, 1, none⟩ (.int .i64 ad')) sb vl M ad' B ∧ Only (fun k => k = sb) w (w.setCell ⟨sb, 1, none⟩ (.int .i64 ad')) := by
  have hs : ∀ g, vl.ownBlock = some g → sb ≠ g := fun g hg e => by
    obtain ⟨_, _, cs, hb⟩ := h.row.lt' g hg
    subst e
    exact ty_ne h.blk hb (by decide) rfl
  exact ⟨⟨h.blk.put 1 _, h.row.keep (fun g hg => Below.heap_setCell w _ _ _ (fun e => hs g hg e.symm)), h.low⟩, (Only.refl (fun k => k = sb) _).setCell (p := ⟨sb, _, none⟩) (.inl rfl) _⟩

structure Pair (F : Nat → Prop) (w : World) (q sb : Nat) (vl : Value) (M : List It) (ad : Int) (B : Nat) : Prop where
  qs : QS F w q M ad
  st : St w sb vl M ad B
  lo : ∀ k, F k → B ≤ k
  len : (M.length : Int) ≤ ad
theorem Pair.size (h : Pair F w q sb vl M ad B) : B ≤ w.heap.size := Nat.le_of_lt (Nat.lt_of_le_of_lt h.st.low h.st.blk.lt)
theorem Pair.below (h : Pair F w q sb vl M ad B) (hb : Below w.heap.size w w') : Pair F w' q sb vl M ad B := ⟨h.qs.below hb, h.st.below hb, h.lo, h.len⟩
theorem Pair.open_ (h : Pair F w q sb vl M ad B) : ∃ A c, vl = .slice A M.length c ∧ Lay EQ w A M ∧ M.length ≤ c ∧ c ≤ 9223372036854775807 := h.st.row.open_
/-- objects that are none of the pair's kinds -/
def plain : Obj → Prop
  | .cells _ t _ => t ≠ 29 ∧ t ≠ 55 ∧ t ≠ 66
  | .map _ _ => False
  | _ => True
theorem QS.obj (h : QS F w q M ad) {k : Nat} (hk : F k) {o : Obj} (ho : w.heap[k]? = some o) : ¬ plain o := by
  obtain ⟨m, v, L, h1, h2, h3, rfl⟩ := h.ex
  rcases hk with rfl | rfl | e
  · have hb : w.heap[k]? = some _ := h1.blk
    rw [hb] at ho
    injection ho with ho
    subst ho
    exact fun hp => hp.2.1 rfl
  · obtain ⟨F', hF, _⟩ := h1.map
    obtain ⟨D, ⟨es, clock, hb, _⟩, _⟩ := MapIs.ex hF
    rw [hb] at ho
    injection ho with ho
    subst ho
    exact fun hp => hp
  · obtain ⟨_, _, cs, hb⟩ := h1.own.lt' k e
    have hb : w.heap[k]? = some _ := hb
    rw [hb] at ho
    injection ho with ho
    subst ho
    exact fun hp => hp.2.2 rfl
/-- objects of other kinds lie as they lay -/
def Fr (w w' : World) : Prop := ∀ (g : Nat) (o : Obj), w.heap[g]? = some o → plain o → w'.heap[g]? = some o
theorem Fr.blk {g : Nat} {t : TypeId} {cs : Array Value} (h : Fr w w') (hb : Blk w g t cs) (h1 : t ≠ 29) (h2 : t ≠ 55) (h3 : t ≠ 66) : Blk w' g t cs := h g _ hb ⟨h1, h2, h3⟩
theorem Fr.refl (w : World) : Fr w w := fun _ _ h _ => h
theorem Fr.trans {a b c : World} (h : Fr a b) (k : Fr b c) : Fr a c := fun g o hb hp => k g o (h g o hb hp) hp
theorem Fr.below {a b : World} (h : Below a.heap.size a b) : Fr a b := fun g o hb _ => (h.block g (Array.getElem?_eq_some_iff.1 hb).1).trans hb
theorem Fr.mv {M2 : List It} {a b : World} (H : QS F a q M2 ad) (m : Mv F F' a b) : Fr a b := fun g o hb hp => (m.1.block g (Array.getElem?_eq_some_iff.1 hb).1 (fun hf => H.obj hf hb hp)).trans hb
theorem Fr.row {a b : World} (S : St a sb vl M ad B) (ho : Only (fun k => k = sb ∨ a.heap.size ≤ k) a b) : Fr a b := fun g o hb hp => (ho.block g (Array.getElem?_eq_some_iff.1 hb).1 (fun h => by
  rcases h with h | h
  · subst h
    have hb2 : a.heap[g]? = some _ := S.blk
    rw [hb2] at hb
    injection hb with hb
    subst hb
    exact hp.1 rfl
  · have := (Array.getElem?_eq_some_iff.1 hb).1; omega)).trans hb
/-- nothing below B has turned, nor blocks of other types -/
structure Bf (B : Nat) (w w' : World) : Prop where
  bel : Below B w w'
  fr : Fr w w'
theorem Bf.size {a b : World} (h : Bf B a b) : a.heap.size ≤ b.heap.size := h.bel.size
theorem Bf.trans {a b c : World} (h : Bf B a b) (k : Bf B b c) : Bf B a c := ⟨h.bel.trans k.bel, h.fr.trans k.fr⟩
theorem Bf.up {a b c : World} (h : Bf B a b) (k : Below b.heap.size b c) (hB : B ≤ b.heap.size) : Bf B a c := ⟨base.up h.bel k hB, h.fr.trans (Fr.below k)⟩
theorem Bf.drewN {a b : World} (h : Bf B a b) (n : Nat) : Bf B a (b.drewN n) := ⟨base.below_drewN h.bel n, h.fr⟩
theorem Bf.new {a b : World} (h : Below a.heap.size a b) (hB : B ≤ a.heap.size) : Bf B a b := ⟨h.mono hB, Fr.below h⟩
/-- a step of both is done -/
def StepQ (q sb B : Nat) (ad : Int) (w : World) (e : Ending) (w' : World) : Prop := e = .returned (.bool true) ∧ ∃ F' vl' M' ad', Pair F' w' q sb vl' M' ad' B ∧ Bf B w w' ∧ ad' ≤ ad + 1
/-- what the list's change and the queue's change leave -/
theorem Pair.done1 {w1 w2 w3 : World} {M' : List It} {v' : Value} {ad' : Int} (hb : Bf B w w1) (hB : B ≤ w.heap.size) (H : QS F w1 q M ad) (hlo : ∀ k, F k → B ≤ k) (S2 : St w2 sb v' M' ad' B) (ho : Only (fun k => k = sb ∨ w1.heap.size ≤ k) w1 w2) (S0 : St w1 sb vl M ad B) (hq : QS F' w3 q M' ad') (hm : Mv F F' w2 w3) (hlen : (M'.length : Int) ≤ ad') :
    Pair F' w3 q sb v' M' ad' B ∧ Bf B w w3 := by
  have H2 : QS F w2 q M ad := H.keep (fun k hk => ho.block k (H.lt hk) (fun h => by
    rcases h with h | h
    · exact S0.apart H (.inl h) hk
    · have := H.lt hk; omega))
  have h12 : Bf B w w2 := hb.trans ⟨ho.to_below (fun i hi h => by have := S0.low; have := S0.blk.lt; rcases h with h | h <;> omega) (Nat.le_trans hB hb.size), Fr.row S0 ho⟩
  have h3 := Mv.to hm (Nat.le_trans hB h12.size) hlo
  exact ⟨⟨hq, S2.mv H2 hm, h3.2, hlen⟩, h12.trans ⟨h3.1, Fr.mv H2 hm⟩⟩
theorem Pair.done {w1 w2 w3 : World} {M' : List It} {v' : Value} {ad' : Int} (hb : Bf B w w1) (hB : B ≤ w.heap.size) (H : QS F w1 q M ad) (hlo : ∀ k, F k → B ≤ k) (S2 : St w2 sb v' M' ad' B) (ho : Only (fun k => k = sb ∨ w1.heap.size ≤ k) w1 w2) (S0 : St w1 sb vl M ad B) (hq : QS F' w3 q M' ad') (hm : Mv F F' w2 w3) (hlen : (M'.length : Int) ≤ ad') (had : ad' ≤ ad + 1) :
    ∃ F' vl' M' ad', Pair F' w3 q sb vl' M' ad' B ∧ Bf B w w3 ∧ ad' ≤ ad + 1 :=
  ⟨F', v', M', ad', (Pair.done1 hb hB H hlo S2 ho S0 hq hm hlen).1, (Pair.done1 hb hB H hlo S2 ho S0 hq hm hlen).2, had⟩
end Go.Proofs.Ytmfhellpdpfoaaa.qu
