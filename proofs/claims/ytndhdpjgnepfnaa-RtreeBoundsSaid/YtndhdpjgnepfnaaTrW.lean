/-
  R-trees: a thing is taken away from below a node: memory.
-/
import Derived.Test.YtndhdpjgnepfnaaTrV
namespace Go.Proofs.Ytndhdpjgnepfnaa.tr
open Go.RowKit
open base (ret_bool ret_int made up Blk Only)
open rk (Lay)
open rect
set_option linter.unusedVariables false
set_option linter.unusedSimpArgs false
variable {h g gr n c i gk lo : Nat} {X Xk X1 : List Ex} {vk v1 vl vl1 : Value} {w w7 w8 : World} {O : List (En × Nat)} {Os : List Og} {t : Th} {F : Nat → Prop}

theorem kid_step2 (hn : NdOf (Ent (h + 1)) w g (.slice (some ⟨gr, 0, none⟩) n c) X) (hi : i < X.length) (hk : X[i].e.kid = some gk) (hv : X[i].e.v = 0) (hB : X[i].B = foot gk vk Xk)
    (hF : ∀ k, F k → foot gk vk Xk k ∨ ¬ foot g (.slice (some ⟨gr, 0, none⟩) n c) X k) (ho : Only F w w7) (hk' : NdOf (Ent h) w7 gk v1 X1) (h2 : 2 ≤ X1.length) (h4 : X1.length ≤ 4)
    (hf : ∀ j, foot gk v1 X1 j → foot gk vk Xk j) (hb : Below w7.heap.size w7 w8) :
    NdOf (Ent (h + 1)) (put4 w8 gr i (bb ((all X1).map Prod.fst))) g (.slice (some ⟨gr, 0, none⟩) n c) (X.set i (kidx (bb ((all X1).map Prod.fst)) gk v1 X1)) ∧ Only (fun k => F k ∨ k = gr) w (put4 w8 gr i (bb ((all X1).map Prod.fst))) ∧ ∀ j, foot g (.slice (some ⟨gr, 0, none⟩) n c) (X.set i (kidx (bb ((all X1).map Prod.fst)) gk v1 X1)) j → foot g (.slice (some ⟨gr, 0, none⟩) n c) X j := by
  have hmem := List.getElem_mem hi
  have ge := hn.ap1 X[i] hmem
  have grlt : gr < w.heap.size := (hn.own.lt' gr rfl).2.1
  have ggr : gr ≠ g := fun e => hn.ap0 (by rw [← e]; rfl)
  have hBsub : ∀ j, foot gk vk Xk j → foot g (.slice (some ⟨gr, 0, none⟩) n c) X j := fun j hj => .inr (.inr ⟨X[i], hmem, by rw [hB]; exact hj⟩)
  have gnk : ¬ foot gk vk Xk g := by rw [← hB]; exact ge.1
  have grk : ¬ foot gk vk Xk gr := by rw [← hB]; exact ge.2 gr rfl
  have gF : ¬ F g := fun q => (hF g q).elim gnk (fun q => q (.inl rfl))
  have grF : ¬ F gr := fun q => (hF gr q).elim grk (fun q => q (.inr (.inl rfl)))
  have o78 : Only F w w8 := ho.below hb (fun j hj h7 => by have := ho.size; omega)
  have p9 := put4_only w8 gr i (bb ((all X1).map Prod.fst))
  have own8 : rk.Own E6 w8 0 79 (.slice (some ⟨gr, 0, none⟩) n c) (ens X) := hn.own.only o78 (fun k e => by
    have : gr = k := by first | (injection e) | (simp [Value.ownBlock] at e; exact e)
    subst this
    exact grF)
  have own9 := own_put4 (b := bb ((all X1).map Prod.fst)) own8 (by rw [ens_len]; exact hi)
  have eset : (ens X).set i { (ens X).getD i en0 with b := bb ((all X1).map Prod.fst) } = ens (X.set i (kidx (bb ((all X1).map Prod.fst)) gk v1 X1)) := by
    rw [ens_get hi]
    have e2 : ({ X[i].e with b := bb ((all X1).map Prod.fst) } : En) = (kidx (bb ((all X1).map Prod.fst)) gk v1 X1).e := by
      show (⟨_, X[i].e.kid, X[i].e.v⟩ : En) = ⟨_, some gk, 0⟩
      rw [hk, hv]
    rw [e2]
    simp [ens, List.map_set]
  rw [eset] at own9
  have blk9 : Blk (put4 w8 gr i (bb ((all X1).map Prod.fst))) g 62 #[.slice (some ⟨gr, 0, none⟩) n c] := (hn.blk.only o78 gF).only p9 (fun e => ggr e.symm)
  have of : Only (fun k => F k ∨ k = gr) w (put4 w8 gr i (bb ((all X1).map Prod.fst))) := (o78.mono (fun _ _ h => .inl h)).trans p9 (fun _ _ h => .inr h)
  have n9 : NdOf (Ent h) (put4 w8 gr i (bb ((all X1).map Prod.fst))) gk v1 X1 := (hk'.below hb).only p9 (fun j hj e => by
    subst e
    exact grk (hf j hj))
  refine ⟨?_, of, fun j hj => ?_⟩
  · refine hn.swap hi (n9.ent' h2 h4) blk9 own9 of (fun y hy k hyk hFk => ?_) (fun k hxk => .inl (by rw [hB]; exact hf k hxk))
    obtain ⟨hyX, hya⟩ := erase_apart hn hi y hy
    rcases hFk with hFk | rfl
    · rcases hF k hFk with q | q
      · exact hya k hyk (by rw [hB]; exact q)
      · exact q (.inr (.inr ⟨y, hyX, hyk⟩))
    · exact (hn.ap1 y hyX).2 k rfl hyk
  · rcases hj with rfl | hj | ⟨y, hy, hj⟩
    · exact .inl rfl
    · exact .inr (.inl hj)
    · rcases mem_set hy with rfl | hy
      · exact hBsub j (hf j hj)
      · exact .inr (.inr ⟨y, List.mem_of_mem_eraseIdx hy, hj⟩)
/-- what lies beside the child -/
theorem beside {k : Nat} {Y : List Ex} (hn : NdOf (Ent (h + 1)) w g (.slice (some ⟨gr, 0, none⟩) n c) X) (hi : i < X.length) (hB : X[i].B = foot gk vk Xk) (hk : foot gk vk Xk k) : k ≠ g ∧ k ≠ gr ∧ ∀ y ∈ X.eraseIdx i, ¬ y.B k := by
  have ge := hn.ap1 X[i] (List.getElem_mem hi)
  rw [hB] at ge
  exact ⟨fun e => ge.1 (e ▸ hk), fun e => ge.2 gr rfl (e ▸ hk), fun y hy q => (erase_apart hn hi y hy).2 k q (by rw [hB]; exact hk)⟩
/-- the child has enough left -/
theorem rem_kid (hn : NdOf (Ent (h + 1)) w g (.slice (some ⟨gr, 0, none⟩) n c) X) (hi : i < X.length) (hk : X[i].e.kid = some gk) (hv : X[i].e.v = 0) (hS : X[i].S = all Xk) (hB : X[i].B = foot gk vk Xk)
    (hlo : ¬ foot g (.slice (some ⟨gr, 0, none⟩) n c) X lo) (hvl : ∀ k, vl.ownBlock = some k → ¬ foot g (.slice (some ⟨gr, 0, none⟩) n c) X k)
    (r : Rem h gk vk Xk t lo vl O w w7 v1 X1 vl1 Os) (h2 : 2 ≤ X1.length) (h4 : X1.length ≤ 4) (hb : Below w7.heap.size w7 w8) :
    Rem (h + 1) g (.slice (some ⟨gr, 0, none⟩) n c) X t lo vl O w (put4 w8 gr i (bb ((all X1).map Prod.fst))) (.slice (some ⟨gr, 0, none⟩) n c) (X.set i (kidx (bb ((all X1).map Prod.fst)) gk v1 X1)) vl1 Os := by
  have grlt : gr < w.heap.size := (hn.own.lt' gr rfl).2.1
  have hFn : ∀ k, (foot gk vk Xk k ∨ k = lo ∨ vl.ownBlock = some k) → foot gk vk Xk k ∨ ¬ foot g (.slice (some ⟨gr, 0, none⟩) n c) X k := fun k hk => by
    rcases hk with hk | rfl | hk
    · exact .inl hk
    · exact .inr hlo
    · exact .inr (hvl k hk)
  obtain ⟨a1, a2, a3⟩ := kid_step2 hn hi hk hv hB hFn r.only r.nd h2 h4 r.sub hb
  have p9 := put4_only w8 gr i (bb ((all X1).map Prod.fst))
  have ln : lo ≠ gr := fun e => hlo (.inr (.inl (by rw [e]; rfl)))
  have l1 : ∀ k, vl1.ownBlock = some k → k ≠ gr := fun k e e' => by
    subst e'
    rcases r.own k e with q | q
    · exact hvl k q (.inr (.inl rfl))
    · omega
  refine ⟨a1, by rw [List.length_set]; exact Nat.le_refl _, by rw [List.length_set]; omega, ?_, (r.ls.below hb).only p9 ln l1, fun o ho => ⟨by have := (r.ent o ho).1; omega, ((r.ent o ho).2.below hb).only p9 (fun k hk e => ?_)⟩, a3, fun o ho k hk => ?_, r.oap, Nat.le_succ_of_le r.few, r.own, a2.mono (fun k _ hk => ?_)⟩
  · obtain ⟨q1, q2⟩ := all_set (x := kidx (bb ((all X1).map Prod.fst)) gk v1 X1) hi
    rw [hS] at q2
    refine q2.trans ((r.perm.append_left _).trans (List.perm_middle.trans (List.Perm.cons t ?_)))
    rw [← List.append_assoc]
    exact q1.symm.append_right _
  · subst e
    exact (beside (Y := []) hn hi hB (r.osub o ho k hk).1).2.1 rfl
  · obtain ⟨q1, q2⟩ := r.osub o ho k hk
    obtain ⟨b1, b2, b3⟩ := beside (Y := []) hn hi hB q1
    refine ⟨.inr (.inr ⟨X[i], List.getElem_mem hi, by rw [hB]; exact q1⟩), fun q => ?_⟩
    rcases q with e | e | ⟨y, hy, q⟩
    · exact b1 e
    · have : gr = k := by first | (injection e) | (simp [Value.ownBlock] at e; exact e)
      exact b2 this.symm
    · rcases mem_set hy with rfl | hy
      · exact q2 q
      · exact b3 y hy q
  · rcases hk with (hk | rfl | hk) | rfl
    · exact .inl (.inr (.inr ⟨X[i], List.getElem_mem hi, by rw [hB]; exact hk⟩))
    · exact .inr (.inl rfl)
    · exact .inr (.inr hk)
    · exact .inl (.inr (.inl rfl))
/-- the child has too few left: it goes, what it had is an orphan -/
theorem rem_lost {y : Ex} {vl2 : Value} {w9 w10 : World} {n' : Nat} (hn : NdOf (Ent (h + 1)) w g (.slice (some ⟨gr, 0, none⟩) n c) X) (hi : i < X.length) (hS : X[i].S = all Xk) (hB : X[i].B = foot gk vk Xk)
    (hlo : ¬ foot g (.slice (some ⟨gr, 0, none⟩) n c) X lo) (hvl : ∀ k, vl.ownBlock = some k → ¬ foot g (.slice (some ⟨gr, 0, none⟩) n c) X k)
    (r : Rem h gk vk Xk t lo vl O w w7 v1 [y] vl1 Os) (hls : LS w9 lo vl2 (O ++ orphs Os ++ [(y.e, h)])) (h9 : Only (fun k => k = lo ∨ vl1.ownBlock = some k) w7 w9) (hv2 : ∀ k, vl2.ownBlock = some k → vl1.ownBlock = some k ∨ w7.heap.size ≤ k)
    (ho : rk.Own E6 w10 0 79 (.slice (some ⟨gr, 0, none⟩) n' c) ((ens X).eraseIdx i)) (h10 : Only (fun k => k = gr) w9 w10) :
    Blk w10 g 62 #[.slice (some ⟨gr, 0, none⟩) n c] ∧ Rem (h + 1) g (.slice (some ⟨gr, 0, none⟩) n c) X t lo vl O w (w10.setCell ⟨g, 0, none⟩ (.slice (some ⟨gr, 0, none⟩) n' c)) (.slice (some ⟨gr, 0, none⟩) n' c) (X.eraseIdx i) vl2 (Os ++ [(y, h)]) := by
  have hlen := List.length_eraseIdx_of_lt hi
  have ge := hn.ap1 X[i] (List.getElem_mem hi)
  have grlt : gr < w.heap.size := (hn.own.lt' gr rfl).2.1
  have glt := hn.blk.lt
  have ggr : gr ≠ g := fun e => hn.ap0 (by rw [← e]; rfl)
  have s7 := r.only.size
  have vnf : ∀ k, vl1.ownBlock = some k → ¬ foot g (.slice (some ⟨gr, 0, none⟩) n c) X k := fun k e q => by
    rcases r.own k e with q' | q'
    · exact hvl k q' q
    · have := hn.lt k q
      omega
  have v2nf : ∀ k, vl2.ownBlock = some k → ¬ foot g (.slice (some ⟨gr, 0, none⟩) n c) X k := fun k e q => by
    rcases hv2 k e with q' | q'
    · exact vnf k q' q
    · have := hn.lt k q
      omega
  have O79 : Only (fun k => k = lo ∨ vl1.ownBlock = some k ∨ k = gr) w7 w10 := (h9.mono (fun _ _ q => q.elim .inl (fun q => .inr (.inl q)))).trans h10 (fun _ _ e => .inr (.inr e))
  have O11 : Only (fun k => k = lo ∨ vl1.ownBlock = some k ∨ k = gr ∨ k = g) w7 (w10.setCell ⟨g, 0, none⟩ (.slice (some ⟨gr, 0, none⟩) n' c)) := (O79.mono (fun _ _ q => q.elim .inl (fun q => q.elim (fun q => .inr (.inl q)) (fun q => .inr (.inr (.inl q)))))).setCell (p := ⟨g, 0, none⟩) (.inl (.inr (.inr (.inr rfl)))) _
  have subk : ∀ k, foot gk vk Xk k → ¬ (k = lo ∨ vl1.ownBlock = some k ∨ k = gr ∨ k = g) := fun k hk q => by
    obtain ⟨b1, b2, _⟩ := beside (Y := []) hn hi hB hk
    have hk2 : foot g (.slice (some ⟨gr, 0, none⟩) n c) X k := .inr (.inr ⟨X[i], List.getElem_mem hi, by rw [hB]; exact hk⟩)
    rcases q with rfl | q | q | q
    · exact hlo hk2
    · exact vnf k q hk2
    · exact b2 q
    · exact b1 q
  have gnF : ¬ (foot gk vk Xk g ∨ g = lo ∨ vl.ownBlock = some g) := fun q => by
    rcases q with q | q | q
    · exact (beside (Y := []) hn hi hB q).1 rfl
    · exact hlo (.inl q.symm)
    · exact hvl g q (.inl rfl)
  have B7 := hn.blk.only r.only gnF
  have B10 := B7.only O79 (fun q => by
    rcases q with q | q | q
    · exact hlo (.inl q.symm)
    · exact vnf g q (.inl rfl)
    · exact ggr q.symm)
  have P1 := B10.put 0 (.slice (some ⟨gr, 0, none⟩) n' c)
  simp only [List.setIfInBounds_toArray, List.set_cons_zero] at P1
  have hs : ∀ x ∈ X.eraseIdx i, x ∈ X := fun x hx => List.mem_of_mem_eraseIdx hx
  have OW : Only (fun k => foot gk vk Xk k ∨ k = lo ∨ vl.ownBlock = some k ∨ k = gr ∨ k = g) w (w10.setCell ⟨g, 0, none⟩ (.slice (some ⟨gr, 0, none⟩) n' c)) := (r.only.mono (fun k _ q => q.elim .inl (fun q => q.elim (fun q => .inr (.inl q)) (fun q => .inr (.inr (.inl q)))))).trans O11 (fun k hk q => by
    rcases q with q | q | q | q
    · exact .inr (.inl q)
    · rcases r.own k q with q' | q'
      · exact .inr (.inr (.inl q'))
      · omega
    · exact .inr (.inr (.inr (.inl q)))
    · exact .inr (.inr (.inr (.inr q))))
  have ye := r.nd.ent y (by simp)
  have ysub : ∀ k, y.B k → foot gk vk Xk k := fun k hk => r.sub k (.inr (.inr ⟨y, by simp, hk⟩))
  have osub : ∀ k, foot gk vk Xk k → foot g (.slice (some ⟨gr, 0, none⟩) n c) X k ∧ ¬ foot g (.slice (some ⟨gr, 0, none⟩) n' c) (X.eraseIdx i) k := fun k hk => by
    obtain ⟨b1, b2, b3⟩ := beside (Y := []) hn hi hB hk
    refine ⟨.inr (.inr ⟨X[i], List.getElem_mem hi, by rw [hB]; exact hk⟩), fun q => ?_⟩
    rcases q with e | e | ⟨x, hx, q⟩
    · exact b1 e
    · have : gr = k := by first | (injection e) | (simp [Value.ownBlock] at e; exact e)
      exact b2 this.symm
    · exact b3 x hx q
  refine ⟨B10, ⟨⟨P1, ?_, fun x hx => ?_, fun e => ?_, fun x hx => ⟨(hn.ap1 x (hs x hx)).1, fun k e => (hn.ap1 x (hs x hx)).2 k e⟩, hn.ap2.sublist (List.eraseIdx_sublist ..)⟩, by omega, by omega, ?_, ?_, fun o ho' => ?_, fun k hk => ?_, fun o ho' k hk => ?_, ?_, by rw [List.length_append]; simpa using r.few, fun k e => ?_, OW.mono (fun k _ q => ?_)⟩⟩
  · rw [ens_erase]
    refine ho.keep (fun k e => Below.heap_setCell w10 ⟨g, 0, none⟩ _ k (fun e' => ?_))
    have : gr = k := by first | (injection e) | (simp [Value.ownBlock] at e; exact e)
    exact ggr (this.trans e')
  · obtain ⟨hxX, hxa⟩ := erase_apart hn hi x hx
    refine (hn.ent x hxX).only OW (fun k hk q => ?_)
    rcases q with q | rfl | q | rfl | rfl
    · exact hxa k hk (by rw [hB]; exact q)
    · exact hlo (.inr (.inr ⟨x, hxX, hk⟩))
    · exact hvl k q (.inr (.inr ⟨x, hxX, hk⟩))
    · exact (hn.ap1 x hxX).2 k rfl hk
    · exact (hn.ap1 x hxX).1 hk
  · have : gr = g := by first | (injection e) | (simp [Value.ownBlock] at e; exact e)
    exact ggr this
  · have q2 := all_erase hi
    rw [hS] at q2
    have q3 := r.perm
    have ey : all [y] = y.S := by simp [all]
    rw [ey] at q3
    refine q2.trans ((q3.append_right _).trans (List.Perm.cons t ?_))
    rw [List.map_append, all_app]
    have : all (List.map Prod.fst [(y, h)]) = y.S := by simp [all]
    rw [this]
    refine List.perm_append_comm.trans ?_
    exact List.Perm.append_left _ List.perm_append_comm
  · have : O ++ orphs (Os ++ [(y, h)]) = O ++ orphs Os ++ [(y.e, h)] := by simp [orphs]
    rw [this]
    have hl2 : LS w10 lo vl2 (O ++ orphs Os ++ [(y.e, h)]) := hls.only h10 (fun e => hlo (.inr (.inl (by rw [e]; rfl)))) (fun k e q => v2nf k e (.inr (.inl (by rw [q]; rfl))))
    exact hl2.only ((Only.refl (fun k => k = g) w10).setCell (p := ⟨g, 0, none⟩) (.inl rfl) _) (fun e => hlo (.inl e)) (fun k e q => v2nf k e (.inl q))
  · rcases List.mem_append.1 ho' with ho' | ho'
    · exact ⟨by have := (r.ent o ho').1; omega, (r.ent o ho').2.only O11 (fun k hk => subk k (r.osub o ho' k hk).1)⟩
    · rw [List.mem_singleton] at ho'
      subst ho'
      exact ⟨by show h < h + 1; omega, ye.only O11 (fun k hk => subk k (ysub k hk))⟩
  · rcases hk with rfl | e | ⟨x, hx, q⟩
    · exact .inl rfl
    · exact .inr (.inl e)
    · exact .inr (.inr ⟨x, hs x hx, q⟩)
  · rcases List.mem_append.1 ho' with ho' | ho'
    · exact osub k (r.osub o ho' k hk).1
    · rw [List.mem_singleton] at ho'
      subst ho'
      exact osub k (ysub k hk)
  · rw [List.map_append, List.pairwise_append]
    refine ⟨r.oap, by simp, fun a ha b hb k q1 q2 => ?_⟩
    simp only [List.map_cons, List.map_nil, List.mem_singleton] at hb
    subst hb
    obtain ⟨o, ho', rfl⟩ := List.mem_map.1 ha
    exact (r.osub o ho' k q1).2 (.inr (.inr ⟨b, by simp, q2⟩))
  · rcases hv2 k e with q | q
    · exact r.own k q
    · exact .inr (by omega)
  · rcases q with q | rfl | q | rfl | rfl
    · exact .inl (osub k q).1
    · exact .inr (.inl rfl)
    · exact .inr (.inr q)
    · exact .inl (.inr (.inl rfl))
    · exact .inl (.inl rfl)
theorem ty84 {w : World} {k : Nat} {cs cs' : Array Value} (h1 : Blk w k 80 cs) (h2 : Blk w k 84 cs') : False := by
  unfold Blk at h1 h2
  rw [h1] at h2
  injection h2 with h2
  injection h2 with _ h2
  exact absurd h2 (by decide)
theorem LS.push {w' : World} {v' : Value} {o : En × Nat} (h : LS w lo vl O) (ho : rk.Own E7 w' 0 84 v' (O ++ [o])) (hg : rk.Grew w w' vl v') :
    Blk w' lo 80 #[vl] ∧ LS (w'.setCell ⟨lo, 0, none⟩ v') lo v' (O ++ [o]) ∧ Only (fun k => k = lo ∨ vl.ownBlock = some k) w (w'.setCell ⟨lo, 0, none⟩ v') ∧ ∀ k, v'.ownBlock = some k → vl.ownBlock = some k ∨ w.heap.size ≤ k := by
  have n1 : vl.ownBlock ≠ some lo := fun e => by
    obtain ⟨_, _, cs, hc⟩ := h.own.lt' lo e
    exact ty84 h.blk hc
  have B1 : Blk w' lo 80 #[vl] := (hg.grown.block lo h.blk.lt (fun e => n1 e.symm)).trans h.blk
  have P1 := B1.put 0 v'
  simp only [List.setIfInBounds_toArray, List.set_cons_zero] at P1
  have n2 : v'.ownBlock ≠ some lo := fun e => by
    obtain ⟨_, _, cs, hc⟩ := ho.lt' lo e
    exact ty84 B1 hc
  have O1 : Only (fun k => k = lo ∨ vl.ownBlock = some k) w w' := ⟨hg.grown.os, hg.grown.tape, hg.grown.output, hg.grown.size, fun k hk hn => hg.grown.block k hk (fun e => hn (.inr e.symm))⟩
  refine ⟨B1, ⟨P1, ho.keep (fun k e => Below.heap_setCell w' ⟨lo, 0, none⟩ v' k (fun e' => n2 (by
    have : lo = k := e'.symm
    rw [this]
    exact e)))⟩, O1.setCell (p := ⟨lo, 0, none⟩) (.inl (.inl rfl)) v', fun k e => ?_⟩
  rcases hg.at_ with q | q
  · exact .inl (by rw [← q]; exact e)
  · rw [q] at e
    injection e with e
    exact .inr (by omega)
theorem enc7 {e : En} {P : Option Addr} {h : Nat} (hP : e.ptr = .pointer P) : (E7.enc (e, h)).toArray = #[.int .i64 e.b.x, .int .i64 e.b.y, .int .i64 e.b.w, .int .i64 e.b.h, .pointer P, .int .i64 e.v, .int .i64 h] := by
  show #[Value.int .i64 e.b.x, .int .i64 e.b.y, .int .i64 e.b.w, .int .i64 e.b.h, e.ptr, .int .i64 e.v, .int .i64 h] = _
  rw [hP]
end Go.Proofs.Ytndhdpjgnepfnaa.tr
