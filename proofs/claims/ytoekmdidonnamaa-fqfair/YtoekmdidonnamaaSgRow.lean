/-
  A slice of segments that lies somewhere in a block of segments (what was in front of it has been taken away), or nil: its cells, its tail, an append. Conditions: none.
-/
import Derived.Test.YtoekmdidonnamaaSegC
import Derived.Test.YtoekmdidonnamaaChecked
namespace Go.Proofs.Ytoekmdidonnamaa
open Go.RowKit
set_option maxRecDepth 100000

theorem Try.infoSg : (Try.prog.info? 34).map (fun i => (i.zero, i.size, i.bytes)) = some (some Sg.zero.v, 5, 40) := by kernel_rfl
/-- v holds the segments l, in a block of segments; or it is nil. -/
def SgAt (w : World) (v : Value) (l : List Sg) : Prop :=
  (v = .slice none 0 0 ∧ l = []) ∨ ∃ g o cap cur, v = .slice (some ⟨g, o, none⟩) l.length cap ∧ w.heap[g]? = some (.cells cur 34 (0, 0)) ∧ l.length ≤ cap ∧ cap ≤ maxLen ∧ o + cap * 5 ≤ cur.size ∧ ∀ j u, (flatG l)[j]? = some u → cur[o + j]? = some u
section
variable {w w' : World} {v : Value} {l : List Sg} {S : Nat → Prop}
theorem SgAt.nil (w : World) : SgAt w (.slice none 0 0) [] := .inl ⟨rfl, rfl⟩
theorem SgAt.lt (h : SgAt w v l) {k : Nat} (hk : v.ownBlock = some k) : k < w.heap.size := by
  rcases h with ⟨rfl, _⟩ | ⟨g, o, cap, cur, rfl, hg, _⟩
  · cases hk
  · obtain rfl : g = k := by simpa [Value.ownBlock] using hk
    exact (Array.getElem?_eq_some_iff.1 hg).1
theorem SgAt.keep (h : SgAt w v l) (hk : Keep S w w') (hs : ∀ k, v.ownBlock = some k → ¬ S k) : SgAt w' v l := by
  rcases h with h | ⟨g, o, cap, cur, rfl, hg, h1, h2, h3, h4⟩
  · exact .inl h
  · exact .inr ⟨g, o, cap, cur, rfl, (hk.block g (Array.getElem?_eq_some_iff.1 hg).1 (hs g rfl)).trans hg, h1, h2, h3, h4⟩
theorem SgAt.kept (h : SgAt w v l) (hk : Keep (fun _ => False) w w') : SgAt w' v l := h.keep hk (fun _ _ => id)
theorem SgAt.shape (h : SgAt w v l) : ∃ a cap, v = .slice a l.length cap ∧ (a = none → cap = 0 ∧ l = []) ∧ ∀ ad, a = some ad → ∃ g o, ad = ⟨g, o, none⟩ := by
  rcases h with ⟨rfl, rfl⟩ | ⟨g, o, cap, cur, rfl, _⟩
  · exact ⟨none, 0, rfl, fun _ => ⟨rfl, rfl⟩, fun _ h => (by cases h)⟩
  · exact ⟨_, cap, rfl, fun h => (by cases h), fun ad h => ⟨g, o, by cases h; rfl⟩⟩
/-- The cells of what is in it, as one run. -/
theorem SgAt.run {g o n cap : Nat} (h : SgAt w (.slice (some ⟨g, o, none⟩) n cap) l) : ∀ j u, (flatG l)[j]? = some u → w.cell? ⟨g, o + j, none⟩ = some u := fun j u hu => by
  rcases h with ⟨e, _⟩ | ⟨g', o', cap', cur, e, hg, _, _, _, h4⟩
  · cases e
  · cases e
    rw [cell_of_row w g (o + j) cur _ (0, 0) hg]
    exact h4 j u hu
theorem SgAt.capLe {g o n cap : Nat} (h : SgAt w (.slice (some ⟨g, o, none⟩) n cap) l) : n = l.length ∧ n ≤ cap ∧ cap ≤ maxLen := by
  rcases h with ⟨e, _⟩ | ⟨g', o', cap', cur, e, hg, h1, h2, _, _⟩
  · cases e
  · cases e; exact ⟨rfl, h1, h2⟩
/-- The first one. -/
theorem SgAt.head {x : Sg} {r : List Sg} (h : SgAt w v (x :: r)) :
    ∃ g o cap, v = .slice (some ⟨g, o, none⟩) (r.length + 1) cap ∧ r.length + 1 ≤ cap ∧ cap ≤ maxLen ∧ g < w.heap.size ∧ w.cell? ⟨g, o, none⟩ = some (.int .i64 x.s) ∧ w.cell? ⟨g, o + 1, none⟩ = some (.int .u64 x.f) ∧ w.cell? ⟨g, o + 2, none⟩ = some (.int .i64 x.l) ∧ w.cell? ⟨g, o + 3, none⟩ = some (.int .u64 x.t) ∧ w.cell? ⟨g, o + 4, none⟩ = some (.bool x.a) := by
  rcases id h with ⟨rfl, e⟩ | ⟨g, o, cap, cur, rfl, hg, h1, h2, _⟩
  · cases e
  · have hr := h.run
    exact ⟨g, o, cap, rfl, h1, h2, (Array.getElem?_eq_some_iff.1 hg).1, hr 0 _ rfl, hr 1 _ rfl, hr 2 _ rfl, hr 3 _ rfl, hr 4 _ rfl⟩
/-- The first one taken away: what a slice expression from 1 on makes. -/
theorem SgAt.tail {g o n cap : Nat} {x : Sg} {r : List Sg} (h : SgAt w (.slice (some ⟨g, o, none⟩) n cap) (x :: r)) {a : Option Addr} {m c : Nat} (hm : m = r.length) (hc : c = cap - 1)
    (ha : a = if cap = 1 then some ⟨g, o, none⟩ else some ⟨g, o + 5, none⟩) : SgAt w (.slice a m c) r := by
  rcases h with ⟨e, _⟩ | ⟨g', o', cap', cur, e, hg, h1, h2, h3, h4⟩
  · cases e
  · cases e
    subst hm hc
    simp only [List.length_cons] at h1
    by_cases e1 : cap = 1
    · have hr : r = [] := List.eq_nil_of_length_eq_zero (by omega)
      subst hr
      rw [ha, if_pos e1]
      exact .inr ⟨g, o, cap - 1, cur, rfl, hg, by simp, by omega, by omega, fun j u hu => by simp [flatG] at hu⟩
    · rw [ha, if_neg e1]
      refine .inr ⟨g, o + 5, cap - 1, cur, rfl, hg, by omega, by omega, by omega, fun j u hu => ?_⟩
      rw [Nat.add_assoc]
      refine h4 (5 + j) u ?_
      rw [flatG, List.getElem?_append_right (by simp [Sg.cells])]
      simpa [Sg.cells] using hu
theorem SgAt.of_row {n : Nat} (h : w.ownsRow 0 34 5 v n (flatG l)) (hn : n = l.length) : SgAt w v l := by
  subst hn
  rcases h.2 with ⟨rfl, h0⟩ | ⟨g, cap, cur, rfl, _, hg, hnc, hcm, hcs, htake⟩
  · exact .inl ⟨rfl, List.eq_nil_of_length_eq_zero h0⟩
  · refine .inr ⟨g, 0, cap, cur, rfl, hg, hnc, hcm, by omega, fun j u hu => ?_⟩
    rw [Nat.zero_add]
    rw [← htake, List.getElem?_take] at hu
    split at hu
    · simpa using hu
    · cases hu
/-- Some segments of a call's own are one such slice. -/
theorem SgAt.of_sgs (h : (sgsT 34 v l).at_ w) : SgAt w v l := SgAt.of_row (show w.ownsRow 0 _ 5 v l.length (flatG l) from h) rfl

/-- An append of one. -/
theorem run_append_sg {P : Program} (w : World) (t ty : TypeId) (i : TypeInfo) (ht : P.underlying t = some (.slice 34)) (hi : P.info? 34 = some i) (hz : i.zero = some Sg.zero.v) (hsize : i.size = 5) (hby : i.bytes = 40)
    {v : Value} {l : List Sg} (h : SgAt w v l) (hl : l.length ≤ 100000) (a : Addr) (c : Nat) (x : Sg) (hx : ∀ j u, x.cells[j]? = some u → w.cell? (a.add j) = some u) :
    ∃ v' w', (Builtin.append_ #[t, t] ty #[v, .slice (some a) 1 c]).run P w = .ok v' w' ∧ SgAt w' v' (l ++ [x]) ∧ Keep (fun k => v.ownBlock = some k) w w' ∧ (∀ k, v'.ownBlock = some k → v.ownBlock = some k ∨ w.heap.size ≤ k) := by
  have hlen : x.cells.length = 1 * i.size := by rw [hsize]; rfl
  rcases h with ⟨rfl, rfl⟩ | ⟨g, o, cap, cur, rfl, hg, h1, h2, h3, h4⟩
  · obtain ⟨v', w', hr, hown, hgr, _⟩ := run_append_own (P := P) w w.heap.size t ty 34 i Sg.zero.v 5 40 ht hi hz hsize hby rfl (by decide) (.slice none 0 0) 0 [] (World.ownsRow_nil _ _ _ _) a 1 c x.cells (by rw [hlen, hsize]) hx (one_sg x) (by decide) (by decide) (Nat.le_refl _)
    refine ⟨v', w', hr, ?_, (Keep.of_grown hgr).mono (fun k e => e), fun k hk => .inr (hown.lt k hk).1⟩
    have hown0 : w'.ownsRow 0 34 5 v' 1 (flatG [x]) := by
      refine ⟨by rw [flatG_len]; rfl, ?_⟩
      rcases hown.2 with h | ⟨g, cap, cur, e, _, rest⟩
      · exact .inl h
      · refine .inr ⟨g, cap, cur, e, Nat.zero_le _, ?_⟩
        rw [show flatG [x] = [] ++ x.cells by simp [flatG]]
        exact rest
    exact SgAt.of_row hown0 rfl
  · have hflat := flatG_len l
    by_cases hroom : l.length + 1 ≤ cap
    · have hf := run_firstCells_some (P := P) w i.size 1 a 1 c x.cells hlen hx
      rw [hsize] at hf
      have hcell5 : x.cells.length = 5 := rfl
      have hst := run_storeCells_at P g (o + l.length * 5) 34 x.cells 0 cur w hg (by rw [hcell5]; omega) (one_sg x)
      simp only [Nat.add_zero] at hst
      refine ⟨.slice (some ⟨g, o, none⟩) (l.length + 1) cap, w.setRow g (cur.toList.take (o + l.length * 5) ++ x.cells ++ cur.toList.drop (o + l.length * 5 + x.cells.length)).toArray, ?_, ?_, ?_, fun k hk => .inl hk⟩
      · simp [Builtin.append_, run_underlying ht, sizeOf, typeInfo, hi, Builtin.lenOf, hroom, hf, Addr.add_lit, hst, hsize]
      · refine .inr ⟨g, o, cap, _, by rw [List.length_append, List.length_singleton], setRow_heap w g cur _ _ _ hg, by rw [List.length_append, List.length_singleton]; exact hroom, h2, ?_, fun j u hu => ?_⟩
        · simp only [List.size_toArray, List.length_append, List.length_take, List.length_drop, Array.length_toList, hcell5]
          omega
        · rw [← flatG_app] at hu
          rw [List.getElem?_toArray]
          by_cases hj : j < l.length * 5
          · rw [List.getElem?_append_left (by rw [hflat]; exact hj)] at hu
            rw [List.append_assoc, List.getElem?_append_left (by rw [List.length_take, Array.length_toList (xs := cur)]; omega), List.getElem?_take_of_lt (by omega), Array.getElem?_toList]
            exact h4 j u hu
          · rw [List.getElem?_append_right (by rw [hflat]; omega), hflat] at hu
            have hj5 : j - l.length * 5 < 5 := by
              have := (List.getElem?_eq_some_iff.1 hu).1
              rwa [hcell5] at this
            rw [List.append_assoc, List.getElem?_append_right (by rw [List.length_take, Array.length_toList (xs := cur)]; omega), List.length_take, Array.length_toList (xs := cur), List.getElem?_append_left (by rw [hcell5]; omega),
              show o + j - min (o + l.length * 5) cur.size = j - l.length * 5 by omega]
            exact hu
      · exact ⟨rfl, rfl, rfl, by simp, fun k _ hk => setRow_other w g k _ (fun e => hk (by simp [Value.ownBlock, e]))⟩
    · have hr := run_append_grow (P := P) w t ty 34 i Sg.zero.v ht hi hz ⟨g, o, none⟩ l.length cap (flatG l) (by rw [hsize, flatG_len]) (fun j u hu => by
          rw [Addr.add_lit, cell_of_row w g (o + j) cur _ (0, 0) hg]; exact h4 j u hu) a 1 c x.cells hlen hx (by omega) (by omega) (growslice_fits (by omega) (by rw [hby]; omega))
      refine ⟨_, _, hr, ?_, ((Keep.refl _ w).drew).alloc _, fun k hk => .inr (by simp [Value.ownBlock] at hk; omega)⟩
      have hge := grownCap_ge w (l.length + 1) cap 34
      have hle := grownCap_le_maxLen w (l.length + 1) cap 34 (by unfold maxLen; omega)
      generalize grownCap w (l.length + 1) cap 34 = C at *
      refine .inr ⟨w.heap.size, 0, C, _, by rw [List.length_append, List.length_singleton], heap_alloc_new w.drew _, by rw [List.length_append, List.length_singleton]; exact hge, hle, ?_, fun j u hu => ?_⟩
      · simp only [Array.size_append, List.size_toArray, flatG_len, size_zeroCells]
        have : x.cells.length = 5 := rfl
        have h5 : Sg.zero.v.cells.size = 5 := rfl
        rw [h5]
        omega
      · rw [← flatG_app] at hu
        rw [Nat.zero_add, Array.getElem?_append_left (by
          have := (List.getElem?_eq_some_iff.1 hu).1
          simpa using this), List.append_toArray, List.getElem?_toArray]
        exact hu
theorem wpList_append_sg {P : Program} {w : World} {ops : Array Oper} {rest : List Oper} {o : Oper} {a : Act} {Q : Exit → Act → World → Prop} (hgd : o.guard = none) (s x : Operand) (t : TypeId)
    (ho : o.op = .call { callee := .builtin .append, args := #[s, x], argTypes := #[t, t] })
    (i : TypeInfo) (ht : P.underlying t = some (.slice 34)) (hi : P.info? 34 = some i) (hz : i.zero = some Sg.zero.v) (hsize : i.size = 5) (hby : i.bytes = 40)
    (v : Value) (l : List Sg) (hs : a.eval s = v) (h0 : SgAt w v l) (hl : l.length ≤ 100000) (ad : Addr) (c : Nat) (y : Sg) (hx : a.eval x = .slice (some ad) 1 c) (hy : ∀ j u, y.cells[j]? = some u → w.cell? (ad.add j) = some u)
    (h : ∀ v' w', SgAt w' v' (l ++ [y]) → Keep (fun k => v.ownBlock = some k) w w' → (∀ k, v'.ownBlock = some k → v.ownBlock = some k ∨ w.heap.size ≤ k) → wpList P ops Q rest (a.put o.dst v') w') : wpList P ops Q (o :: rest) a w := by
  refine wpList_plain hgd fun K hK => ?_
  obtain ⟨v', w', hr, h2, h3, h4⟩ := run_append_sg (P := P) w t o.type i ht hi hz hsize hby h0 hl ad c y hy
  unfold Oper.wp execOp
  simp only [ho, resolve, invoke, builtin, Sem.run_bind, Sem.run_pure, Result.andThen_ok, List.map_toArray, List.map_cons, List.map_nil, hs, hx, hr]
  exact hK _ _ (h v' w' h2 h3 h4)
end
end Go.Proofs.Ytoekmdidonnamaa
