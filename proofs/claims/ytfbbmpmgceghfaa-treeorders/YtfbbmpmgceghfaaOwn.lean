/-
  Words on memory: a slice that has its block for itself, known by the list of what it holds ('Owns'); where it lies behind an append. No program is spoken of. Conditions: none.
-/
import Derived.Test.YtfbbmpmgceghfaaObj
import Derived.Maps.AppendAt
import Derived.OwnWalk
import Derived.WalkSmall
namespace Go.Proofs.Ytfbbmpmgceghfaa
open Go.RowKit
set_option maxRecDepth 100000

/-- v is a slice that begins at its block's first cell and holds just xs (one cell an element), or nil. -/
def Owns (w : World) (e : TypeId) (v : Value) (xs : List Value) : Prop := w.ownsRow 0 e 1 v xs.length xs

section
variable {w w' : World} {e t : TypeId} {v : Value} {xs : List Value}
theorem Owns.nil (w : World) (e : TypeId) : Owns w e (.slice none 0 0) [] := World.ownsRow_nil _ _ _ _
theorem Owns.shape (h : Owns w e v xs) : ∃ a cap, v = .slice a xs.length cap ∧ (a = none → cap = 0 ∧ xs = []) ∧ ∀ ad, a = some ad → ∃ g, ad = ⟨g, 0, none⟩ := by
  rcases h.2 with ⟨rfl, h0⟩ | ⟨g, cap, cur, rfl, _⟩
  · exact ⟨none, 0, by rw [h0], fun _ => ⟨rfl, List.eq_nil_of_length_eq_zero h0⟩, fun _ h => (by cases h)⟩
  · exact ⟨_, cap, rfl, fun h => (by cases h), fun ad h => ⟨g, by cases h; rfl⟩⟩
theorem Owns.pos (h : Owns w e v xs) (hp : 0 < xs.length) : ∃ g cap, v = .slice (some ⟨g, 0, none⟩) xs.length cap := by
  rcases h.2 with ⟨rfl, h0⟩ | ⟨g, cap, cur, rfl, _⟩
  · omega
  · exact ⟨g, cap, rfl⟩
theorem Owns.capLe {g n cap : Nat} (h : Owns w e (.slice (some ⟨g, 0, none⟩) n cap) xs) : n = xs.length ∧ n ≤ cap ∧ cap ≤ maxLen := by
  rcases h.2 with ⟨h', _⟩ | ⟨g', cap', cur, h', _, _, h1, h2, _⟩
  · cases h'
  · cases h'; exact ⟨rfl, h1, h2⟩
theorem Owns.lt (h : Owns w e v xs) {k : Nat} (hk : v.ownBlock = some k) : k < w.heap.size := (World.ownsRow.lt h k hk).2
theorem Owns.cell {g n cap : Nat} (h : Owns w e (.slice (some ⟨g, 0, none⟩) n cap) xs) (j : Nat) (hj : j < xs.length) : w.cell? ⟨g, j, none⟩ = xs[j]? := by obtain rfl := h.capLe.1; exact World.ownsRow.cellAt h j (by omega)
theorem Owns.free {g n cap : Nat} (h : Owns w e (.slice (some ⟨g, 0, none⟩) n cap) xs) (j : Nat) : w.frozen? ⟨g, j, none⟩ = false := by obtain rfl := h.capLe.1; exact World.ownsRow.frozenAt h j
theorem Owns.by (h : Owns w e v xs) (hb : ∀ k, v.ownBlock = some k → k < w.heap.size → w'.heap[k]? = w.heap[k]?) : Owns w' e v xs := by
  refine ⟨h.1, ?_⟩
  rcases h.2 with hn | ⟨g, cap, cur, rfl, h0, hgg, rest⟩
  · exact .inl hn
  · exact .inr ⟨g, cap, cur, rfl, h0, (hb g rfl (Array.getElem?_eq_some_iff.1 hgg).1).trans hgg, rest⟩
theorem Owns.keep {S : Nat → Prop} (h : Owns w e v xs) (hk : Keep S w w') (hs : ∀ k, v.ownBlock = some k → ¬ S k) : Owns w' e v xs := h.by fun k hv hlt => hk.block k hlt (hs k hv)
theorem Owns.alloc (h : Owns w e v xs) (o : Obj) : Owns (w.alloc o) e v xs := World.ownsRow.alloc h o
theorem Owns.drew (h : Owns w e v xs) : Owns w.drew e v xs := h
theorem Owns.far (h : Owns w e v xs) {p : Addr} (hp : v.ownBlock ≠ some p.block) (u : Value) : Owns (w.setCell p u) e v xs := ownsRow_setCell_other h hp u
theorem Owns.put {g n cap : Nat} (h : Owns w e (.slice (some ⟨g, 0, none⟩) n cap) xs) (j : Nat) (u : Value) : Owns (w.setCell ⟨g, j, none⟩ u) e (.slice (some ⟨g, 0, none⟩) n cap) (xs.set j u) := by
  obtain rfl := h.capLe.1
  have := (World.ownsRow.stored h j u).1
  unfold Owns; rwa [List.length_set]
theorem Owns.pop {g n cap : Nat} {x : Value} (h : Owns w e (.slice (some ⟨g, 0, none⟩) n cap) (xs ++ [x])) : Owns w e (.slice (some ⟨g, 0, none⟩) xs.length cap) xs := by
  obtain rfl : n = xs.length + 1 := by simpa using h.capLe.1
  refine ownsRow_pop (last := [x]) (by simp) ?_
  have := h
  unfold Owns at this
  rwa [List.length_append, List.length_singleton] at this
theorem Owns.ne {g : Nat} {cs : Array Value} (h : Owns w e v xs) (hw : Whole w g t cs) (hte : t ≠ e) : v.ownBlock ≠ some g := by
  rcases h.2 with ⟨rfl, _⟩ | ⟨g', cap, cur, rfl, _, hgb, _⟩
  · simp [Value.ownBlock]
  · intro e'
    obtain rfl : g' = g := by simpa [Value.ownBlock] using e'
    have := (show w.heap[g']? = _ from hw).symm.trans hgb
    simp at this
    exact hte this.2
theorem Owns.apart {e' : TypeId} {v' : Value} {xs' : List Value} (h : Owns w e v xs) (h' : Owns w e' v' xs') (hte : e ≠ e') {k : Nat} (hk : v.ownBlock = some k) : v'.ownBlock ≠ some k := by
  rcases h.2 with ⟨rfl, _⟩ | ⟨g, cap, cur, rfl, _, hgb, _⟩
  · simp [Value.ownBlock] at hk
  · obtain rfl : g = k := by simpa [Value.ownBlock] using hk
    rcases h'.2 with ⟨rfl, _⟩ | ⟨g', cap', cur', rfl, _, hgb', _⟩
    · simp [Value.ownBlock]
    · intro e''
      obtain rfl : g' = g := by simpa [Value.ownBlock] using e''
      have := hgb.symm.trans hgb'
      simp at this
      exact hte this.2
theorem Owns.lit (w : World) (e : TypeId) (cs : List Value) (hm : cs.length ≤ maxLen) : Owns (w.alloc (.cells cs.toArray e)) e (.slice (some ⟨w.heap.size, 0, none⟩) cs.length cs.length) cs :=
  World.ownsRow_lit (base := 0) w cs.toArray cs.length (Nat.zero_le _) hm (by simp)
/-- The cells of what is read, for an append from it. -/
theorem Owns.news {g n cap : Nat} (h : Owns w e (.slice (some ⟨g, 0, none⟩) n cap) xs) : ∀ j u, xs[j]? = some u → w.cell? ((⟨g, 0, none⟩ : Addr).add j) = some u := by obtain rfl := h.capLe.1; exact World.ownsRow.cells h (g := g) rfl
end

theorem Keep.of_grown {w w' : World} {row : Option Nat} (h : w.grownBy w' row) : Keep (fun k => row = some k) w w' := ⟨h.os, h.tape, h.output, h.size, fun k hk hs => h.block k hk (fun e => hs e.symm)⟩

section
variable {P : Program} (w : World)
/-- An append of m cells behind what one owns: who owns what then, what has turned, and where the new one lies. -/
theorem run_append_owns (t ty e : TypeId) (i : TypeInfo) (z : Value) (bytes : Nat) (ht : P.underlying t = some (.slice e)) (hi : P.info? e = some i) (hz : i.zero = some z)
    (hsize : i.size = 1) (hby : i.bytes = bytes) (hzs : z.cells.size = 1) (v : Value) (xs : List Value) (hown : Owns w e v xs)
    (src : Option Addr) (m c : Nat) (news : List Value) (hl : news.length = m) (hn : src = none → m = 0 ∧ c = 0) (hnews : ∀ a, src = some a → ∀ j u, news[j]? = some u → w.cell? (a.add j) = some u) (h1 : ∀ u ∈ news, u.oneCell' = true)
    (h63 : xs.length + m ≤ maxLen) (hbytes : (xs.length + m) * bytes ≤ 140737488355328) :
    ∃ v' w', (Builtin.append_ #[t, t] ty #[v, .slice src m c]).run P w = .ok v' w' ∧ Owns w' e v' (xs ++ news) ∧ Keep (fun k => v.ownBlock = some k) w w' ∧ (∀ k, v'.ownBlock = some k → v.ownBlock = some k ∨ w.heap.size ≤ k) ∧
      (v' = .slice none 0 0 ↔ v = .slice none 0 0 ∧ m = 0) := by
  cases src with
  | none =>
    obtain ⟨rfl, rfl⟩ := hn rfl
    obtain rfl : news = [] := List.eq_nil_of_length_eq_zero hl
    exact ⟨v, w, run_append_owned_none (P := P) w 0 t ty e i 1 ht hi v xs.length xs hown, by simpa using hown, Keep.refl _ _, fun k hk => .inl hk, by simp⟩
  | some a =>
    have hnews := hnews a rfl
    obtain ⟨v', w', hr, hown', hg, hnil⟩ := run_append_own (P := P) w 0 t ty e i z 1 bytes ht hi hz hsize hby hzs (by decide) v xs.length xs hown a m c news (by simpa using hl) hnews h1 h63 hbytes (Nat.zero_le _)
    refine ⟨v', w', hr, ?_, Keep.of_grown hg, fun k hk => ?_, hnil⟩
    · unfold Owns; rwa [List.length_append, hl]
    rcases hown.2 with ⟨rfl, h0⟩ | ⟨g, cap, cur, rfl, _, hgb, hnc, hcm, hcs, htake⟩
    · obtain rfl := List.eq_nil_of_length_eq_zero h0
      obtain ⟨v2, w2, hr2, hown2, _⟩ := run_append_own (P := P) w w.heap.size t ty e i z 1 bytes ht hi hz hsize hby hzs (by decide) (.slice none 0 0) 0 [] (World.ownsRow_nil _ _ _ _) a m c news (by simpa using hl) hnews h1 h63 hbytes (Nat.le_refl _)
      rw [hr] at hr2
      cases hr2
      exact .inr (hown2.lt k hk).1
    · by_cases hroom : xs.length + m ≤ cap
      · have hr2 := run_append_room (P := P) w t ty e i ht hi g xs.length cap cur hgb a m c news (by rw [hsize]; simpa using hl) hnews h1 hroom (by rw [hsize, hcs, hl]; omega)
        rw [hr] at hr2
        cases hr2
        exact .inl hk
      · have hr2 := run_append_grow (P := P) w t ty e i z ht hi hz ⟨g, 0, none⟩ xs.length cap xs (by rw [hsize]; simp) (hown.cells (g := g) rfl) a m c news (by rw [hsize]; simpa using hl) hnews (by omega) (by unfold maxLen at h63; omega) (growslice_fits (by omega) (by rw [hby]; exact hbytes))
        rw [hr] at hr2
        cases hr2
        simp [Value.ownBlock] at hk
        exact .inr (by omega)

theorem wpList_append_owns {w : World} {ops : Array Oper} {rest : List Oper} {o : Oper} {a : Act} {Q : Exit → Act → World → Prop} (hgd : o.guard = none) (s x : Operand) (t : TypeId)
    (ho : o.op = .call { callee := .builtin .append, args := #[s, x], argTypes := #[t, t] })
    (e : TypeId) (i : TypeInfo) (z : Value) (bytes : Nat) (ht : P.underlying t = some (.slice e)) (hi : P.info? e = some i) (hz : i.zero = some z)
    (hsize : i.size = 1) (hby : i.bytes = bytes) (hzs : z.cells.size = 1) (v : Value) (xs : List Value) (hs : a.eval s = v) (hown : Owns w e v xs)
    (src : Option Addr) (m c : Nat) (news : List Value) (hx : a.eval x = .slice src m c) (hl : news.length = m) (hn : src = none → m = 0 ∧ c = 0) (hnews : ∀ a, src = some a → ∀ j u, news[j]? = some u → w.cell? (a.add j) = some u) (h1 : ∀ u ∈ news, u.oneCell' = true)
    (h63 : xs.length + m ≤ maxLen) (hbytes : (xs.length + m) * bytes ≤ 140737488355328)
    (h : ∀ v' w', Owns w' e v' (xs ++ news) → Keep (fun k => v.ownBlock = some k) w w' → (∀ k, v'.ownBlock = some k → v.ownBlock = some k ∨ w.heap.size ≤ k) → (v' = .slice none 0 0 ↔ v = .slice none 0 0 ∧ m = 0) → wpList P ops Q rest (a.put o.dst v') w') : wpList P ops Q (o :: rest) a w := by
  refine wpList_plain hgd fun K hK => ?_
  obtain ⟨v', w', hr, h2, h3, h4, h5⟩ := run_append_owns (P := P) w t o.type e i z bytes ht hi hz hsize hby hzs v xs hown src m c news hl hn hnews h1 h63 hbytes
  unfold Oper.wp execOp
  simp only [ho, resolve, invoke, builtin, Sem.run_bind, Sem.run_pure, Result.andThen_ok, List.map_toArray, List.map_cons, List.map_nil, hs, hx, hr]
  exact hK _ _ (h v' w' h2 h3 h4 h5)
end
theorem one_news (w : World) (x : Value) (t : TypeId) : ∀ a, (some ⟨w.heap.size, 0, none⟩ : Option Addr) = some a → ∀ j u, [x][j]? = some u → (w.alloc (.cells #[x] t)).cell? (a.add j) = some u := fun a h => by cases h; exact cell_one_new w x t
end Go.Proofs.Ytfbbmpmgceghfaa
