/-
  Segments, flows and a config as cells; a slice of segments in a row of its own. Conditions: none.
  A slice of segments that lies somewhere in a block of segments (what was in front of it has been taken away), or nil: its cells, its tail, an append. Conditions: none.
  The document's queue as plain numbers and lists: each call keeps what holds of it. No program is spoken of. Conditions: none.
-/
import Derived.Test.YtnljjdfajmjdjaaJ02
import Derived.Test.YtnljjdfajmjdjaaJ01
import Derived.Test.YtnljjdfajmjdjaaChecked
namespace Go.Proofs.Ytnljjdfajmjdjaa
open Go.RowKit
set_option maxRecDepth 100000

def Sg.cells (x : Sg) : List Value := [.int .i64 x.s, .int .u64 x.f, .int .i64 x.l, .int .u64 x.t, .bool x.a]
abbrev Sg.v (x : Sg) : Value := .agg #[.int .i64 x.s, .int .u64 x.f, .int .i64 x.l, .int .u64 x.t, .bool x.a]
theorem one_sg (c : Sg) : ∀ u ∈ c.cells, u.oneCell' = true := fun u hu => by
  simp only [Sg.cells, List.mem_cons, List.not_mem_nil, or_false] at hu
  rcases hu with rfl | rfl | rfl | rfl | rfl <;> rfl
def flatG : List Sg → List Value
  | [] => []
  | c :: cs => c.cells ++ flatG cs
theorem flatG_len : ∀ cs, (flatG cs).length = cs.length * 5
  | [] => rfl
  | c :: cs => by rw [flatG, List.length_append, flatG_len cs]; simp [Sg.cells]; omega
theorem flatG_app (cs : List Sg) (c : Sg) : flatG cs ++ c.cells = flatG (cs ++ [c]) := by
  induction cs with
  | nil => rfl
  | cons a cs ih => rw [flatG, List.append_assoc, ih]; rfl
theorem flatG_add (cs ds : List Sg) : flatG (cs ++ ds) = flatG cs ++ flatG ds := by
  induction cs with
  | nil => rfl
  | cons a cs ih => show a.cells ++ flatG (cs ++ ds) = _; rw [ih, flatG, List.append_assoc]
theorem flatG_get : ∀ (cs : List Sg) (i j : Nat) (c : Sg), cs[i]? = some c → j < 5 → (flatG cs)[i * 5 + j]? = c.cells[j]?
  | [], i, j, c, h, _ => by simp at h
  | a :: cs, 0, j, c, h, hj => by simp at h; subst h; rw [flatG, List.getElem?_append_left (by simp [Sg.cells]; omega)]; simp
  | a :: cs, i + 1, j, c, h, hj => by
    simp at h
    have := flatG_get cs i j c h hj
    rw [flatG, List.getElem?_append_right (by simp [Sg.cells]; omega), ← this]
    congr 1
    simp [Sg.cells]; omega
/-- v holds the segments l, in a row of its own, or is nil. E: the type of a segment. -/
def sgsT (E : TypeId) (v : Value) (l : List Sg) : Thing := rowT v E 5 l.length (flatG l)
section
variable {w w' : World} {E : TypeId} {v : Value} {l : List Sg}
theorem sgs_nil (w : World) (E : TypeId) : (sgsT E (.slice none 0 0) []).at_ w := World.ownsRow_nil _ _ _ _
theorem sgs_shape (h : (sgsT E v l).at_ w) : ∃ a cap, v = .slice a l.length cap := by
  rcases (show w.ownsRow 0 E 5 v l.length (flatG l) from h).2 with ⟨rfl, h0⟩ | ⟨g, cap, cur, rfl, _⟩
  · exact ⟨none, 0, by rw [h0]⟩
  · exact ⟨_, cap, rfl⟩
theorem sgs_get {a : Option Addr} {n cap i : Nat} {x : Sg} (h : (sgsT E (.slice a n cap) l).at_ w) (hn : n = l.length) (hx : l[i]? = some x) :
    ∃ r, a = some ⟨r, 0, none⟩ ∧ w.cell? ⟨r, i * 5, none⟩ = some (.int .i64 x.s) ∧ w.cell? ⟨r, i * 5 + 1, none⟩ = some (.int .u64 x.f) ∧ w.cell? ⟨r, i * 5 + 2, none⟩ = some (.int .i64 x.l) ∧ w.cell? ⟨r, i * 5 + 3, none⟩ = some (.int .u64 x.t) ∧ w.cell? ⟨r, i * 5 + 4, none⟩ = some (.bool x.a) := by
  have h' : w.ownsRow 0 E 5 (.slice a n cap) l.length (flatG l) := h
  have hi := (List.getElem?_eq_some_iff.1 hx).1
  rcases h'.2 with ⟨e, h0⟩ | ⟨g, cap', cur, e, _⟩
  · omega
  · cases e
    have hc : ∀ j, j < 5 → w.cell? ⟨g, i * 5 + j, none⟩ = x.cells[j]? := fun j hj => by
      rw [World.ownsRow.cellAt h' (i * 5 + j) (by omega), flatG_get l i j x hx hj]
    exact ⟨g, rfl, hc 0 (by omega), hc 1 (by omega), hc 2 (by omega), hc 3 (by omega), hc 4 (by omega)⟩
/-- Another one appended. -/
theorem sgs_more {v' : Value} {x : Sg} (h : w'.ownsRow 0 E 5 v' (l.length + 1) (flatG l ++ x.cells)) : (sgsT E v' (l ++ [x])).at_ w' := by
  show w'.ownsRow 0 E 5 v' (l ++ [x]).length (flatG (l ++ [x]))
  rw [List.length_append, List.length_singleton, ← flatG_app]
  exact h
end

/-! ### A flow, a config -/
def flV (v : Value) (f : Fl) : Nat → Value
  | 0 => .int .i64 f.s
  | 1 => .int .i64 f.c
  | 2 => .int .i64 f.p
  | 3 => .int .u64 f.n
  | 4 => .int .u64 f.u
  | _ => v
/-- A flow as a value; v: its slice. -/
abbrev Fl.v (v : Value) (f : Fl) : Value := .agg #[.int .i64 f.s, .int .i64 f.c, .int .i64 f.p, .int .u64 f.n, .int .u64 f.u, v]
def cfV (c : Cf) : Nat → Value
  | 0 => .int .i64 c.q
  | 1 => .int .i64 c.f
  | 2 => .int .i64 c.l
  | 3 => .int .i64 c.w
  | 4 => .int .u64 c.h
  | 5 => .int .u64 c.r
  | 6 => .bool c.d
  | 7 => .int .i64 c.k
  | _ => .int .i64 c.m
abbrev Cf.v (c : Cf) : Value := .agg #[.int .i64 c.q, .int .i64 c.f, .int .i64 c.l, .int .i64 c.w, .int .u64 c.h, .int .u64 c.r, .bool c.d, .int .i64 c.k, .int .i64 c.m]
end Go.Proofs.Ytnljjdfajmjdjaa
namespace Go.Proofs.Ytnljjdfajmjdjaa
open Go.RowKit
set_option maxRecDepth 100000

theorem Try.infoSg : (Try.prog.info? 34).map (fun i => (i.zero, i.size, i.bytes)) = some (some Sg.zero.v, 5, 40) := by kernel_rfl
/-- v holds the segments l, in a block of segments; or it is nil. -/
def SgAt (w : World) (v : Value) (l : List Sg) : Prop :=
  (v = .slice none 0 0 ∧ l = []) ∨ ∃ g o cap cur, v = .slice (some ⟨g, o, none⟩) l.length cap ∧ w.heap[g]? = some (.cells cur 34 (0, 0)) ∧ l.length ≤ cap ∧ cap ≤ maxLen ∧ o + cap * 5 ≤ cur.size ∧ ∀ j u, (flatG l)[j]? = some u → cur[o + j]? = some u
section
variable {w w' : World} {v : Value} {l : List Sg} {S : Nat → Prop}
theorem SgAt.nil (w : World) : SgAt w (.slice none 0 0) [] := .inl ⟨rfl, rfl⟩
theorem SgAt.lt (h : SgAt w v l) {k : Nat} (hk : v.ownBlock = some k) : k < w.heap.size := by
  rcases h with ⟨rfl, _⟩ | ⟨g, o, cap, cur, rfl, hg, _⟩
  · cases hk
  · obtain rfl : g = k := by simpa [Value.ownBlock] using hk
    exact (Array.getElem?_eq_some_iff.1 hg).1
theorem SgAt.keep (h : SgAt w v l) (hk : Keep S w w') (hs : ∀ k, v.ownBlock = some k → ¬ S k) : SgAt w' v l := by
  rcases h with h | ⟨g, o, cap, cur, rfl, hg, h1, h2, h3, h4⟩
  · exact .inl h
  · exact .inr ⟨g, o, cap, cur, rfl, (hk.block g (Array.getElem?_eq_some_iff.1 hg).1 (hs g rfl)).trans hg, h1, h2, h3, h4⟩
theorem SgAt.kept (h : SgAt w v l) (hk : Keep (fun _ => False) w w') : SgAt w' v l := h.keep hk (fun _ _ => id)
theorem SgAt.shape (h : SgAt w v l) : ∃ a cap, v = .slice a l.length cap ∧ (a = none → cap = 0 ∧ l = []) ∧ ∀ ad, a = some ad → ∃ g o, ad = ⟨g, o, none⟩ := by
  rcases h with ⟨rfl, rfl⟩ | ⟨g, o, cap, cur, rfl, _⟩
  · exact ⟨none, 0, rfl, fun _ => ⟨rfl, rfl⟩, fun _ h => (by cases h)⟩
  · exact ⟨_, cap, rfl, fun h => (by cases h), fun ad h => ⟨g, o, by cases h; rfl⟩⟩
/-- The cells of what is in it, as one run. -/
theorem SgAt.run {g o n cap : Nat} (h : SgAt w (.slice (some ⟨g, o, none⟩) n cap) l) : ∀ j u, (flatG l)[j]? = some u → w.cell? ⟨g, o + j, none⟩ = some u := fun j u hu => by
  rcases h with ⟨e, _⟩ | ⟨g', o', cap', cur, e, hg, _, _, _, h4⟩
  · cases e
  · cases e
    rw [cell_of_row w g (o + j) cur _ (0, 0) hg]
    exact h4 j u hu
theorem SgAt.capLe {g o n cap : Nat} (h : SgAt w (.slice (some ⟨g, o, none⟩) n cap) l) : n = l.length ∧ n ≤ cap ∧ cap ≤ maxLen := by
  rcases h with ⟨e, _⟩ | ⟨g', o', cap', cur, e, hg, h1, h2, _, _⟩
  · cases e
  · cases e; exact ⟨rfl, h1, h2⟩
/-- The first one. -/
theorem SgAt.head {x : Sg} {r : List Sg} (h : SgAt w v (x :: r)) :
    ∃ g o cap, v = .slice (some ⟨g, o, none⟩) (r.length + 1) cap ∧ r.length + 1 ≤ cap ∧ cap ≤ maxLen ∧ g < w.heap.size ∧ w.cell? ⟨g, o, none⟩ = some (.int .i64 x.s) ∧ w.cell? ⟨g, o + 1, none⟩ = some (.int .u64 x.f) ∧ w.cell? ⟨g, o + 2, none⟩ = some (.int .i64 x.l) ∧ w.cell? ⟨g, o + 3, none⟩ = some (.int .u64 x.t) ∧ w.cell? ⟨g, o + 4, none⟩ = some (.bool x.a) := by
  rcases id h with ⟨rfl, e⟩ | ⟨g, o, cap, cur, rfl, hg, h1, h2, _⟩
  · cases e
  · have hr := h.run
    exact ⟨g, o, cap, rfl, h1, h2, (Array.getElem?_eq_some_iff.1 hg).1, hr 0 _ rfl, hr 1 _ rfl, hr 2 _ rfl, hr 3 _ rfl, hr 4 _ rfl⟩
/-- The first one taken away: what a slice expression from 1 on makes. -/
theorem SgAt.tail {g o n cap : Nat} {x : Sg} {r : List Sg} (h : SgAt w (.slice (some ⟨g, o, none⟩) n cap) (x :: r)) {a : Option Addr} {m c : Nat} (hm : m = r.length) (hc : c = cap - 1)
    (ha : a = if cap = 1 then some ⟨g, o, none⟩ else some ⟨g, o + 5, none⟩) : SgAt w (.slice a m c) r := by
  rcases h with ⟨e, _⟩ | ⟨g', o', cap', cur, e, hg, h1, h2, h3, h4⟩
  · cases e
  · cases e
    subst hm hc
    simp only [List.length_cons] at h1
    by_cases e1 : cap = 1
    · have hr : r = [] := List.eq_nil_of_length_eq_zero (by omega)
      subst hr
      rw [ha, if_pos e1]
      exact .inr ⟨g, o, cap - 1, cur, rfl, hg, by simp, by omega, by omega, fun j u hu => by simp [flatG] at hu⟩
    · rw [ha, if_neg e1]
      refine .inr ⟨g, o + 5, cap - 1, cur, rfl, hg, by omega, by omega, by omega, fun j u hu => ?_⟩
      rw [Nat.add_assoc]
      refine h4 (5 + j) u ?_
      rw [flatG, List.getElem?_append_right (by simp [Sg.cells])]
      simpa [Sg.cells] using hu
theorem SgAt.of_row {n : Nat} (h : w.ownsRow 0 34 5 v n (flatG l)) (hn : n = l.length) : SgAt w v l := by
  subst hn
  rcases h.2 with ⟨rfl, h0⟩ | ⟨g, cap, cur, rfl, _, hg, hnc, hcm, hcs, htake⟩
  · exact .inl ⟨rfl, List.eq_nil_of_length_eq_zero h0⟩
  · refine .inr ⟨g, 0, cap, cur, rfl, hg, hnc, hcm, by omega, fun j u hu => ?_⟩
    rw [Nat.zero_add]
    rw [← htake, List.getElem?_take] at hu
    split at hu
    · simpa using hu
    · cases hu
/-- Some segments of a call's own are one such slice. -/
theorem SgAt.of_sgs (h : (sgsT 34 v l).at_ w) : SgAt w v l := SgAt.of_row (show w.ownsRow 0 _ 5 v l.length (flatG l) from h) rfl

/-- An append of one. -/
theorem run_append_sg {P : Program} (w : World) (t ty : TypeId) (i : TypeInfo) (ht : P.underlying t = some (.slice 34)) (hi : P.info? 34 = some i) (hz : i.zero = some Sg.zero.v) (hsize : i.size = 5) (hby : i.bytes = 40)
    {v : Value} {l : List Sg} (h : SgAt w v l) (hl : l.length ≤ 100000) (a : Addr) (c : Nat) (x : Sg) (hx : ∀ j u, x.cells[j]? = some u → w.cell? (a.add j) = some u) :
    ∃ v' w', (Builtin.append_ #[t, t] ty #[v, .slice (some a) 1 c]).run P w = .ok v' w' ∧ SgAt w' v' (l ++ [x]) ∧ Keep (fun k => v.ownBlock = some k) w w' ∧ (∀ k, v'.ownBlock = some k → v.ownBlock = some k ∨ w.heap.size ≤ k) := by
  have hlen : x.cells.length = 1 * i.size := by rw [hsize]; rfl
  rcases h with ⟨rfl, rfl⟩ | ⟨g, o, cap, cur, rfl, hg, h1, h2, h3, h4⟩
  · obtain ⟨v', w', hr, hown, hgr, _⟩ := run_append_own (P := P) w w.heap.size t ty 34 i Sg.zero.v 5 40 ht hi hz hsize hby rfl (by decide) (.slice none 0 0) 0 [] (World.ownsRow_nil _ _ _ _) a 1 c x.cells (by rw [hlen, hsize]) hx (one_sg x) (by decide) (by decide) (Nat.le_refl _)
    refine ⟨v', w', hr, ?_, (Keep.of_grown hgr).mono (fun k e => e), fun k hk => .inr (hown.lt k hk).1⟩
    have hown0 : w'.ownsRow 0 34 5 v' 1 (flatG [x]) := by
      refine ⟨by rw [flatG_len]; rfl, ?_⟩
      rcases hown.2 with h | ⟨g, cap, cur, e, _, rest⟩
      · exact .inl h
      · refine .inr ⟨g, cap, cur, e, Nat.zero_le _, ?_⟩
        rw [show flatG [x] = [] ++ x.cells by simp [flatG]]
        exact rest
    exact SgAt.of_row hown0 rfl
  · have hflat := flatG_len l
    by_cases hroom : l.length + 1 ≤ cap
    · have hf := run_firstCells_some (P := P) w i.size 1 a 1 c x.cells hlen hx
      rw [hsize] at hf
      have hcell5 : x.cells.length = 5 := rfl
      have hst := run_storeCells_at P g (o + l.length * 5) 34 x.cells 0 cur w hg (by rw [hcell5]; omega) (one_sg x)
      simp only [Nat.add_zero] at hst
      refine ⟨.slice (some ⟨g, o, none⟩) (l.length + 1) cap, w.setRow g (cur.toList.take (o + l.length * 5) ++ x.cells ++ cur.toList.drop (o + l.length * 5 + x.cells.length)).toArray, ?_, ?_, ?_, fun k hk => .inl hk⟩
      · simp [Builtin.append_, run_underlying ht, sizeOf, typeInfo, hi, Builtin.lenOf, hroom, hf, Addr.add_lit, hst, hsize]
      · refine .inr ⟨g, o, cap, _, by rw [List.length_append, List.length_singleton], setRow_heap w g cur _ _ _ hg, by rw [List.length_append, List.length_singleton]; exact hroom, h2, ?_, fun j u hu => ?_⟩
        · simp only [List.size_toArray, List.length_append, List.length_take, List.length_drop, Array.length_toList, hcell5]
          omega
        · rw [← flatG_app] at hu
          rw [List.getElem?_toArray]
          by_cases hj : j < l.length * 5
          · rw [List.getElem?_append_left (by rw [hflat]; exact hj)] at hu
            rw [List.append_assoc, List.getElem?_append_left (by rw [List.length_take, Array.length_toList (xs := cur)]; omega), List.getElem?_take_of_lt (by omega), Array.getElem?_toList]
            exact h4 j u hu
          · rw [List.getElem?_append_right (by rw [hflat]; omega), hflat] at hu
            have hj5 : j - l.length * 5 < 5 := by
              have := (List.getElem?_eq_some_iff.1 hu).1
              rwa [hcell5] at this
            rw [List.append_assoc, List.getElem?_append_right (by rw [List.length_take, Array.length_toList (xs := cur)]; omega), List.length_take, Array.length_toList (xs := cur), List.getElem?_append_left (by rw [hcell5]; omega),
              show o + j - min (o + l.length * 5) cur.size = j - l.length * 5 by omega]
            exact hu
      · exact ⟨rfl, rfl, rfl, by simp, fun k _ hk => setRow_other w g k _ (fun e => hk (by simp [Value.ownBlock, e]))⟩
    · have hr := run_append_grow (P := P) w t ty 34 i Sg.zero.v ht hi hz ⟨g, o, none⟩ l.length cap (flatG l) (by rw [hsize, flatG_len]) (fun j u hu => by
          rw [Addr.add_lit, cell_of_row w g (o + j) cur _ (0, 0) hg]; exact h4 j u hu) a 1 c x.cells hlen hx (by omega) (by omega) (growslice_fits (by omega) (by rw [hby]; omega))
      refine ⟨_, _, hr, ?_, ((Keep.refl _ w).drew).alloc _, fun k hk => .inr (by simp [Value.ownBlock] at hk; omega)⟩
      have hge := grownCap_ge w (l.length + 1) cap 34
      have hle := grownCap_le_maxLen w (l.length + 1) cap 34 (by unfold maxLen; omega)
      generalize grownCap w (l.length + 1) cap 34 = C at *
      refine .inr ⟨w.heap.size, 0, C, _, by rw [List.length_append, List.length_singleton], heap_alloc_new w.drew _, by rw [List.length_append, List.length_singleton]; exact hge, hle, ?_, fun j u hu => ?_⟩
      · simp only [Array.size_append, List.size_toArray, flatG_len, size_zeroCells]
        have : x.cells.length = 5 := rfl
        have h5 : Sg.zero.v.cells.size = 5 := rfl
        rw [h5]
        omega
      · rw [← flatG_app] at hu
        rw [Nat.zero_add, Array.getElem?_append_left (by
          have := (List.getElem?_eq_some_iff.1 hu).1
          simpa using this), List.append_toArray, List.getElem?_toArray]
        exact hu
theorem wpList_append_sg {P : Program} {w : World} {ops : Array Oper} {rest : List Oper} {o : Oper} {a : Act} {Q : Exit → Act → World → Prop} (hgd : o.guard = none) (s x : Operand) (t : TypeId)
    (ho : o.op = .call { callee := .builtin .append, args := #[s, x], argTypes := #[t, t] })
    (i : TypeInfo) (ht : P.underlying t = some (.slice 34)) (hi : P.info? 34 = some i) (hz : i.zero = some Sg.zero.v) (hsize : i.size = 5) (hby : i.bytes = 40)
    (v : Value) (l : List Sg) (hs : a.eval s = v) (h0 : SgAt w v l) (hl : l.length ≤ 100000) (ad : Addr) (c : Nat) (y : Sg) (hx : a.eval x = .slice (some ad) 1 c) (hy : ∀ j u, y.cells[j]? = some u → w.cell? (ad.add j) = some u)
    (h : ∀ v' w', SgAt w' v' (l ++ [y]) → Keep (fun k => v.ownBlock = some k) w w' → (∀ k, v'.ownBlock = some k → v.ownBlock = some k ∨ w.heap.size ≤ k) → wpList P ops Q rest (a.put o.dst v') w') : wpList P ops Q (o :: rest) a w := by
  refine wpList_plain hgd fun K hK => ?_
  obtain ⟨v', w', hr, h2, h3, h4⟩ := run_append_sg (P := P) w t o.type i ht hi hz hsize hby h0 hl ad c y hy
  unfold Oper.wp execOp
  simp only [ho, resolve, invoke, builtin, Sem.run_bind, Sem.run_pure, Result.andThen_ok, List.map_toArray, List.map_cons, List.map_nil, hs, hx, hr]
  exact hK _ _ (h v' w' h2 h3 h4)
end
end Go.Proofs.Ytnljjdfajmjdjaa
namespace Go.Proofs.Ytnljjdfajmjdjaa
open Go.RowKit
set_option maxRecDepth 100000

/-! ### The head -/
theorem head_in {N O : List Int} (hb : headB N O = true) : headS N O ∈ N ++ O := by
  unfold headB at hb
  unfold headS
  cases h : N ++ O with
  | nil => rw [h] at hb; cases hb
  | cons z r => exact List.mem_cons_self ..
/-- The head is there; it is new, or old. -/
theorem Qm.Ok.head {x : Qm} (h : x.Ok) (hb : headB x.N x.O = true) :
    ∃ i : Nat, i < 8 ∧ headS x.N x.O = (i : Int) ∧ (headS x.N x.O).toNat = i ∧ x.T i = true ∧ ((x.F i).p = 1 ∨ (x.F i).p = 2) ∧ (x.F i).Ok i := by
  have hz := head_sock h.ls hb
  have hi : (headS x.N x.O).toNat < 8 := by omega
  have hm := head_in hb
  rw [← sock_nat hz.1] at hm
  refine ⟨_, hi, (sock_nat hz.1).symm, rfl, ?_⟩
  rcases List.mem_append.1 hm with h1 | h1
  · have := (h.new _ hi).1 h1; exact ⟨this.1, .inl this.2, h.is _ hi this.1⟩
  · have := (h.old _ hi).1 h1; exact ⟨this.1, .inr this.2, h.is _ hi this.1⟩

/-! ### A turn of a pull -/
inductive TurnIs (d : Int → Int → Int) (x : Qm) (now : Int) : Prop where
  | none (hb : headB x.N x.O = false) (ht : turnQ d x now = .stop x none)
  | more (i : Nat) (hb : headB x.N x.O = true) (hi : i < 8) (hs : headS x.N x.O = (i : Int)) (hc : (x.F i).c ≤ 0)
      (ht : turnQ d x now = .on (putQ { x with F := upF x.F i { x.F i with c := (x.F i).c + x.c.q } } i 2))
  | back (i : Nat) (hb : headB x.N x.O = true) (hi : i < 8) (hs : headS x.N x.O = (i : Int)) (hc : ¬ (x.F i).c ≤ 0) (hq : (x.F i).q = [])
      (hf : headF x.N x.O = true ∧ x.O ≠ []) (ht : turnQ d x now = .on (putQ x i 2))
  | gone (i : Nat) (hb : headB x.N x.O = true) (hi : i < 8) (hs : headS x.N x.O = (i : Int)) (hc : ¬ (x.F i).c ≤ 0) (hq : (x.F i).q = [])
      (hf : ¬ (headF x.N x.O = true ∧ x.O ≠ [])) (ht : turnQ d x now = .on { putQ x i 0 with F := upF (putQ x i 0).F i { (putQ x i 0).F i with u := now } })
  | wait (i : Nat) (hb : headB x.N x.O = true) (hi : i < 8) (hs : headS x.N x.O = (i : Int)) (hc : ¬ (x.F i).c ≤ 0) (s : Sg) (r : List Sg) (hq : (x.F i).q = s :: r)
      (hw : now < timeF (x.F i)) (ht : turnQ d x now = .on (putQ x i 3))
  | dep (i : Nat) (hb : headB x.N x.O = true) (hi : i < 8) (hs : headS x.N x.O = (i : Int)) (hc : ¬ (x.F i).c ≤ 0) (s : Sg) (r : List Sg) (hq : (x.F i).q = s :: r)
      (hw : ¬ now < timeF (x.F i)) (ht : turnQ d x now = .stop { x with F := upF x.F i { x.F i with q := r, c := (x.F i).c - s.l, n := addS now (d s.l (i : Int)) } } (some s))
theorem turn_is (d : Int → Int → Int) {x : Qm} (now : Int) (h : LsOk x.N x.O) : TurnIs d x now := by
  by_cases hb : headB x.N x.O = false
  · exact .none hb (by unfold turnQ; rw [if_pos hb])
  · have hb' : headB x.N x.O = true := by simpa using hb
    have hz := head_sock h hb'
    obtain ⟨i, hi⟩ : ∃ i : Nat, headS x.N x.O = (i : Int) := ⟨(headS x.N x.O).toNat, (sock_nat hz.1).symm⟩
    have hi8 : i < 8 := by omega
    have hn : (headS x.N x.O).toNat = i := by rw [hi]; rfl
    have e : turnQ d x now = _ := rfl
    conv at e => rhs; unfold turnQ; rw [if_neg hb]; dsimp only; rw [hn]
    by_cases hc : (x.F i).c ≤ 0
    · exact .more i hb' hi8 hi hc (by rw [e, if_pos hc])
    · rw [if_neg hc] at e
      cases hq : (x.F i).q with
      | nil =>
        rw [hq] at e
        by_cases hf : headF x.N x.O = true ∧ x.O ≠ []
        · exact .back i hb' hi8 hi hc hq hf (by rw [e]; dsimp only; rw [if_pos hf])
        · exact .gone i hb' hi8 hi hc hq hf (by rw [e]; dsimp only; rw [if_neg hf])
      | cons s r =>
        rw [hq] at e
        by_cases hw : now < timeF (x.F i)
        · exact .wait i hb' hi8 hi hc s r hq hw (by rw [e]; dsimp only; rw [if_pos hw])
        · exact .dep i hb' hi8 hi hc s r hq hw (by rw [e]; dsimp only; rw [if_neg hw])

theorem putQ_F (x : Qm) (i : Nat) (p : Int) : (putQ x i p).F i = { x.F i with p := p } := upF_at _ _ _
theorem putQ_ne (x : Qm) {i j : Nat} (p : Int) (h : j ≠ i) : (putQ x i p).F j = x.F j := upF_ne _ _ h

theorem turn_ok {d : Int → Int → Int} {x : Qm} {now : Int} (h : x.Ok) (hn : U64 now) (hd : ∀ l z, 0 ≤ d l z) :
    (∀ y, turnQ d x now = .on y → y.Ok) ∧ ∀ y s, turnQ d x now = .stop y s → y.Ok := by
  have hcq := h.hc.hq
  cases turn_is d now h.ls with
  | none hb ht => rw [ht]; exact ⟨fun y e => (by cases e), fun y s e => (by cases e; exact h)⟩
  | more i hb hi hs hc ht =>
    rw [ht]
    refine ⟨fun y e => ?_, fun y s e => (by cases e)⟩
    cases e
    obtain ⟨i', _, e', _, hT, hp, hok⟩ := h.head hb
    obtain rfl : i' = i := by omega
    have e1 : (putQ { x with F := upF x.F i' { x.F i' with c := (x.F i').c + x.c.q } } i' 2).F i' = { x.F i' with c := (x.F i').c + x.c.q, p := 2 } := by rw [putQ_F]; show { upF x.F i' _ i' with p := 2 } = _; rw [upF_at]
    refine h.put hi (fun j hj => ?_) (fun _ => rfl) rfl hT ?_ (by rw [e1]; rfl) (by rw [e1]; rfl) (by rw [e1]; exact Nat.le_refl _)
    · rw [putQ_ne _ _ hj]; exact upF_ne _ _ hj
    · rw [e1]
      have := hok.hc
      exact ⟨hok.hs, ⟨by dsimp only; omega, by dsimp only; omega⟩, by dsimp only; omega, hok.hn, hok.hu, fun _ => hok.no (by omega), fun e => (by cases e), fun e => (by cases e), hok.hq⟩
  | back i hb hi hs hc hq hf ht =>
    rw [ht]
    refine ⟨fun y e => ?_, fun y s e => (by cases e)⟩
    cases e
    obtain ⟨i', _, e', _, hT, hp, hok⟩ := h.head hb
    obtain rfl : i' = i := by omega
    refine h.put hi (fun j hj => putQ_ne _ _ hj) (fun _ => rfl) rfl hT ?_ (by rw [putQ_F]; rfl) (by rw [putQ_F]; rfl) (by rw [putQ_F]; exact Nat.le_refl _)
    rw [putQ_F]
    exact ⟨hok.hs, hok.hc, by dsimp only; omega, hok.hn, hok.hu, fun _ => hok.no (by omega), fun e => (by cases e), fun e => (by cases e), hok.hq⟩
  | gone i hb hi hs hc hq hf ht =>
    rw [ht]
    refine ⟨fun y e => ?_, fun y s e => (by cases e)⟩
    cases e
    obtain ⟨i', _, e', _, hT, hp, hok⟩ := h.head hb
    obtain rfl : i' = i := by omega
    have e1 : ({ putQ x i' 0 with F := upF (putQ x i' 0).F i' { (putQ x i' 0).F i' with u := now } } : Qm).F i' = { x.F i' with p := 0, u := now } := by show upF _ i' _ i' = _; rw [upF_at, putQ_F]
    refine h.put hi (fun j hj => ?_) (fun _ => rfl) rfl hT ?_ (by rw [e1]; rfl) (by rw [e1]; rfl) (by rw [e1]; exact Nat.le_refl _)
    · show upF _ i' _ j = _; rw [upF_ne _ _ hj]; exact putQ_ne _ _ hj
    · rw [e1]
      exact ⟨hok.hs, hok.hc, by dsimp only; omega, hok.hn, hn, fun e => absurd rfl e, fun _ => hq, fun e => (by cases e), hok.hq⟩
  | wait i hb hi hs hc s r hq hw ht =>
    rw [ht]
    refine ⟨fun y e => ?_, fun y s e => (by cases e)⟩
    cases e
    obtain ⟨i', _, e', _, hT, hp, hok⟩ := h.head hb
    obtain rfl : i' = i := by omega
    refine h.put hi (fun j hj => putQ_ne _ _ hj) (fun _ => rfl) rfl hT ?_ (by rw [putQ_F]; rfl) (by rw [putQ_F]; rfl) (by rw [putQ_F]; exact Nat.le_refl _)
    rw [putQ_F]
    exact ⟨hok.hs, hok.hc, by dsimp only; omega, hok.hn, hok.hu, fun _ => hok.no (by omega), fun e => (by cases e), fun _ => by dsimp only; rw [hq]; exact List.cons_ne_nil _ _, hok.hq⟩
  | dep i hb hi hs hc s r hq hw ht =>
    rw [ht]
    refine ⟨fun y e => (by cases e), fun y s e => ?_⟩
    cases e
    obtain ⟨i', _, e', _, hT, hp, hok⟩ := h.head hb
    obtain rfl : i' = i := by omega
    have e1 : ({ x with F := upF x.F i' { x.F i' with q := r, c := (x.F i').c - s.l, n := addS now (d s.l (i' : Int)) } } : Qm).F i' = { x.F i' with q := r, c := (x.F i').c - s.l, n := addS now (d s.l (i' : Int)) } := upF_at _ _ _
    have hso : s.Ok i' := hok.hq s (by rw [hq]; exact List.mem_cons_self ..)
    have hl := hso.hl
    have hcc := hok.hc
    have hF : ∀ j : Nat, j ≠ i' → ({ x with F := upF x.F i' { x.F i' with q := r, c := (x.F i').c - s.l, n := addS now (d s.l (i' : Int)) } } : Qm).F j = x.F j := fun j hj => upF_ne _ _ hj
    have hlen : lenQ { x with F := upF x.F i' { x.F i' with q := r, c := (x.F i').c - s.l, n := addS now (d s.l (i' : Int)) } } + (x.F i').q.length = lenQ x + r.length := by
      have := lenQ_up hi hF
      rw [e1] at this
      exact this
    rw [hq, List.length_cons] at hlen
    refine h.turn hi hF (fun _ _ => rfl) h.hc (fun _ => ?_) (fun e => ?_) h.ls (fun _ _ => Iff.rfl) (fun _ _ => Iff.rfl) ?_ ?_ ?_
    · rw [e1]
      exact ⟨hok.hs, by dsimp only; omega, hok.hp, addS_fit hn.1 (hd _ _), hok.hu, hok.no, fun e => by dsimp only at e; omega, fun e => by dsimp only at e; omega, fun a ha => hok.hq a (by rw [hq]; exact List.mem_cons_of_mem _ ha)⟩
    · rw [show x.T i' = true from hT] at e; cases e
    · rw [e1]; exact h.new i' hi
    · rw [e1]; exact h.old i' hi
    · have := h.len; omega
theorem run_ok {d : Int → Int → Int} {now : Int} (hn : U64 now) (hd : ∀ l z, 0 ≤ d l z) : ∀ (k : Nat) {x : Qm}, x.Ok → (runQ d now k x).1.Ok
  | 0, _, h => h
  | k + 1, x, h => by
    unfold runQ
    have := turn_ok h hn hd
    cases ht : turnQ d x now with
    | on y => exact run_ok hn hd k (this.1 y ht)
    | stop y s => exact this.2 y s ht
theorem wake_ok {now : Int} : ∀ (k : Nat) {x : Qm}, x.Ok → (wakeN now k x).Ok
  | 0, _, h => h
  | k + 1, x, h => by
    unfold wakeN
    cases hf : firstQ x with
    | none => exact h
    | some i =>
      dsimp only
      split
      · obtain ⟨hi, hT, hp⟩ := firstN_some hf
        have hok := h.is i hi hT
        refine wake_ok k (h.put hi (fun j hj => putQ_ne _ _ hj) (fun _ => rfl) rfl hT ?_ (by rw [putQ_F]; rfl) (by rw [putQ_F]; rfl) (by rw [putQ_F]; exact Nat.le_refl _))
        rw [putQ_F]
        exact ⟨hok.hs, hok.hc, by dsimp only; omega, hok.hn, hok.hu, fun _ => hok.no (by omega), fun e => (by cases e), fun e => (by cases e), hok.hq⟩
      · exact h
theorem deq_ok {d : Int → Int → Int} {x : Qm} {now : Int} (h : x.Ok) (hn : U64 now) (hd : ∀ l z, 0 ≤ d l z) : (deqQ d x now).1.Ok := run_ok hn hd _ (wake_ok 8 h)

/-! ### A segment is put in -/
theorem coll_ok {x : Qm} (h : x.Ok) (now : Int) : (collQ x now).Ok := by
  have hd : ∀ i, deadF x now i = true → x.T i = true ∧ (x.F i).p = 0 := fun i e => by
    unfold deadF at e; simp at e; exact ⟨e.1.1, e.1.2⟩
  have hs : ∀ i, deadF x now i = false → (collQ x now).F i = x.F i ∧ (collQ x now).T i = x.T i := fun i e => by
    simp [collQ, e]
  have hg : ∀ i, deadF x now i = true → (collQ x now).F i = Fl.zero ∧ (collQ x now).T i = false := fun i e => by
    simp [collQ, e]
  refine ⟨h.hc, h.ls, fun i hi => ?_, fun i hi => ?_, fun i hi => ?_, fun i hi => ?_, ?_⟩
  · cases e : deadF x now i with
    | false => rw [(hs i e).1, (hs i e).2]; exact h.new i hi
    | true =>
      rw [(hg i e).2]
      refine ⟨fun hm => ?_, fun hh => by cases hh.1⟩
      have := ((h.new i hi).1 hm).2
      have := (hd i e).2
      omega
  · cases e : deadF x now i with
    | false => rw [(hs i e).1, (hs i e).2]; exact h.old i hi
    | true =>
      rw [(hg i e).2]
      refine ⟨fun hm => ?_, fun hh => by cases hh.1⟩
      have := ((h.old i hi).1 hm).2
      have := (hd i e).2
      omega
  · cases e : deadF x now i with
    | false => rw [(hs i e).1, (hs i e).2]; exact h.is i hi
    | true => rw [(hg i e).2]; intro hh; cases hh
  · cases e : deadF x now i with
    | false => rw [(hs i e).1, (hs i e).2]; exact h.no i hi
    | true => intro _; exact (hg i e).1
  · have : lenQ (collQ x now) = lenQ x := lenQ_same fun i hi => by
      cases e : deadF x now i with
      | false => rw [(hs i e).1]
      | true => rw [(hg i e).1, (h.is i hi (hd i e).1).em (hd i e).2]; rfl
    rw [this]; exact h.len
theorem enqE_is {s : Sg} (h : enqE s = 0) : (0 ≤ s.s ∧ s.s < 8) ∧ 1 ≤ s.l ∧ s.l ≤ 65536 := by
  unfold enqE at h
  split at h
  · cases h
  · split at h
    · cases h
    · omega
theorem take_ok {x : Qm} (h : x.Ok) {s : Sg} (he : enqE s = 0) {now : Int} (hn : U64 now) (hf : U64 s.f) (hst : U64 s.t) (hv : fateQ x s now = 0) : (takeQ x s now).Ok := by
  obtain ⟨hs, hl⟩ := enqE_is he
  obtain ⟨i, hi⟩ : ∃ i : Nat, s.s = (i : Int) := ⟨s.s.toNat, by omega⟩
  have hi8 : i < 8 := by omega
  have hin : s.s.toNat = i := by rw [hi]; rfl
  have hlim : (lenQ x : Int) < x.c.l := by
    unfold fateQ at hv
    split at hv
    · cases hv
    · omega
  have hc := h.hc
  have e1 : (takeQ x s now).F i = takeF x s now := by show upF x.F s.s.toNat _ i = _; rw [hin, upF_at]
  have eT : (takeQ x s now).T i = true := by show upF x.T s.s.toNat _ i = _; rw [hin, upF_at]
  have hF : ∀ j : Nat, j ≠ i → (takeQ x s now).F j = x.F j := fun j hj => by show upF x.F s.s.toNat _ j = _; rw [hin, upF_ne _ _ hj]
  have hT : ∀ j : Nat, j ≠ i → (takeQ x s now).T j = x.T j := fun j hj => by show upF x.T s.s.toNat _ j = _; rw [hin, upF_ne _ _ hj]
  have hfa := addS_fit hn.1 hc.hh.1
  have hso : (segF x s now).Ok i := ⟨hi, hf, hl, ⟨by have := hst.1; have := hfa.1; simp only [segF]; omega, by have := hfa.2; simp only [segF]; omega⟩⟩
  -- what it was
  have hpre : (preF x s now).s = (i : Int) ∧ (-65536 ≤ (preF x s now).c ∧ (preF x s now).c ≤ 65536) ∧ (preF x s now).p = (if x.T i = true then (x.F i).p else 0) ∧ U64 (preF x s now).n ∧ ((preF x s now).p ≠ 0 → (preF x s now).u = 0) ∧ (0 ≤ (preF x s now).p ∧ (preF x s now).p ≤ 3) ∧ (preF x s now).q = (x.F i).q := by
    have hcf := hc.hf; have hcq := hc.hq
    unfold preF
    rw [hin]
    by_cases t : x.T i = true
    · have hok := h.is i hi8 t
      have hcc := hok.hc
      rw [if_pos t, if_pos t]
      split
      · exact ⟨hok.hs, by dsimp only; omega, rfl, hok.hn, hok.no, hok.hp, rfl⟩
      · exact ⟨hok.hs, hcc, rfl, hok.hn, hok.no, hok.hp, rfl⟩
    · rw [if_neg t, if_neg t, h.no i hi8 (by simpa using t)]
      exact ⟨hi, by dsimp only; omega, rfl, ⟨Int.le_refl _, (by decide : (0 : Int) ≤ 18446744073709551615)⟩, fun _ => rfl, ⟨Int.le_refl _, (by decide : (0 : Int) ≤ 3)⟩, rfl⟩
  have hqs : ∀ a ∈ (x.F i).q, a.Ok i := fun a ha => by
    by_cases t : x.T i = true
    · exact (h.is i hi8 t).hq a ha
    · rw [h.no i hi8 (by simpa using t)] at ha; cases ha
  have hq : (takeF x s now).q = (x.F i).q ++ [segF x s now] := by rw [← hpre.2.2.2.2.2.2]; rfl
  obtain ⟨P, hP⟩ : ∃ P, P = (if x.T i = true then (x.F i).p else 0) := ⟨_, rfl⟩
  rw [← hP] at hpre
  have hp : (takeF x s now).p = if P = 0 then 1 else P := by rw [← hpre.2.2.1]; rfl
  have hp0 : (takeF x s now).p ≠ 0 := by
    rw [hp]
    split
    · exact Int.one_ne_zero
    · assumption
  have hlen := lenQ_up hi8 hF
  rw [e1, hq] at hlen
  simp only [List.length_append, List.length_cons, List.length_nil] at hlen
  have hu : (takeF x s now).u = 0 := by
    show (if (preF x s now).p = 0 then 0 else (preF x s now).u) = 0
    split
    · rfl
    · rename_i e; exact hpre.2.2.2.2.1 e
  have hok : (takeF x s now).Ok i := by
    refine ⟨hpre.1, hpre.2.1, ?_, hpre.2.2.2.1, by rw [hu]; exact ⟨by decide, by decide⟩, fun _ => hu, fun e => absurd e hp0, fun _ => by rw [hq]; simp, fun a ha => ?_⟩
    · show 0 ≤ (if (preF x s now).p = 0 then 1 else (preF x s now).p) ∧ (if (preF x s now).p = 0 then 1 else (preF x s now).p) ≤ 3
      have := hpre.2.2.2.2.2.1
      split <;> omega
    · rw [hq] at ha
      rcases List.mem_append.1 ha with ha | ha
      · exact hqs a ha
      · rw [List.mem_singleton.1 ha]; exact hso
  have hN : (takeQ x s now).N = if P = 0 then x.N ++ [(i : Int)] else x.N := by
    show (if (if x.T s.s.toNat = true then (x.F s.s.toNat).p else 0) = 0 then x.N ++ [s.s] else x.N) = _
    rw [hin, hi, ← hP]
  have hO : (takeQ x s now).O = x.O := rfl
  have hout : P = 0 → (i : Int) ∉ x.N ++ x.O := fun e hm => by
    rcases List.mem_append.1 hm with hm | hm
    · have := (h.new i hi8).1 hm; rw [if_pos this.1] at hP; omega
    · have := (h.old i hi8).1 hm; rw [if_pos this.1] at hP; omega
  have hl512 := hc.hl
  refine h.turn hi8 hF hT hc (fun _ => by rw [e1]; exact hok) (fun e => by rw [eT] at e; cases e) ?_ (fun z hz => ?_) (fun z hz => ?_) ?_ ?_ (by omega)
  · rw [hN, hO]
    split
    · rename_i e; exact h.ls.pushNew (by omega) (hout e)
    · exact h.ls
  · rw [hN]; split
    · rw [List.mem_append, List.mem_singleton]; exact or_iff_left hz
    · exact Iff.rfl
  · rw [hO]
  · rw [hN, e1, eT, hp]
    split
    · simp
    · rename_i e
      have t : x.T i = true := Classical.byContradiction fun t => e (hP.trans (if_neg t))
      rw [if_pos t] at hP
      rw [h.new i hi8, t, hP]
  · rw [hO, e1, eT, hp]
    split
    · rename_i e
      refine ⟨fun hm => absurd (List.mem_append_right _ hm) (hout e), fun hh => by omega⟩
    · rename_i e
      have t : x.T i = true := Classical.byContradiction fun t => e (hP.trans (if_neg t))
      rw [if_pos t] at hP
      rw [h.old i hi8, t, hP]
theorem enq_ok {x : Qm} (h : x.Ok) {s : Sg} {now : Int} (hn : U64 now) (hf : U64 s.f) (hst : U64 s.t) : (enqQ x s now).Ok := by
  unfold enqQ
  split
  · rename_i he
    split
    · rename_i hv; exact take_ok (coll_ok h now) he hn hf hst hv
    · exact coll_ok h now
  · exact h

/-! ### A flow is closed; another config; a new queue -/
def clsQ (x : Qm) (z : Int) : Qm := if (0 ≤ z ∧ z < 8) ∧ x.T z.toNat = true then { x with F := upF x.F z.toNat Fl.zero, T := upF x.T z.toNat false, N := x.N.erase z, O := x.O.erase z } else x
def clsV (x : Qm) (z : Int) : List Sg := if (0 ≤ z ∧ z < 8) ∧ x.T z.toNat = true then (x.F z.toNat).q else []
theorem cls_ok {x : Qm} (h : x.Ok) (z : Int) : (clsQ x z).Ok := by
  unfold clsQ
  split
  · rename_i hc
    obtain ⟨hz, ht⟩ := hc
    obtain ⟨i, rfl⟩ : ∃ i : Nat, z = (i : Int) := ⟨z.toNat, by omega⟩
    have hi : i < 8 := by omega
    have hg := h.ls.gone (i : Int)
    rw [List.mem_append, not_or] at hg
    have hin : ((i : Int)).toNat = i := rfl
    rw [hin]
    have hF : ∀ j : Nat, j ≠ i → ({ x with F := upF x.F i Fl.zero, T := upF x.T i false, N := x.N.erase (i : Int), O := x.O.erase (i : Int) } : Qm).F j = x.F j := fun j hj => upF_ne _ _ hj
    have hlen := lenQ_up hi hF
    have e0 : ({ x with F := upF x.F i Fl.zero, T := upF x.T i false, N := x.N.erase (i : Int), O := x.O.erase (i : Int) } : Qm).F i = Fl.zero := upF_at _ _ _
    have eT : ({ x with F := upF x.F i Fl.zero, T := upF x.T i false, N := x.N.erase (i : Int), O := x.O.erase (i : Int) } : Qm).T i = false := upF_at _ _ _
    have := h.len
    rw [e0] at hlen
    simp only [Fl.zero, List.length_nil] at hlen
    refine h.turn hi hF (fun j hj => upF_ne _ _ hj) h.hc (fun e => by rw [eT] at e; cases e) (fun _ => e0) (h.ls.erase _) (fun z hz => List.mem_erase_of_ne hz) (fun z hz => List.mem_erase_of_ne hz) ?_ ?_ (by simp only [Fl.zero]; omega)
    · rw [eT]; exact ⟨fun hm => absurd hm hg.1, fun hh => by cases hh.1⟩
    · rw [eT]; exact ⟨fun hm => absurd hm hg.2, fun hh => by cases hh.1⟩
  · exact h
theorem set_ok {x : Qm} (h : x.Ok) {c : Cf} (hc : c.Ok) : ({ x with c := c } : Qm).Ok :=
  ⟨hc, h.ls, h.new, h.old, h.is, h.no, h.len⟩
def newQ (c : Cf) : Qm := ⟨c, fun _ => Fl.zero, fun _ => false, [], []⟩
theorem new_ok {c : Cf} (hc : c.Ok) : (newQ c).Ok :=
  ⟨hc, LsOk.nil, fun i _ => ⟨fun h => (by cases h), fun h => by cases h.1⟩, fun i _ => ⟨fun h => (by cases h), fun h => by cases h.1⟩, fun i _ h => (by cases h), fun i _ _ => rfl, by rw [lenQ_eq]; simp [newQ, Fl.zero]⟩
/-! ### A plain config -/
def plainC : Cf := ⟨3000, 15000, 100, 50, 10000000000, 0, false, 100000, 1000⟩
end Go.Proofs.Ytnljjdfajmjdjaa
