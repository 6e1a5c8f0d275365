/-
  The call Insert of package rbtree: each answer, and what is in the tree behind it. Conditions: the tree lies in memory.
-/
import Derived.Test.YtfbbmpmgceghfaaRbNew
namespace Go.Proofs.Ytfbbmpmgceghfaa
open Go.RowKit
set_option maxRecDepth 100000
set_option linter.unusedSimpArgs false

def insE (N : Nat) (ks : List Key) (k : Key) : Int := if k ∈ ks then 6 else if N ≤ ks.length then 5 else 0
def insK (k : Key) (ks : List Key) : List Key := ks.filter (fun x => decide (KLt x k)) ++ k :: ks.filter (fun x => decide (KLt k x))
def insS (N : Nat) (ks : List Key) (k : Key) : List Key := if k ∈ ks then ks else if N ≤ ks.length then ks else insK k ks

theorem insK_split {k : Key} {A B : List Key} (hA : ∀ x ∈ A, KLt x k) (hB : ∀ x ∈ B, KLt k x) : k ∉ A ++ B ∧ insK k (A ++ B) = A ++ k :: B := by
  constructor
  · intro h
    rcases List.mem_append.1 h with h | h
    · exact (hA k h).irr
    · exact (hB k h).irr
  · unfold insK
    rw [List.filter_append, List.filter_append]
    have h1 : A.filter (fun x => decide (KLt x k)) = A := List.filter_eq_self.2 fun x hx => by simpa using hA x hx
    have h2 : B.filter (fun x => decide (KLt x k)) = [] := List.filter_eq_nil_iff.2 fun x hx => by simpa using fun h => (hB x hx).asymm h
    have h3 : A.filter (fun x => decide (KLt k x)) = [] := List.filter_eq_nil_iff.2 fun x hx => by simpa using fun h => (hA x hx).asymm h
    have h4 : B.filter (fun x => decide (KLt k x)) = B := List.filter_eq_self.2 fun x hx => by simpa using hB x hx
    rw [h1, h2, h3, h4]
    simp

section
variable {w w' : World} {g b cap n tp : Nat} {pa : Value} {m : Nat → Nd}
theorem upd_upd (m : Nat → Nd) (i : Nat) (x y : Nd) : upd (upd m i x) i y = upd m i y := by
  funext j; unfold upd; split <;> rfl
/-- A whole node is laid. -/
theorem Tr.six (t : Tr w g b cap pa n tp m) {i : Nat} (hi : i < n) (x : Nd) :
    (w.cell? ⟨b, i * 6, none⟩ = some (.int .u64 (m i).k.a) ∧ w.frozen? ⟨b, i * 6, none⟩ = false) ∧
    ((w.setCell ⟨b, i * 6, none⟩ (.int .u64 x.k.a)).cell? ⟨b, i * 6 + 1, none⟩ = some (.int .u64 (m i).k.b) ∧ (w.setCell ⟨b, i * 6, none⟩ (.int .u64 x.k.a)).frozen? ⟨b, i * 6 + 1, none⟩ = false) ∧
    (((w.setCell ⟨b, i * 6, none⟩ (.int .u64 x.k.a)).setCell ⟨b, i * 6 + 1, none⟩ (.int .u64 x.k.b)).cell? ⟨b, i * 6 + 2, none⟩ = some (.int .i64 (m i).up) ∧ ((w.setCell ⟨b, i * 6, none⟩ (.int .u64 x.k.a)).setCell ⟨b, i * 6 + 1, none⟩ (.int .u64 x.k.b)).frozen? ⟨b, i * 6 + 2, none⟩ = false) ∧
    ((((w.setCell ⟨b, i * 6, none⟩ (.int .u64 x.k.a)).setCell ⟨b, i * 6 + 1, none⟩ (.int .u64 x.k.b)).setCell ⟨b, i * 6 + 2, none⟩ (.int .i64 x.up)).cell? ⟨b, i * 6 + 3, none⟩ = some (.int .i64 (m i).lo) ∧ (((w.setCell ⟨b, i * 6, none⟩ (.int .u64 x.k.a)).setCell ⟨b, i * 6 + 1, none⟩ (.int .u64 x.k.b)).setCell ⟨b, i * 6 + 2, none⟩ (.int .i64 x.up)).frozen? ⟨b, i * 6 + 3, none⟩ = false) ∧
    (((((w.setCell ⟨b, i * 6, none⟩ (.int .u64 x.k.a)).setCell ⟨b, i * 6 + 1, none⟩ (.int .u64 x.k.b)).setCell ⟨b, i * 6 + 2, none⟩ (.int .i64 x.up)).setCell ⟨b, i * 6 + 3, none⟩ (.int .i64 x.lo)).cell? ⟨b, i * 6 + 4, none⟩ = some (.int .i64 (m i).hi) ∧ ((((w.setCell ⟨b, i * 6, none⟩ (.int .u64 x.k.a)).setCell ⟨b, i * 6 + 1, none⟩ (.int .u64 x.k.b)).setCell ⟨b, i * 6 + 2, none⟩ (.int .i64 x.up)).setCell ⟨b, i * 6 + 3, none⟩ (.int .i64 x.lo)).frozen? ⟨b, i * 6 + 4, none⟩ = false) ∧
    ((((((w.setCell ⟨b, i * 6, none⟩ (.int .u64 x.k.a)).setCell ⟨b, i * 6 + 1, none⟩ (.int .u64 x.k.b)).setCell ⟨b, i * 6 + 2, none⟩ (.int .i64 x.up)).setCell ⟨b, i * 6 + 3, none⟩ (.int .i64 x.lo)).setCell ⟨b, i * 6 + 4, none⟩ (.int .i64 x.hi)).cell? ⟨b, i * 6 + 5, none⟩ = some (.bool (m i).red) ∧ (((((w.setCell ⟨b, i * 6, none⟩ (.int .u64 x.k.a)).setCell ⟨b, i * 6 + 1, none⟩ (.int .u64 x.k.b)).setCell ⟨b, i * 6 + 2, none⟩ (.int .i64 x.up)).setCell ⟨b, i * 6 + 3, none⟩ (.int .i64 x.lo)).setCell ⟨b, i * 6 + 4, none⟩ (.int .i64 x.hi)).frozen? ⟨b, i * 6 + 5, none⟩ = false) ∧
    Tr ((((((w.setCell ⟨b, i * 6, none⟩ (.int .u64 x.k.a)).setCell ⟨b, i * 6 + 1, none⟩ (.int .u64 x.k.b)).setCell ⟨b, i * 6 + 2, none⟩ (.int .i64 x.up)).setCell ⟨b, i * 6 + 3, none⟩ (.int .i64 x.lo)).setCell ⟨b, i * 6 + 4, none⟩ (.int .i64 x.hi)).setCell ⟨b, i * 6 + 5, none⟩ (.bool x.red)) g b cap pa n tp (upd m i x) ∧
    Keep (Mine g b) w ((((((w.setCell ⟨b, i * 6, none⟩ (.int .u64 x.k.a)).setCell ⟨b, i * 6 + 1, none⟩ (.int .u64 x.k.b)).setCell ⟨b, i * 6 + 2, none⟩ (.int .i64 x.up)).setCell ⟨b, i * 6 + 3, none⟩ (.int .i64 x.lo)).setCell ⟨b, i * 6 + 4, none⟩ (.int .i64 x.hi)).setCell ⟨b, i * 6 + 5, none⟩ (.bool x.red)) := by
  have t1 := t.put (i := i) (j := 0) (x := { m i with k := ⟨x.k.a, (m i).k.b⟩ }) (v := .int .u64 x.k.a) rfl (by decide)
  have t2 := t1.put (i := i) (j := 1) (x := { m i with k := x.k }) (v := .int .u64 x.k.b) (by rw [upd_same]; rfl) (by decide)
  have t3 := t2.put (i := i) (j := 2) (x := { m i with k := x.k, up := x.up }) (v := .int .i64 x.up) (by rw [upd_same]; rfl) (by decide)
  have t4 := t3.put (i := i) (j := 3) (x := { m i with k := x.k, up := x.up, lo := x.lo }) (v := .int .i64 x.lo) (by rw [upd_same]; rfl) (by decide)
  have t5 := t4.put (i := i) (j := 4) (x := { m i with k := x.k, up := x.up, lo := x.lo, hi := x.hi }) (v := .int .i64 x.hi) (by rw [upd_same]; rfl) (by decide)
  have t6 := t5.put (i := i) (j := 5) (x := x) (v := .bool x.red) (by rw [upd_same]; rfl) (by decide)
  rw [upd_upd, upd_upd, upd_upd, upd_upd, upd_upd] at t6
  have e1 := t1.cell hi (j := 1) (by decide); rw [upd_same] at e1
  have e2 := t2.cell hi (j := 2) (by decide); rw [upd_same] at e2
  have e3 := t3.cell hi (j := 3) (by decide); rw [upd_same] at e3
  have e4 := t4.cell hi (j := 4) (by decide); rw [upd_same] at e4
  have e5 := t5.cell hi (j := 5) (by decide); rw [upd_same] at e5
  exact ⟨⟨t.ka hi, t.free _⟩, ⟨e1, t1.free _⟩, ⟨e2, t2.free _⟩, ⟨e3, t3.free _⟩, ⟨e4, t4.free _⟩, ⟨e5, t5.free _⟩, t6, (((((((Keep.refl _ w).mine _ _).mine _ _).mine _ _).mine _ _).mine _ _).mine _ _)⟩
/-- The row has grown by one. -/
theorem Tr.grown {w1 : World} {v : Value} {x : Nd} (t : Tr w g b cap pa n tp m) (hk : Keep (fun k => (Value.slice (some ⟨b, 0, none⟩) n cap).ownBlock = some k) w w1) (hv : w1.ownsRow 0 63 6 v (n + 1) (flat m n ++ cellsN x)) (hnew : ∀ k, v.ownBlock = some k → (Value.slice (some ⟨b, 0, none⟩) n cap).ownBlock = some k ∨ w.heap.size ≤ k) :
    ∃ b' cap', v = .slice (some ⟨b', 0, none⟩) (n + 1) cap' ∧ (b' = b ∨ w.heap.size ≤ b') ∧ w1.cell? ⟨g, 1, none⟩ = some (.slice (some ⟨b, 0, none⟩) n cap) ∧ w1.frozen? ⟨g, 1, none⟩ = false ∧ Tr (w1.setCell ⟨g, 1, none⟩ v) g b' cap' pa (n + 1) tp (upd m n x) ∧ Keep (Mine g b) w (w1.setCell ⟨g, 1, none⟩ v) := by
  have hst := t.st.keep hk (by simp [Value.ownBlock]; exact t.ne.symm)
  rcases hv.2 with ⟨_, h0⟩ | ⟨b', cap', cur, rfl, _⟩
  · omega
  · have hb := hnew b' rfl
    simp only [Value.ownBlock, Option.some.injEq] at hb
    have hne : b' ≠ g := by
      rcases hb with h | h
      · rw [← h]; exact t.ne.symm
      · have := t.gLt; omega
    refine ⟨b', cap', rfl, hb.imp Eq.symm id, hst.cell 1, hst.free 1, ⟨hst.put 1 _, ?_⟩, ?_⟩
    · rw [← flat_app]
      exact ownsRow_setCell_other hv (by simp [Value.ownBlock]; exact hne) _
    · exact (hk.mono (fun k e => by simp only [Value.ownBlock, Option.some.injEq] at e; exact .inr e.symm)).setCell (p := ⟨g, 1, none⟩) (.inl (.inl rfl)) _
end

theorem ids_new {out : List Bool} (p : Nat) : (out ++ [true])[p]? = some true ↔ p = out.length ∨ out[p]? = some true := by
  by_cases h : p < out.length
  · rw [List.getElem?_append_left h]
    exact ⟨.inr, fun e => e.elim (fun e => by omega) id⟩
  · rw [List.getElem?_append_right (by omega), List.getElem?_eq_none (l := out) (by omega)]
    by_cases e : p = out.length
    · subst e; simp
    · rw [List.getElem?_eq_none (by simp; omega)]; simp [e]
theorem ids_set {out : List Bool} {i : Nat} (hi : i < out.length) (p : Nat) : (out.set i true)[p]? = some true ↔ p = i ∨ out[p]? = some true := by
  by_cases e : i = p
  · subst e; simp [hi]
  · rw [List.getElem?_set_ne e]
    exact ⟨.inr, fun h => h.elim (fun e' => absurd e'.symm e) id⟩

theorem Found.here {m : Nat → Nd} {n tp : Nat} {L : List (Nat × Key)} {k : Key} {z : Z} {i : Nat} {c : Bool} {l r : T} (h : RepB m n tp z (.nd i k c l r) L) : k ∈ L.map (·.2) := by
  rw [← h.rep.its]
  simp [T.its]
theorem Found.gone {m : Nat → Nd} {n tp : Nat} {L : List (Nat × Key)} {k : Key} {z : Z} (h : RepB m n tp z .nil L) (h1 : ∀ x ∈ z.zl, KLt x.2 k) (h2 : ∀ x ∈ z.zr, KLt k x.2) :
    k ∉ L.map (·.2) ∧ ∀ a, (z.zl ++ (a, k) :: z.zr).map (·.2) = insK k (L.map (·.2)) := by
  have e : L = z.zl ++ z.zr := by rw [← h.rep.its]; simp [T.its]
  have := insK_split (k := k) (A := z.zl.map (·.2)) (B := z.zr.map (·.2)) (fun x hx => by obtain ⟨y, hy, rfl⟩ := List.mem_map.1 hx; exact h1 y hy) (fun x hx => by obtain ⟨y, hy, rfl⟩ := List.mem_map.1 hx; exact h2 y hy)
  rw [e, List.map_append]
  refine ⟨this.1, fun a => ?_⟩
  rw [this.2]; simp
theorem sorted_in {k : Key} {a : Nat} {A B : List (Nat × Key)} (h : Sorted (A ++ B)) (h1 : ∀ x ∈ A, KLt x.2 k) (h2 : ∀ x ∈ B, KLt k x.2) : Sorted (A ++ (a, k) :: B) := by
  unfold Sorted at *
  rw [List.pairwise_append] at h ⊢
  refine ⟨h.1, List.pairwise_cons.2 ⟨h2, h.2.1⟩, fun x hx y hy => ?_⟩
  rcases List.mem_cons.1 hy with rfl | hy
  · exact h1 x hx
  · exact (h1 x hx).trans (h2 y hy)

theorem tins_nil (k : Key) (w : World) : Calls Try.prog 8 #[.pointer none, kv k] w fun e w' => e = .returned (.int .i64 2) ∧ Keep (fun _ => False) w w' := by
  unfold kv
  go_enter Try.func8, Try.ntmps8
  go_wp2
  go_ret
  exact ⟨rfl, (Keep.refl _ _).alloc _⟩
end Go.Proofs.Ytfbbmpmgceghfaa
