/-
  A ring of numbers: the plain mathematics, and how it lies in memory. Conditions: none.
-/
import Derived.Test.YtjdagojikhainaaOwn
import Derived.Deep.OwnRows
namespace Go.Proofs.Ytjdagojikhainaa
open Go.RowKit

theorem ret_i {k : IntKind} {a b : Int} (h : a = b) : Ending.returned (.int k a) = .returned (.int k b) := by rw [h]
theorem ret_b {a b : Bool} (h : a = b) : Ending.returned (.bool a) = .returned (.bool b) := by rw [h]
theorem ret_ib {a c : Int} {b d : Bool} (h : a = c) (h' : b = d) : Ending.returned (.tuple #[.int .i64 a, .bool b]) = .returned (.tuple #[.int .i64 c, .bool d]) := by rw [h, h']

def zv (l : List Int) : List Value := l.map fun z => .int .i64 z
@[simp] theorem len_zv (l : List Int) : (zv l).length = l.length := List.length_map _
theorem get_zv (l : List Int) (i : Nat) : (zv l)[i]? = l[i]?.map (fun z => .int .i64 z) := List.getElem?_map
theorem set_zv (l : List Int) (i : Nat) (z : Int) : (zv l).set i (.int .i64 z) = zv (l.set i z) := List.map_set.symm
theorem app_zv (l : List Int) (z : Int) : zv l ++ [.int .i64 z] = zv (l ++ [z]) := by simp [zv]
theorem cat_zv (l m : List Int) : zv l ++ zv m = zv (l ++ m) := by simp [zv]
theorem one_zv (l : List Int) : ∀ u ∈ zv l, u.oneCell' = true := fun u hu => by simp only [zv, List.mem_map] at hu; obtain ⟨b, _, rfl⟩ := hu; rfl

theorem mod_lt_of {f i N : Nat} (h : 0 < N) : (f + i) % N < N := Nat.mod_lt _ h
/-- Two places of one ring, less than a round apart, are not the same. -/
theorem place_ne {f i j N : Nat} (hi : i < N) (hj : j < N) (hne : i ≠ j) : (f + i) % N ≠ (f + j) % N := fun e => by
  have key : ∀ a b : Nat, a < b → b < N → (f + a) % N = (f + b) % N → False := fun a b hab hb e => by
    have h1 := Nat.div_add_mod (f + a) N
    have h2 := Nat.div_add_mod (f + b) N
    have hlt : (f + a) / N ≤ (f + b) / N := Nat.div_le_div_right (by omega)
    rcases Nat.eq_or_lt_of_le hlt with he | hl
    · rw [he] at h1; omega
    · have : N * ((f + a) / N) + N ≤ N * ((f + b) / N) := by rw [← Nat.mul_succ]; exact Nat.mul_le_mul_left _ hl
      omega
  rcases Nat.lt_or_gt_of_ne hne with h | h
  · exact key i j h hj e
  · exact key j i h hi e.symm
theorem place_next (f i N : Nat) : ((f + 1) % N + i) % N = (f + (i + 1)) % N := by rw [Nat.mod_add_mod]; congr 1; omega

/-- The ring at g, its places at p: room for N, of which l are in it, in order; the first one stands at f, the places hold ps. -/
structure RingOf (w : World) (g p N f : Nat) (ps l : List Int) : Prop where
  st : Whole w g 39 #[.slice (some ⟨p, 0, none⟩) N N, .int .i64 f, .int .i64 l.length]
  own : Owns w 3 (.slice (some ⟨p, 0, none⟩) N N) (zv ps)
  n : N ≤ 4096
  len : l.length ≤ N
  fle : f ≤ N
  at_ : ∀ i, i < l.length → ps[(f + i) % N]? = some (l.getD i 0)
def RingAt (w : World) (g p N : Nat) (l : List Int) : Prop := ∃ f ps, RingOf w g p N f ps l

section
variable {w w' : World} {g p N f : Nat} {ps l : List Int} {R : Nat → Prop}
theorem RingOf.pl (h : RingOf w g p N f ps l) : ps.length = N := by have := h.own.capLe.1; simpa using this.symm
theorem RingOf.ne (h : RingOf w g p N f ps l) : g ≠ p := fun e => by subst e; exact h.own.ne h.st (by decide) rfl
theorem RingOf.keep (h : RingOf w g p N f ps l) (hk : Keep R w w') (hg : ¬ R g) (hp : ¬ R p) : RingOf w' g p N f ps l :=
  ⟨h.st.keep hk hg, h.own.keep hk (fun k e => by simp [Value.ownBlock] at e; subst e; exact hp), h.n, h.len, h.fle, h.at_⟩
theorem RingOf.drewN (h : RingOf w g p N f ps l) (n : Nat) : RingOf (w.drewN n) g p N f ps l := h.keep ((Keep.refl (fun _ => False) w).drewN n) id id
theorem RingAt.keep (h : RingAt w g p N l) (hk : Keep R w w') (hg : ¬ R g) (hp : ¬ R p) : RingAt w' g p N l := by
  obtain ⟨f, ps, h⟩ := h; exact ⟨f, ps, h.keep hk hg hp⟩
theorem RingAt.kept (h : RingAt w g p N l) (hk : Keep (fun _ => False) w w') : RingAt w' g p N l := h.keep hk id id
theorem RingAt.drewN (h : RingAt w g p N l) (n : Nat) : RingAt (w.drewN n) g p N l := h.kept ((Keep.refl _ w).drewN n)
theorem RingAt.lt (h : RingAt w g p N l) : g < w.heap.size ∧ p < w.heap.size := by obtain ⟨f, ps, h⟩ := h; exact ⟨h.st.lt, h.own.lt rfl⟩
theorem RingAt.n (h : RingAt w g p N l) : N ≤ 4096 := by obtain ⟨f, ps, h⟩ := h; exact h.n
theorem RingAt.len (h : RingAt w g p N l) : l.length ≤ N := by obtain ⟨f, ps, h⟩ := h; exact h.len
theorem RingOf.cells (h : RingOf w g p N f ps l) : w.cell? ⟨g, 0, none⟩ = some (.slice (some ⟨p, 0, none⟩) N N) ∧ w.cell? ⟨g, 1, none⟩ = some (.int .i64 f) ∧ w.cell? ⟨g, 2, none⟩ = some (.int .i64 l.length) := ⟨h.st.cell 0, h.st.cell 1, h.st.cell 2⟩
theorem RingOf.at_cell (h : RingOf w g p N f ps l) {i : Nat} (hi : i < l.length) : w.cell? ⟨p, (f + i) % N, none⟩ = some (.int .i64 (l.getD i 0)) := by
  have hN : 0 < N := by have := h.len; omega
  rw [h.own.cell _ (by rw [len_zv, h.pl]; exact Nat.mod_lt _ hN), get_zv, h.at_ i hi]; rfl
/-- What is pushed. -/
theorem RingOf.push (h : RingOf w g p N f ps l) (hl : l.length < N) (v : Int) : RingOf ((w.setCell ⟨p, (f + l.length) % N, none⟩ (.int .i64 v)).setCell ⟨g, 2, none⟩ (.int .i64 ((l.length : Int) + 1))) g p N f (ps.set ((f + l.length) % N) v) (l ++ [v]) := by
  have hN : 0 < N := by omega
  refine ⟨?_, ?_, h.n, by simp; omega, h.fle, fun i hi => ?_⟩
  · have := (h.st.far (p := ⟨p, (f + l.length) % N, none⟩) h.ne (.int .i64 v)).put 2 (.int .i64 ((l.length : Int) + 1))
    rw [List.length_append, List.length_singleton, Int.natCast_add]
    exact this
  · have := (h.own.put ((f + l.length) % N) (.int .i64 v)).far (p := ⟨g, 2, none⟩) (by simp [Value.ownBlock]; exact fun e => h.ne e.symm) (.int .i64 ((l.length : Int) + 1))
    rwa [set_zv] at this
  · simp at hi
    rcases Nat.lt_or_eq_of_le (Nat.le_of_lt_succ hi) with h' | h'
    · rw [List.getElem?_set_ne (place_ne (by omega) (by omega) (by omega)), h.at_ i h']
      simp [List.getElem?_append_left h']
    · subst h'
      rw [List.getElem?_set_self (by rw [h.pl]; exact Nat.mod_lt _ hN)]
      simp
/-- What is popped. -/
theorem RingOf.pop {x : Int} (h : RingOf w g p N f ps (x :: l)) : RingOf ((w.setCell ⟨g, 1, none⟩ (.int .i64 (((f + 1) % N : Nat) : Int))).setCell ⟨g, 2, none⟩ (.int .i64 l.length)) g p N ((f + 1) % N) ps l := by
  have hN : 0 < N := by have := h.len; simp at this; omega
  refine ⟨(h.st.put 1 _).put 2 _, (h.own.far (p := ⟨g, 1, none⟩) (by simp [Value.ownBlock]; exact fun e => h.ne e.symm) _).far (p := ⟨g, 2, none⟩) (by simp [Value.ownBlock]; exact fun e => h.ne e.symm) _, h.n, by have := h.len; simp at this; omega, Nat.le_of_lt (Nat.mod_lt _ hN), fun i hi => ?_⟩
  rw [place_next, h.at_ (i + 1) (by simpa using hi)]
  simp
end
end Go.Proofs.Ytjdagojikhainaa
