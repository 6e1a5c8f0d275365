/-
  What comes in: a key, a list of keys, of deeds, of bools, as the walk reads them. Conditions: none.
-/
import Derived.Test.YtfbbmpmgceghfaaRbAll
import Derived.Lib.SmallJoins
import Derived.Deep.SlicePairs
import Derived.Deep.Slices
import Derived.OpenShut
namespace Go.Proofs.Ytfbbmpmgceghfaa
open Go.ChangeShapes Go.WideShapes Go.ChangeAt Go.RowKit Go.Joins Go.Deep
set_option maxRecDepth 100000
set_option linter.unusedSimpArgs false

/-- The slice that begins at 'a' holds the keys 'ks'. -/
def RdK (w : World) (a : Option Addr) (ks : List Key) : Prop :=
  ∀ i k, ks[i]? = some k → ∃ b off, a = some ⟨b, off, none⟩ ∧ b < w.heap.size ∧ w.cell? ⟨b, off + i * 2, none⟩ = some (.int .u64 k.a) ∧ w.cell? ⟨b, off + i * 2 + 1, none⟩ = some (.int .u64 k.b)
theorem RdK.keep {S : Nat → Prop} {w w' : World} {a : Option Addr} {ks : List Key} (h : RdK w a ks) (hk : Keep S w w') (hs : ∀ b off, a = some ⟨b, off, none⟩ → ¬ S b) : RdK w' a ks := by
  intro i k hi
  obtain ⟨b, off, e, hlt, h1, h2⟩ := h i k hi
  exact ⟨b, off, e, Nat.lt_of_lt_of_le hlt hk.size, (hk.cell (p := ⟨b, _, none⟩) hlt (hs b off e)).trans h1, (hk.cell (p := ⟨b, _, none⟩) hlt (hs b off e)).trans h2⟩
theorem RdK.kept {w w' : World} {a : Option Addr} {ks : List Key} (h : RdK w a ks) (hk : Keep (fun _ => False) w w') : RdK w' a ks := h.keep hk (fun _ _ _ h => h)
theorem RdK.below {w w' : World} {a : Option Addr} {ks : List Key} (h : RdK w a ks) (hb : Below w.heap.size w w') : RdK w' a ks := by
  intro i k hi
  obtain ⟨b, off, e, hlt, h1, h2⟩ := h i k hi
  exact ⟨b, off, e, Nat.lt_of_lt_of_le hlt hb.size, (hb.cell (p := ⟨b, _, none⟩) hlt).trans h1, (hb.cell (p := ⟨b, _, none⟩) hlt).trans h2⟩

structure Deed where
  kind : Int
  k : Key
def RdD (w : World) (a : Option Addr) (ds : List Deed) : Prop :=
  ∀ i d, ds[i]? = some d → ∃ b off, a = some ⟨b, off, none⟩ ∧ b < w.heap.size ∧ w.cell? ⟨b, off + i * 3, none⟩ = some (.int .i64 d.kind) ∧ w.cell? ⟨b, off + i * 3 + 1, none⟩ = some (.int .u64 d.k.a) ∧ w.cell? ⟨b, off + i * 3 + 2, none⟩ = some (.int .u64 d.k.b)
theorem RdD.below {w w' : World} {a : Option Addr} {ds : List Deed} (h : RdD w a ds) (hb : Below w.heap.size w w') : RdD w' a ds := by
  intro i k hi
  obtain ⟨b, off, e, hlt, h1, h2, h3⟩ := h i k hi
  exact ⟨b, off, e, Nat.lt_of_lt_of_le hlt hb.size, (hb.cell (p := ⟨b, _, none⟩) hlt).trans h1, (hb.cell (p := ⟨b, _, none⟩) hlt).trans h2, (hb.cell (p := ⟨b, _, none⟩) hlt).trans h3⟩
def RdB (w : World) (a : Option Addr) (bs : List Bool) : Prop :=
  ∀ i x, bs[i]? = some x → ∃ b off, a = some ⟨b, off, none⟩ ∧ b < w.heap.size ∧ w.cell? ⟨b, off + i, none⟩ = some (.bool x)
theorem RdB.below {w w' : World} {a : Option Addr} {bs : List Bool} (h : RdB w a bs) (hb : Below w.heap.size w w') : RdB w' a bs := by
  intro i k hi
  obtain ⟨b, off, e, hlt, h1⟩ := h i k hi
  exact ⟨b, off, e, Nat.lt_of_lt_of_le hlt hb.size, (hb.cell (p := ⟨b, _, none⟩) hlt).trans h1⟩

theorem Try.cellsKey : Try.prog.cellsOf 30 = 2 := by kernel_rfl
theorem Try.cellsU : Try.prog.cellsOf 28 = 1 := by kernel_rfl

section
variable {H : Type} {enc : TypeId × Value → H} {W : World} {d : DataW H} {p : List MemPlace}
theorem open_key {r : Reach} {b0 : Nat} {v : Value} (hv : Value.okWide Try.prog W r b0 30 v) (h : DataW.Trod enc Try.prog W 0 (fun _ => true) true 30 v d p) : ∃ k : Key, v = kv k := by
  obtain ⟨v0, v1, y0, y1, n, rfl, _, _, h0, h1⟩ := open_agg2 Try.underlying30 (by kernel_rfl) Try.cellsKey hv h
  obtain ⟨a, e0, _⟩ := DataW.trod_int Try.underlying28 h0
  obtain ⟨b, e1, _⟩ := DataW.trod_int Try.underlying28 h1
  cases e0; cases e1
  exact ⟨⟨a, b⟩, rfl⟩

theorem open_keys {a : Option Addr} {len cap : Nat} (h : DataW.Trod enc Try.prog W 0 (fun _ => true) true 22 (.slice a len cap) d p) : ∃ ks : List Key, ks.length = len ∧ len ≤ cap ∧ cap ≤ 9223372036854775807 ∧ (a = none → cap = 0) ∧ RdK W a ks := by
  obtain ⟨fuel, hf⟩ := h
  rcases open_slice_pairs Try.underlying22 Try.underlying30 Try.cellsKey rfl rfl Try.cellsU Try.cellsU hf with ⟨hcs, _⟩ | ⟨x, l, c, m, n, V0, V1, D0, D1, P0, P1, hcs, hb, hl, hm, hmm, _, hel⟩
  · simp [Value.cells] at hcs
    obtain ⟨rfl, rfl, rfl⟩ := hcs
    exact ⟨[], rfl, Nat.le_refl _, by omega, fun _ => rfl, fun i k hi => by simp at hi⟩
  · simp [Value.cells] at hcs
    obtain ⟨rfl, rfl, rfl⟩ := hcs
    have hml : len ≤ m := by rw [hmm]; simp; omega
    have hR : ∀ i, i < len → ∃ k : Key, W.cell? (x.add (i * 2)) = some (.int .u64 k.a) ∧ W.cell? (x.add (i * 2 + 1)) = some (.int .u64 k.b) := fun i hi => by
      obtain ⟨c0, c1, t0, t1⟩ := hel i (by omega)
      obtain ⟨a0, e0, _⟩ := DataW.trod_int Try.underlying28 t0
      obtain ⟨a1, e1, _⟩ := DataW.trod_int Try.underlying28 t1
      simp at e0 e1
      rw [e0] at c0; rw [e1] at c1
      exact ⟨⟨a0, a1⟩, c0, c1⟩
    obtain ⟨ks, hlen, hks⟩ := list_of len _ hR
    refine ⟨ks, hlen, hl, by unfold maxLen at hm; omega, fun e => (by cases e), fun i k hi => ?_⟩
    have hi0 : 0 < ks.length := by have := (List.getElem?_eq_some_iff.1 hi).1; omega
    have h0 := (hks 0 ks[0] (List.getElem?_eq_getElem hi0)).1
    obtain ⟨b, off, rfl⟩ := addr_plain h0
    obtain ⟨h1, h2⟩ := hks i k hi
    rw [Go.WideShapes.add_plain] at h1 h2
    exact ⟨b, off, rfl, lt_of_cell h1, h1, by rw [Nat.add_assoc]; exact h2⟩
theorem open_bools {a : Option Addr} {len cap : Nat} (h : DataW.Trod enc Try.prog W 0 (fun _ => true) true 43 (.slice a len cap) d p) : ∃ bs : List Bool, bs.length = len ∧ len ≤ 9223372036854775807 ∧ RdB W a bs := by
  obtain ⟨fuel, hf⟩ := h
  rcases open_slice Try.underlying43 hf with ⟨hcs, _⟩ | ⟨x, l, c, m, n, D, Pl, hcs, hb, hl, hm, hmm, _, hel⟩
  · simp [Value.cells] at hcs
    obtain ⟨rfl, rfl, rfl⟩ := hcs
    exact ⟨[], rfl, by omega, fun i k hi => by simp at hi⟩
  · simp [Value.cells] at hcs
    obtain ⟨rfl, rfl, rfl⟩ := hcs
    have hml : len ≤ m := by rw [hmm]; simp; omega
    have e1 : Try.prog.cellsOf 4 = 1 := by kernel_rfl
    have hR : ∀ i, i < len → ∃ v : Bool, W.cell? (x.add i) = some (.bool v) := fun i hi => by
      obtain ⟨cs, hc, ht⟩ := hel i (by omega)
      rw [e1] at hc
      obtain ⟨bv, rfl, _⟩ := DataW.trod_bool Try.underlying4 ht
      have := (World.cells?_some hc).2.2 0 (by omega)
      simp [Addr.add] at this
      exact ⟨bv, by simpa [Addr.add] using this⟩
    obtain ⟨bs, hlen, hbs⟩ := list_of len _ hR
    refine ⟨bs, hlen, by unfold maxLen at hm; omega, fun i k hi => ?_⟩
    have hi0 : 0 < bs.length := by have := (List.getElem?_eq_some_iff.1 hi).1; omega
    have h0 := hbs 0 bs[0] (List.getElem?_eq_getElem hi0)
    obtain ⟨b, off, rfl⟩ := addr_plain h0
    have h1 := hbs i k hi
    rw [Go.WideShapes.add_plain] at h1
    exact ⟨b, off, rfl, lt_of_cell h1, h1⟩
end
end Go.Proofs.Ytfbbmpmgceghfaa
