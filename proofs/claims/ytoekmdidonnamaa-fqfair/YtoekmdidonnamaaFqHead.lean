/-
  What the walks of layer 20's laws over lists of things done share: the config's box, one thing done in a box of 18 cells, rates that came in lie apart from the queue. Conditions: none.
-/
import Derived.Test.YtoekmdidonnamaaFqPlay
import Derived.Test.YtoekmdidonnamaaFqPlayS
import Derived.Test.YtoekmdidonnamaaOpenF
import Derived.Test.YtoekmdidonnamaaRefA
namespace Go.Proofs.Ytoekmdidonnamaa
open Go.RowKit
set_option maxRecDepth 100000
set_option linter.unusedSimpArgs false
set_option linter.unusedVariables false

theorem Room.apart_rs {wB w : World} {L : List Thing} {g : Nat} {own : Nat → Prop} {x : Qm} (h : Room wB w (fqT g own x :: L)) {k : IntKind} {a : Option Addr} {rs : List Int} (hr : Rd k wB a rs) : rs ≠ [] → ∀ b off, a = some ⟨b, off, none⟩ → ¬ own b := fun hne b off e ho => by
  have h1 := h.lo (fqT g own x) (List.mem_cons_self ..) b ho
  obtain ⟨b', off', e', hlt, _⟩ := hr 0 (List.length_pos_iff.2 hne)
  rw [e] at e'
  cases e'
  omega
def confT (B : Nat) (c : Cf) : Thing := blkT B 24 (confL c).toArray
theorem one_conf (p : Cf) : (confL p).toArray.all (·.oneCell') = true := all_oneCell_toArray (fun u hu => by
  simp only [confL, List.mem_cons, List.not_mem_nil, or_false] at hu
  rcases hu with rfl | rfl | rfl | rfl | rfl | rfl | rfl | rfl | rfl <;> rfl)
theorem there_conf {W : World} {B : Nat} {c : Cf} (h : Whole W B 24 (confL c).toArray) : W.there B 0 9 := fun j hj => by
  rw [Nat.zero_add]
  exact ⟨by rw [h.cell, List.getElem?_toArray, conf_get c hj]; rfl, h.free j⟩
theorem whole_conf {W : World} {B : Nat} {c p : Cf} (h : Whole W B 24 (confL c).toArray) : Whole (W.setCells B 0 (confL p)) B 24 (confL p).toArray := by
  have h1 := h.puts (confL p) 0
  rwa [show Lib.lay (confL c).toArray 0 (confL p) = (confL p).toArray from lay_full (confL c).toArray (confL p).toArray rfl] at h1
def Nine (W : World) (B : Nat) (c : Cf) : Prop := W.cell? ⟨B, 0, none⟩ = some (.int .i64 c.q) ∧ W.cell? ⟨B, 1, none⟩ = some (.int .i64 c.f) ∧ W.cell? ⟨B, 2, none⟩ = some (.int .i64 c.l) ∧ W.cell? ⟨B, 3, none⟩ = some (.int .i64 c.w) ∧ W.cell? ⟨B, 4, none⟩ = some (.int .u64 c.h) ∧ W.cell? ⟨B, 5, none⟩ = some (.int .u64 c.r) ∧ W.cell? ⟨B, 6, none⟩ = some (.bool c.d) ∧ W.cell? ⟨B, 7, none⟩ = some (.int .i64 c.k) ∧ W.cell? ⟨B, 8, none⟩ = some (.int .i64 c.m)
theorem nine_of {W : World} {B : Nat} {c : Cf} (h : Whole W B 24 (confL c).toArray) : Nine W B c := by
  have e : ∀ j, j < 9 → W.cell? ⟨B, j, none⟩ = some (cfV c j) := fun j hj => (h.cell j).trans (by rw [List.getElem?_toArray]; exact conf_get c hj)
  exact ⟨e 0 (by omega), e 1 (by omega), e 2 (by omega), e 3 (by omega), e 4 (by omega), e 5 (by omega), e 6 (by omega), e 7 (by omega), e 8 (by omega)⟩
theorem Try.size37 : (Try.prog.info? 37).map (·.size) = some 18 := by kernel_rfl
theorem one_op {W : World} (o : FOp W) : (cells18 o).toArray.all (·.oneCell') = true := all_oneCell_toArray (fun u hu => by
  simp only [cells18, List.mem_cons, List.not_mem_nil, or_false] at hu
  rcases hu with rfl | rfl | rfl | rfl | rfl | rfl | rfl | rfl | rfl | rfl | rfl | rfl | rfl | rfl | rfl | rfl | rfl | rfl <;> rfl)
end Go.Proofs.Ytoekmdidonnamaa
