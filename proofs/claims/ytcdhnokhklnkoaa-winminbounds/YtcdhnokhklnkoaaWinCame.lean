/-
  What came, and what Update has made of it: what it tells is no less (no more) than the last, and one of those that came of late. Numbers in a slice of the call's own. Conditions: those of each theorem.
-/
import Derived.Test.YtcdhnokhklnkoaaOwn
import Derived.Test.YtcdhnokhklnkoaaChecked
import Derived.Test.YtcdhnokhklnkoaaWinSt
import Derived.ProofKit
import Derived.OpenShut
namespace Go.Proofs.Ytcdhnokhklnkoaa
open Go.ChangeShapes Go.WideShapes Go.ChangeAt Go.RowKit

theorem Try.infoU : (Try.prog.info? 22).map (fun i => (i.zero, i.size, i.bytes)) = some (some (.int .u64 0), 1, 8) := by kernel_rfl
theorem info_parts {P : Program} {e : TypeId} {z : Value} {n b : Nat} (h : (P.info? e).map (fun i => (i.zero, i.size, i.bytes)) = some (some z, n, b)) : ∃ i : TypeInfo, P.info? e = some i ∧ i.zero = some z ∧ i.size = n ∧ i.bytes = b := by
  cases hi : P.info? e with
  | none => rw [hi] at h; cases h
  | some i =>
    rw [hi] at h
    simp at h
    exact ⟨i, rfl, h.1, h.2.1, h.2.2⟩
def us (l : List Int) : List Value := l.map fun i => .int .u64 i
theorem len_us (l : List Int) : (us l).length = l.length := List.length_map _
theorem app_us (l : List Int) (i : Int) : us l ++ [.int .u64 i] = us (l ++ [i]) := by simp [us]
theorem one_us (l : List Int) : ∀ u ∈ us l, u.oneCell' = true := fun u hu => by simp only [us, List.mem_map] at hu; obtain ⟨b, _, rfl⟩ := hu; rfl
theorem Owns.rdu {w : World} {e : TypeId} {a : Option Addr} {n c : Nat} {l : List Int} (h : Owns w e (.slice a n c) (us l)) {i : Nat} {z : Int} (hi : l[i]? = some z) : ∃ g, a = some ⟨g, 0, none⟩ ∧ w.cell? ⟨g, i, none⟩ = some (.int .u64 z) := by
  have hlt : i < (us l).length := by rw [len_us]; exact (List.getElem?_eq_some_iff.1 hi).1
  obtain ⟨g, cap, e⟩ := h.pos (by omega)
  cases e
  exact ⟨g, rfl, by rw [h.cell i hlt]; simp [us, hi]⟩

def startV (least : Bool) : Int := if least = true then 18446744073709551615 else 0
theorem startV_beats {least : Bool} {v : Int} (h : Num v) : beatsT least v (startV least) := by
  unfold beatsT startV
  cases least
  · exact h.1
  · exact h.2
/-- One that came: its time and its value. -/
def Came (ts vs : List Int) (t v : Int) : Prop := ∃ k : Nat, ts[k]? = some t ∧ vs[k]? = some v
theorem Came.more {ts vs : List Int} {t v : Int} (h : Came ts vs t v) (a b : Int) : Came (ts ++ [a]) (vs ++ [b]) t v := by
  obtain ⟨k, h1, h2⟩ := h
  exact ⟨k, by rw [List.getElem?_append_left (List.getElem?_eq_some_iff.1 h1).1]; exact h1, by rw [List.getElem?_append_left (List.getElem?_eq_some_iff.1 h2).1]; exact h2⟩
theorem Came.last {ts vs : List Int} (h : ts.length = vs.length) (a b : Int) : Came (ts ++ [a]) (vs ++ [b]) a b :=
  ⟨ts.length, by simp, by rw [h]; simp⟩
/-- So far: k came, their times ts (none above t), their values vs; x is what Update has made of them. -/
structure Sofar (least : Bool) (W : Int) (k : Nat) (ts vs : List Int) (t : Int) (x : Tri) : Prop where
  lt : ts.length = k
  lv : vs.length = k
  t0 : 0 ≤ t
  t1 : t ≤ 400 * (k : Int)
  ht : ∀ (i : Nat) z, ts[i]? = some z → 0 ≤ z ∧ z ≤ t
  hv : ∀ (i : Nat) z, vs[i]? = some z → Num z
  xl : x.l = t
  xo : (ts = [] ∧ x = newT (startV least)) ∨ x.Of (Came ts vs)
theorem Sofar.zero {least : Bool} {W : Int} : Sofar least W 0 [] [] 0 (newT (startV least)) := ⟨rfl, rfl, Int.le_refl _, by omega, fun i z h => by simp at h, fun i z h => by simp at h, rfl, .inl ⟨rfl, rfl⟩⟩
section
variable {least : Bool} {W t v : Int} {k : Nat} {ts vs : List Int} {x : Tri}
theorem Sofar.of (h : Sofar least W k ts vs t x) {d : Int} (d0 : 0 ≤ d) (hW : 0 ≤ W) (hn : Num v) : (updT least W x (t + d) v).Of (Came (ts ++ [t + d]) (vs ++ [v])) := by
  have hT : topT (t + d) x.l = t + d := by rw [h.xl]; exact if_pos (by omega)
  have hl := Came.last (h.lt.trans h.lv.symm) (t + d) v
  rcases h.xo with ⟨_, rfl⟩ | ho
  · rw [updT_beats (x := newT (startV least)) (startV_beats hn) hW, hT]
    exact ⟨hl, hl, hl⟩
  · refine Tri.Of.upd (P := Came (ts ++ [t + d]) (vs ++ [v])) ⟨ho.p0.more _ _, ho.p1.more _ _, ho.p2.more _ _⟩ ?_
    rw [hT]; exact hl
theorem Sofar.next (h : Sofar least W k ts vs t x) {d : Int} (d0 : 0 ≤ d) (d1 : d ≤ 399) (hW : 0 ≤ W) (hn : Num v) : Sofar least W (k + 1) (ts ++ [t + d]) (vs ++ [v]) (t + d) (updT least W x (t + d) v) := by
  have hT : topT (t + d) x.l = t + d := by rw [h.xl]; exact if_pos (by omega)
  refine ⟨by simp [h.lt], by simp [h.lv], by have := h.t0; omega, by have := h.t1; omega, fun i z hz => ?_, fun i z hz => ?_, by rw [updT_l, hT], .inr (h.of d0 hW hn)⟩
  · rw [List.getElem?_append] at hz
    split at hz
    · have := h.ht i z hz; omega
    · have := (List.mem_singleton.1 (List.mem_of_getElem? hz)); have := h.t0; omega
  · rw [List.getElem?_append] at hz
    split at hz
    · exact h.hv i z hz
    · rw [List.mem_singleton.1 (List.mem_of_getElem? hz)]; exact hn
/-- What is told: no less than the last, and one of those that came of late. -/
theorem Sofar.told (h : Sofar least W k ts vs t x) {d : Int} (d0 : 0 ≤ d) (hW : 0 ≤ W) (hn : Num v) : beatsT least (updT least W x (t + d) v).v0 v ∧ ∃ (k0 : Nat) (s : Int), (ts ++ [t + d])[k0]? = some s ∧ (vs ++ [v])[k0]? = some (updT least W x (t + d) v).v0 ∧ t + d - s ≤ W := by
  have hT : topT (t + d) x.l = t + d := by rw [h.xl]; exact if_pos (by omega)
  refine ⟨updT_last, ?_⟩
  obtain ⟨k0, h1, h2⟩ := (h.of d0 hW hn).p0
  have := updT_near (least := least) (win := W) (t := t + d) (v := v) (x := x) hW
  rw [hT] at this
  exact ⟨k0, _, h1, h2, this⟩
end
end Go.Proofs.Ytcdhnokhklnkoaa
