/-
  The document's queue as plain numbers and lists: what holds of it all along (places and lists, credits, lengths), and that each call keeps it. No program is spoken of. Conditions: none.
-/
import Derived.Test.YtoekmdidonnamaaQmRun
namespace Go.Proofs.Ytoekmdidonnamaa
open Go.RowKit
set_option maxRecDepth 100000

def U64 (n : Int) : Prop := 0 ≤ n ∧ n ≤ 18446744073709551615
theorem addS_fit {a b : Int} (ha : 0 ≤ a) (hb : 0 ≤ b) : U64 (addS a b) := by unfold addS U64; split <;> omega

/-- What a segment that is queued is. -/
structure Sg.Ok (s : Sg) (i : Nat) : Prop where
  hs : s.s = (i : Int)
  hf : U64 s.f
  hl : 1 ≤ s.l ∧ s.l ≤ 65536
  ht : U64 s.t
/-- What a flow that is there is. -/
structure Fl.Ok (f : Fl) (i : Nat) : Prop where
  hs : f.s = (i : Int)
  hc : -65536 ≤ f.c ∧ f.c ≤ 65536
  hp : 0 ≤ f.p ∧ f.p ≤ 3
  hn : U64 f.n
  hu : U64 f.u
  no : f.p ≠ 0 → f.u = 0
  em : f.p = 0 → f.q = []
  wt : f.p = 3 → f.q ≠ []
  hq : ∀ s ∈ f.q, s.Ok i
/-- What May says of a config. -/
structure Cf.Ok (c : Cf) : Prop where
  hq : 100 ≤ c.q ∧ c.q ≤ 65536
  hf : 100 ≤ c.f ∧ c.f ≤ 65536
  hl : 1 ≤ c.l ∧ c.l ≤ 512
  hw : 1 ≤ c.w ∧ c.w ≤ 512
  hh : 0 ≤ c.h ∧ c.h ≤ 4611686018427387904
  hr : U64 c.r
  hk : 1 ≤ c.k ∧ c.k ≤ 1073741824
  hm : 100 ≤ c.m ∧ c.m ≤ 9000
structure Qm.Ok (x : Qm) : Prop where
  hc : x.c.Ok
  ls : LsOk x.N x.O
  new : ∀ i : Nat, i < 8 → ((i : Int) ∈ x.N ↔ x.T i = true ∧ (x.F i).p = 1)
  old : ∀ i : Nat, i < 8 → ((i : Int) ∈ x.O ↔ x.T i = true ∧ (x.F i).p = 2)
  is : ∀ i : Nat, i < 8 → x.T i = true → (x.F i).Ok i
  no : ∀ i : Nat, i < 8 → x.T i = false → x.F i = Fl.zero
  len : lenQ x ≤ 512

/-! ### Lengths -/
theorem lenQ_eq (x : Qm) : lenQ x = (x.F 0).q.length + (x.F 1).q.length + (x.F 2).q.length + (x.F 3).q.length + (x.F 4).q.length + (x.F 5).q.length + (x.F 6).q.length + (x.F 7).q.length := by
  simp [lenQ, List.range_succ]; omega
theorem lenQ_same {x y : Qm} (h : ∀ i, i < 8 → (y.F i).q.length = (x.F i).q.length) : lenQ y = lenQ x := by
  rw [lenQ_eq, lenQ_eq, h 0 (by decide), h 1 (by decide), h 2 (by decide), h 3 (by decide), h 4 (by decide), h 5 (by decide), h 6 (by decide), h 7 (by decide)]
theorem lenQ_up {x y : Qm} {i : Nat} (hi : i < 8) (h : ∀ j : Nat, j ≠ i → y.F j = x.F j) : lenQ y + (x.F i).q.length = lenQ x + (y.F i).q.length := by
  rw [lenQ_eq, lenQ_eq]
  have h0 := h 0; have h1 := h 1; have h2 := h 2; have h3 := h 3; have h4 := h 4; have h5 := h 5; have h6 := h 6; have h7 := h 7
  match i, hi with
  | 0, _ => rw [h1 (by decide), h2 (by decide), h3 (by decide), h4 (by decide), h5 (by decide), h6 (by decide), h7 (by decide)]; omega
  | 1, _ => rw [h0 (by decide), h2 (by decide), h3 (by decide), h4 (by decide), h5 (by decide), h6 (by decide), h7 (by decide)]; omega
  | 2, _ => rw [h0 (by decide), h1 (by decide), h3 (by decide), h4 (by decide), h5 (by decide), h6 (by decide), h7 (by decide)]; omega
  | 3, _ => rw [h0 (by decide), h1 (by decide), h2 (by decide), h4 (by decide), h5 (by decide), h6 (by decide), h7 (by decide)]; omega
  | 4, _ => rw [h0 (by decide), h1 (by decide), h2 (by decide), h3 (by decide), h5 (by decide), h6 (by decide), h7 (by decide)]; omega
  | 5, _ => rw [h0 (by decide), h1 (by decide), h2 (by decide), h3 (by decide), h4 (by decide), h6 (by decide), h7 (by decide)]; omega
  | 6, _ => rw [h0 (by decide), h1 (by decide), h2 (by decide), h3 (by decide), h4 (by decide), h5 (by decide), h7 (by decide)]; omega
  | 7, _ => rw [h0 (by decide), h1 (by decide), h2 (by decide), h3 (by decide), h4 (by decide), h5 (by decide), h6 (by decide)]; omega
theorem lenQ_le {x : Qm} {i : Nat} (hi : i < 8) : (x.F i).q.length ≤ lenQ x := by
  have := lenQ_up (y := { x with F := upF x.F i Fl.zero }) hi (fun j hj => upF_ne _ _ hj)
  have e : ({ x with F := upF x.F i Fl.zero } : Qm).F i = Fl.zero := upF_at _ _ _
  rw [e] at this
  simp [Fl.zero] at this
  omega

/-! ### One flow turns -/
theorem Qm.Ok.turn {x y : Qm} (h : x.Ok) {i : Nat} (hi : i < 8) (hF : ∀ j : Nat, j ≠ i → y.F j = x.F j) (hT : ∀ j : Nat, j ≠ i → y.T j = x.T j) (hc : y.c.Ok)
    (fl : y.T i = true → (y.F i).Ok i) (go : y.T i = false → y.F i = Fl.zero) (ls : LsOk y.N y.O)
    (n : ∀ z : Int, z ≠ (i : Int) → (z ∈ y.N ↔ z ∈ x.N)) (o : ∀ z : Int, z ≠ (i : Int) → (z ∈ y.O ↔ z ∈ x.O))
    (ni : (i : Int) ∈ y.N ↔ y.T i = true ∧ (y.F i).p = 1) (oi : (i : Int) ∈ y.O ↔ y.T i = true ∧ (y.F i).p = 2) (len : lenQ y ≤ 512) : y.Ok where
  hc := hc
  ls := ls
  new := fun j hj => by
    by_cases e : j = i
    · subst e; exact ni
    · rw [n j (by omega), hT j e, hF j e]; exact h.new j hj
  old := fun j hj => by
    by_cases e : j = i
    · subst e; exact oi
    · rw [o j (by omega), hT j e, hF j e]; exact h.old j hj
  is := fun j hj => by
    by_cases e : j = i
    · subst e; exact fl
    · rw [hT j e, hF j e]; exact h.is j hj
  no := fun j hj => by
    by_cases e : j = i
    · subst e; exact go
    · rw [hT j e, hF j e]; exact h.no j hj
  len := len
/-- A flow that is there goes to another place. -/
theorem Qm.Ok.put {x y : Qm} (h : x.Ok) {i : Nat} (hi : i < 8) (hF : ∀ j : Nat, j ≠ i → y.F j = x.F j) (hT : ∀ j : Nat, y.T j = x.T j) (hc : y.c = x.c) (ht : x.T i = true)
    (fl : (y.F i).Ok i) (hn : y.N = if (y.F i).p = 1 then x.N.erase (i : Int) ++ [(i : Int)] else x.N.erase (i : Int)) (ho : y.O = if (y.F i).p = 2 then x.O.erase (i : Int) ++ [(i : Int)] else x.O.erase (i : Int))
    (hq : (y.F i).q.length ≤ (x.F i).q.length) : y.Ok := by
  have hz : (0 : Int) ≤ (i : Int) ∧ (i : Int) < 8 := by omega
  have hg := h.ls.gone (i : Int)
  rw [List.mem_append, not_or] at hg
  refine h.turn hi hF (fun j _ => hT j) (hc ▸ h.hc) (fun _ => fl) (fun e => ?_) ?_ (fun z hzi => ?_) (fun z hzi => ?_) ?_ ?_ ?_
  · rw [hT, ht] at e; cases e
  · rw [hn, ho]; exact h.ls.put hz _
  · rw [hn]; split
    · rw [List.mem_append, List.mem_erase_of_ne hzi, List.mem_singleton]; exact or_iff_left hzi
    · exact List.mem_erase_of_ne hzi
  · rw [ho]; split
    · rw [List.mem_append, List.mem_erase_of_ne hzi, List.mem_singleton]; exact or_iff_left hzi
    · exact List.mem_erase_of_ne hzi
  · rw [hn, hT, ht]; split
    · rename_i e; simp [e]
    · rename_i e; simp [e, hg.1]
  · rw [ho, hT, ht]; split
    · rename_i e; simp [e]
    · rename_i e; simp [e, hg.2]
  · have := lenQ_up hi hF
    have := h.len
    omega
end Go.Proofs.Ytoekmdidonnamaa
