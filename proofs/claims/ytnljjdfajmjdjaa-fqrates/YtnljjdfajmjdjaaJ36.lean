/-
  The document's queue as plain numbers and lists: short ways with one flow alone: its rate; how it is closed. No program is spoken of. Conditions: none.
-/
import Derived.Test.YtnljjdfajmjdjaaJ34
namespace Go.Proofs.Ytnljjdfajmjdjaa
open Go.RowKit
set_option maxRecDepth 100000

def rateC (r : Int) : Cf := ⟨3000, 15000, 100, 50, 10000000000, r, false, 100000, 1000⟩
theorem rate_ok {r : Int} (h : U64 r) : (rateC r).Ok := ⟨plain_ok.hq, plain_ok.hf, plain_ok.hl, plain_ok.hw, plain_ok.hh, h, plain_ok.hk, plain_ok.hm⟩
theorem u5 : U64 5 := ⟨by decide, by decide⟩
/-- Its rate: the next one departs just when the first one has been taken. -/
theorem way_rate {d : Int → Int → Int} {size r dd : Int} (hr : U64 r) (hd : ∀ l z, 0 ≤ d l z ∧ d l z ≤ 1000000000) (hs : 1 ≤ size ∧ size ≤ 9000) (hdd : d size 0 = dd) :
    ∃ x1 x2, x1 = enqQ (enqQ (newQ (rateC r)) ⟨0, 0, size, 0, false⟩ 5) ⟨0, 0, 1, 0, false⟩ 5 ∧ x1.Ok ∧ deqQ d x1 5 = (x2, some ⟨0, 0, size, 0, false⟩) ∧ x2.Ok ∧ x2.c = rateC r ∧ Solo x2 0 ⟨0, 15000 - size, 1, 5 + dd, 0, [⟨0, 0, 1, 0, false⟩]⟩ ∧
      (0 < dd → ∃ x3, deqQ d x2 (4 + dd) = (x3, none) ∧ x3.Ok ∧ x3.c = rateC r ∧ dogQ x3 = some (5 + dd) ∧ (deqQ d x3 (5 + dd)).2 = some ⟨0, 0, 1, 0, false⟩) ∧
      (dd = 0 → (deqQ d x2 5).2 = some ⟨0, 0, 1, 0, false⟩) := by
  have hd0 := fun l z => (hd l z).1
  have hb := hd size 0
  rw [hdd] at hb
  have hB := bare_new (rate_ok hr)
  have he : enqE ⟨0, 0, size, 0, false⟩ = 0 := enqE_ok ⟨Int.le_refl 0, (by decide : (0 : Int) < 8)⟩ ⟨hs.1, by have := hs.2; dsimp only; omega⟩
  have hi := hB.plain he (by decide : (0 : Int) ≤ 5) rfl
  have h1 := hB.enq (k := 0) rfl hi
  rw [segF_t hB.ok (by decide : (0 : Int) ≤ 5) rfl] at h1
  have ok1 : (enqQ (newQ (rateC r)) ⟨0, 0, size, 0, false⟩ 5).Ok := enq_ok hB.ok u5 u0 u0
  have c1 : (enqQ (newQ (rateC r)) ⟨0, 0, size, 0, false⟩ 5).c = rateC r := enq_c _ _ _
  have he1 : enqE ⟨0, 0, 1, 0, false⟩ = 0 := by decide
  have hi1 := h1.plain ok1 he1 rfl (by decide : (0 : Int) ≤ 5) rfl (by rw [c1]; exact (by decide : ((1 : Nat) : Int) < 100)) (by rw [c1]; exact (by decide : ((1 : Nat) : Int) < 50))
  have h2 := h1.enq ok1 (by dsimp only; decide) rfl hi1
  rw [segF_t ok1 (by decide : (0 : Int) ≤ 5) rfl] at h2
  have ok2 := enq_ok ok1 (s := ⟨0, 0, 1, 0, false⟩) u5 u0 u0
  have c2 : (enqQ (enqQ (newQ (rateC r)) ⟨0, 0, size, 0, false⟩ 5) ⟨0, 0, 1, 0, false⟩ 5).c = rateC r := (enq_c _ _ _).trans c1
  obtain ⟨x1, hx1⟩ : ∃ x1, x1 = enqQ (enqQ (newQ (rateC r)) ⟨0, 0, size, 0, false⟩ 5) ⟨0, 0, 1, 0, false⟩ 5 := ⟨_, rfl⟩
  rw [← hx1] at h2 ok2 c2
  obtain ⟨x2, e2, ok3, s2, c3⟩ := h2.go (d := d) u5 hd0 ok2 (.inl rfl) (by decide : (0 : Int) < 15000) rfl (by decide : max (0 : Int) 0 ≤ 5)
  have hn : addS 5 (d size ((0 : Nat) : Int)) = 5 + dd := by
    show addS 5 (d size 0) = _
    rw [hdd]; unfold addS; rw [if_pos (by omega)]
  dsimp only at s2
  rw [hn] at s2
  have c3' : x2.c = rateC r := c3.trans c2
  have htm : ∀ p : Int, timeF ⟨0, 15000 - size, p, 5 + dd, 0, [⟨0, 0, 1, 0, false⟩]⟩ = 5 + dd := fun p => by show max (5 + dd) 0 = _; omega
  have hc0 : (0 : Int) < 15000 - size := by omega
  refine ⟨x1, x2, hx1, ok2, e2, ok3, c3', s2, fun h0 => ?_, fun h0 => ?_⟩
  · have u4 : U64 (4 + dd) := ⟨by omega, by omega⟩
    have u6 : U64 (5 + dd) := ⟨by omega, by omega⟩
    obtain ⟨x3, e3, ok4, s3, c4⟩ := s2.wait (d := d) u4 hd0 ok3 (.inl rfl) hc0 (List.cons_ne_nil _ _) (by show 4 + dd < timeF ⟨0, 15000 - size, 1, 5 + dd, 0, [⟨0, 0, 1, 0, false⟩]⟩; rw [htm]; omega)
    obtain ⟨x4, e4, _, _, _⟩ := s3.went (d := d) u6 hd0 ok4 rfl hc0 rfl (by show timeF ⟨0, 15000 - size, 3, 5 + dd, 0, [⟨0, 0, 1, 0, false⟩]⟩ ≤ 5 + dd; rw [htm]; omega)
    refine ⟨x3, e3, ok4, c4.trans c3', ?_, by rw [e4]⟩
    rw [s3.dog, if_pos rfl]; exact congrArg some (htm 3)
  · obtain ⟨x4, e4, _, _, _⟩ := s2.go (d := d) u5 hd0 ok3 (.inl rfl) hc0 rfl (by show timeF ⟨0, 15000 - size, 1, 5 + dd, 0, [⟨0, 0, 1, 0, false⟩]⟩ ≤ 5; rw [htm]; omega)
    rw [e4]

/-! ### It is closed -/
/-- One departed at a slow rate; then so many came, one behind the other. -/
structure Cls (x : Qm) (k : Nat) (l : List Sg) : Prop where
  ok : x.Ok
  c : x.c = plainC
  is : Solo x k ⟨(k : Int), 14991, 1, 1000000000, 0, l⟩
  t : ∀ s ∈ l, s.t = 0
theorem cls_begin {d : Int → Int → Int} {k : Nat} (hk : k < 8) (hd : ∀ l z, 0 ≤ d l z) (hdd : d 9 (k : Int) = 1000000000) :
    ∃ y, deqQ d (enqQ (newQ plainC) ⟨(k : Int), 0, 9, 0, false⟩ 0) 0 = (y, some ⟨(k : Int), 0, 9, 0, false⟩) ∧ Cls y k [] := by
  have hB := bare_new plain_ok
  have he : enqE ⟨(k : Int), 0, 9, 0, false⟩ = 0 := enqE_ok ⟨by dsimp only; omega, by dsimp only; omega⟩ ⟨by dsimp only; decide, by dsimp only; decide⟩
  have hi := hB.plain he (Int.le_refl 0) rfl
  have h1 := hB.enq (k := k) rfl hi
  rw [segF_t hB.ok (Int.le_refl 0) rfl] at h1
  have ok1 : (enqQ (newQ plainC) ⟨(k : Int), 0, 9, 0, false⟩ 0).Ok := enq_ok hB.ok u0 u0 u0
  obtain ⟨y, e, ok2, s2, c2⟩ := h1.go (d := d) u0 hd ok1 (.inl rfl) (by decide : (0 : Int) < 15000) rfl (by decide : max (0 : Int) 0 ≤ 0)
  have hn : addS 0 (d 9 (k : Int)) = 1000000000 := by rw [hdd]; decide
  dsimp only at s2
  rw [hn] at s2
  exact ⟨y, e, ok2, c2.trans (enq_c _ _ _), s2, fun _ h => by cases h⟩
theorem Cls.enq {x : Qm} {k : Nat} {l : List Sg} (h : Cls x k l) (hl : l.length < 50) {s : Sg} (hs : s.s = (k : Int)) (hsl : 1 ≤ s.l ∧ s.l ≤ 65536) (hf : U64 s.f) (ht : s.t = 0) : Cls (enqQ x s 0) k (l ++ [s]) := by
  have hk := h.is.hk
  have he : enqE s = 0 := enqE_ok (by omega) hsl
  have hi := h.is.plain h.ok he hs (Int.le_refl 0) ht (by rw [h.c]; show (l.length : Int) < 100; omega) (by rw [h.c]; show (l.length : Int) < 50; omega)
  have h2 := h.is.enq h.ok (by dsimp only; decide) hs hi
  rw [segF_t h.ok (Int.le_refl 0) ht] at h2
  refine ⟨enq_ok h.ok u0 hf (by rw [ht]; exact u0), (enq_c _ _ _).trans h.c, h2, fun a ha => ?_⟩
  rcases List.mem_append.1 ha with ha | ha
  · exact h.t a ha
  · rw [List.mem_singleton.1 ha]; exact ht
/-- A pull of nothing; it is closed; none is there then. -/
theorem Cls.end_ {d : Int → Int → Int} {x : Qm} {k : Nat} {l : List Sg} (h : Cls x k l) (hd : ∀ l z, 0 ≤ d l z) :
    ∃ y, deqQ d x 0 = (y, none) ∧ y.Ok ∧ clsV y (k : Int) = l ∧ Bare (clsQ y (k : Int)) ∧ (clsQ y (k : Int)).c = plainC := by
  by_cases hl : l = []
  · subst hl
    obtain ⟨y, e, ok, s, c⟩ := h.is.away (d := d) u0 hd h.ok (.inl rfl) (e := 14991) (.done (by decide : (0 : Int) < 14991)) rfl
    obtain ⟨a, b, c'⟩ := s.bare ok
    exact ⟨y, e, ok, a, b, c'.trans (c.trans h.c)⟩
  · have htm : timeF ⟨(k : Int), 14991, 1, 1000000000, 0, l⟩ = 1000000000 := by
      cases l with
      | nil => exact absurd rfl hl
      | cons s r =>
        have : s.t = 0 := h.t s (List.mem_cons_self ..)
        show max 1000000000 s.t = 1000000000
        rw [this]; decide
    obtain ⟨y, e, ok, s, c⟩ := h.is.wait (d := d) u0 hd h.ok (.inl rfl) (by decide : (0 : Int) < 14991) hl (by rw [htm]; decide)
    obtain ⟨a, b, c'⟩ := s.bare ok
    exact ⟨y, e, ok, a, b, c'.trans (c.trans h.c)⟩
/-- What comes then is a new flow, and departs at once. -/
theorem Bare.again {d : Int → Int → Int} {x : Qm} {k : Nat} (h : Bare x) (hk : k < 8) (hd : ∀ l z, 0 ≤ d l z) :
    enqE ⟨(k : Int), 0, 3, 0, false⟩ = 0 ∧ (enqQ x ⟨(k : Int), 0, 3, 0, false⟩ 0).Ok ∧ Solo (enqQ x ⟨(k : Int), 0, 3, 0, false⟩ 0) k ⟨(k : Int), x.c.f, 1, 0, 0, [⟨(k : Int), 0, 3, 0, false⟩]⟩ ∧
      (deqQ d (enqQ x ⟨(k : Int), 0, 3, 0, false⟩ 0) 0).2 = some ⟨(k : Int), 0, 3, 0, false⟩ := by
  have he : enqE ⟨(k : Int), 0, 3, 0, false⟩ = 0 := enqE_ok ⟨by dsimp only; omega, by dsimp only; omega⟩ ⟨by dsimp only; decide, by dsimp only; decide⟩
  have hi := h.plain he (Int.le_refl 0) rfl
  have h1 := h.enq (k := k) rfl hi
  rw [segF_t h.ok (Int.le_refl 0) rfl] at h1
  have ok1 : (enqQ x ⟨(k : Int), 0, 3, 0, false⟩ 0).Ok := enq_ok h.ok u0 u0 u0
  have hf := h.ok.hc.hf
  obtain ⟨y, e, _, _, _⟩ := h1.go (d := d) u0 hd ok1 (.inl rfl) (by dsimp only; omega) rfl (by decide : max (0 : Int) 0 ≤ 0)
  exact ⟨he, ok1, h1, by rw [e]⟩
end Go.Proofs.Ytnljjdfajmjdjaa
