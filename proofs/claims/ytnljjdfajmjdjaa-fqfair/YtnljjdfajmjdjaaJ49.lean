/-
  The document's queue as plain numbers and lists: two flows of three segments each, others beside them, no times: what FqFair keeps from round to round. No program is spoken of. Conditions: none.
  canterlaw20.FqFair's parts: how long the next segment is; a flow, be it there or not. Conditions: the list lies in memory as slices do.
-/
import Derived.Test.YtnljjdfajmjdjaaJ33
import Derived.Test.YtnljjdfajmjdjaaJ23
import Derived.Test.YtnljjdfajmjdjaaJ34
import Derived.Test.YtnljjdfajmjdjaaJ43
namespace Go.Proofs.Ytnljjdfajmjdjaa
open Go.RowKit
set_option maxRecDepth 100000

theorem dly_un (l z : Int) : dlyQ [] 0 l z = 0 := by
  have h : lesV (rateAt [] z.toNat) 0 = 18446744073709551615 := by
    show lesV 18446744073709551615 0 = _
    decide
  show delV l (lesV (rateAt [] z.toNat) 0) = 0
  rw [h]
  unfold delV
  split
  · rfl
  · rw [if_pos rfl]
structure Run (x : Qm) (p : Cf) (h0 h1 L : Int) (n0 n1 : Nat) : Prop where
  c : x.c = p
  z : Zero x
  q0 : ∀ s ∈ (x.F 0).q, s.l ≤ L
  q1 : ∀ s ∈ (x.F 1).q, s.l ≤ L
  e0 : (x.F 0).q.length = n0
  e1 : (x.F 1).q.length = n1
  b0 : n0 ≤ 3
  b1 : n1 ≤ 3
  o : ∀ k : Nat, 2 ≤ k → k < 8 → (x.F k).q.length ≤ 40
  L0 : 0 ≤ L
  ph : (x = newQ p ∧ n0 = 0 ∧ n1 = 0 ∧ h0 = 0 ∧ h1 = 0) ∨ (Beg x p ∧ 1 ≤ n0 ∧ n1 = 0 ∧ h0 = 0 ∧ h1 = 0) ∨ Fair x p h0 h1 L
theorem Run.new (p : Cf) : Run (newQ p) p 0 0 0 0 0 :=
  ⟨rfl, zero_new p, fun _ h => by (cases h), fun _ h => by (cases h), rfl, rfl, by decide, by decide, fun _ _ _ => Nat.zero_le _, Int.le_refl 0, .inl ⟨rfl, rfl, rfl, rfl, rfl⟩⟩
section
variable {x y : Qm} {p : Cf} {h0 h1 L l : Int} {n0 n1 : Nat}
theorem Run.len (h : Run x p h0 h1 L n0 n1) : lenQ x ≤ 246 := by
  have a := h.e0; have b := h.e1; have c := h.b0; have d := h.b1
  have o2 := h.o 2 (by decide) (by decide); have o3 := h.o 3 (by decide) (by decide); have o4 := h.o 4 (by decide) (by decide); have o5 := h.o 5 (by decide) (by decide); have o6 := h.o 6 (by decide) (by decide); have o7 := h.o 7 (by decide) (by decide)
  rw [lenQ_eq]
  omega
theorem Run.in_ (h : Run x p h0 h1 L n0 n1) (hp : p.l = 512 ∧ p.w = 40) (hx : x.Ok) {s : Sg} (he : enqE s = 0) (ht : s.t = 0) (hq : (x.F s.s.toNat).q.length < 40) : InQ x s 0 := by
  have := h.len
  exact room_in hx he (by rw [h.c, hp.1]; omega) (by rw [h.c, hp.2]; omega) (Int.le_refl 0) ht
theorem enqE_at {k : Nat} (hk : k < 8) (hl : 1 ≤ l ∧ l ≤ 65536) : enqE ⟨(k : Int), 0, l, 0, false⟩ = 0 := by
  unfold enqE
  dsimp only
  rw [if_neg (by omega), if_neg (by omega)]
theorem enq_qs (hx : x.Ok) {s : Sg} (hi : InQ x s 0) {j : Nat} (hj : j < 8) : ((enqQ x s 0).F j).q = if s.s = (j : Int) then (x.F j).q ++ [segF x s 0] else (x.F j).q := by
  rw [enq_q hx s 0 hj]
  by_cases e : s.s = (j : Int)
  · rw [if_pos ⟨hi, e⟩, if_pos e]
  · rw [if_neg (fun h => e h.2), if_neg e]
theorem more_l {q : List Sg} {s : Sg} (h : ∀ t ∈ q, t.l ≤ L) : ∀ t ∈ q ++ [segF x s 0], t.l ≤ max L s.l := fun t ht => by
  rcases List.mem_append.1 ht with a | a
  · have := h t a; omega
  · rw [List.mem_singleton] at a
    subst a
    show s.l ≤ _
    omega
theorem Run.put0 (h : Run x p h0 h1 L n0 n1) (hx : x.Ok) (hp : p.l = 512 ∧ p.w = 40) (hl : 1 ≤ l ∧ l ≤ 9000) (hn : n0 < 3) : Run (enqQ x ⟨((0 : Nat) : Int), 0, l, 0, false⟩ 0) p h0 h1 (max L l) (n0 + 1) n1 := by
  have he : enqE ⟨((0 : Nat) : Int), 0, l, 0, false⟩ = 0 := enqE_at (by decide) ⟨hl.1, by omega⟩
  have hi := h.in_ hp hx (s := ⟨((0 : Nat) : Int), 0, l, 0, false⟩) he rfl (by show (x.F 0).q.length < 40; rw [h.e0]; omega)
  have g0 : ((enqQ x ⟨((0 : Nat) : Int), 0, l, 0, false⟩ 0).F 0).q = (x.F 0).q ++ [segF x ⟨((0 : Nat) : Int), 0, l, 0, false⟩ 0] := by rw [enq_qs hx hi (by decide)]; exact if_pos rfl
  have ge : ∀ j : Nat, 0 < j → j < 8 → ((enqQ x ⟨((0 : Nat) : Int), 0, l, 0, false⟩ 0).F j).q = (x.F j).q := fun j h0 hj => by rw [enq_qs hx hi hj]; exact if_neg (by dsimp only; omega)
  refine ⟨(enq_c _ _ _).trans h.c, h.z.enq hx rfl, ?_, ?_, ?_, ?_, by omega, h.b1, fun k a b => ?_, by have := h.L0; omega, ?_⟩
  · rw [g0]; exact more_l h.q0
  · rw [ge 1 (by decide) (by decide)]; exact fun s hs => by have := h.q1 s hs; omega
  · rw [g0, List.length_append, List.length_singleton, h.e0]
  · rw [ge 1 (by decide) (by decide)]; exact h.e1
  · rw [ge k (by omega) b]; exact h.o k a b
  · rcases h.ph with ⟨hq, _, a, b, c⟩ | ⟨hq, _, a, b, c⟩ | hq
    · rw [hq]
      rw [hq] at hi
      exact .inr (.inl ⟨new_beg (by have := hx.hc; rwa [h.c] at this) rfl hi, by omega, a, b, c⟩)
    · exact .inr (.inl ⟨hq.again rfl, by omega, a, b, c⟩)
    · exact .inr (.inr ((hq.more (by omega)).enq _))
theorem Run.put1 (h : Run x p h0 h1 L n0 n1) (hx : x.Ok) (hp : p.l = 512 ∧ p.w = 40) (hl : 1 ≤ l ∧ l ≤ 9000) (h3 : 1 ≤ n0) (hn : n1 < 3) : Run (enqQ x ⟨((1 : Nat) : Int), 0, l, 0, false⟩ 0) p h0 h1 (max L l) n0 (n1 + 1) := by
  have he : enqE ⟨((1 : Nat) : Int), 0, l, 0, false⟩ = 0 := enqE_at (by decide) ⟨hl.1, by omega⟩
  have hi := h.in_ hp hx (s := ⟨((1 : Nat) : Int), 0, l, 0, false⟩) he rfl (by show (x.F 1).q.length < 40; rw [h.e1]; omega)
  have g1 : ((enqQ x ⟨((1 : Nat) : Int), 0, l, 0, false⟩ 0).F 1).q = (x.F 1).q ++ [segF x ⟨((1 : Nat) : Int), 0, l, 0, false⟩ 0] := by rw [enq_qs hx hi (by decide)]; exact if_pos rfl
  have ge : ∀ j : Nat, j ≠ 1 → j < 8 → ((enqQ x ⟨((1 : Nat) : Int), 0, l, 0, false⟩ 0).F j).q = (x.F j).q := fun j h0 hj => by rw [enq_qs hx hi hj]; exact if_neg (by dsimp only; omega)
  refine ⟨(enq_c _ _ _).trans h.c, h.z.enq hx rfl, ?_, ?_, ?_, ?_, h.b0, by omega, fun k a b => ?_, by have := h.L0; omega, ?_⟩
  · rw [ge 0 (by decide) (by decide)]; exact fun s hs => by have := h.q0 s hs; omega
  · rw [g1]; exact more_l h.q1
  · rw [ge 0 (by decide) (by decide)]; exact h.e0
  · rw [g1, List.length_append, List.length_singleton, h.e1]
  · rw [ge k (by omega) b]; exact h.o k a b
  · rcases h.ph with ⟨hq, a, _⟩ | ⟨hq, _, a, b, c⟩ | hq
    · omega
    · rw [b, c]
      exact .inr (.inr (hq.both hx rfl hi (by have := h.L0; omega)))
    · exact .inr (.inr ((hq.more (by omega)).enq _))
theorem Run.put2 (h : Run x p h0 h1 L 3 3) (hx : x.Ok) (hp : p.l = 512 ∧ p.w = 40) {k : Nat} (h2 : 2 ≤ k) (h8 : k < 8) (hl : 1 ≤ l ∧ l ≤ 9000) : Run (enqQ x ⟨(k : Int), 0, l, 0, false⟩ 0) p h0 h1 L 3 3 := by
  have he : enqE ⟨(k : Int), 0, l, 0, false⟩ = 0 := enqE_at h8 ⟨hl.1, by omega⟩
  have ge : ∀ j : Nat, j ≠ k → j < 8 → ((enqQ x ⟨(k : Int), 0, l, 0, false⟩ 0).F j).q = (x.F j).q := fun j h0 hj => by rw [enq_q hx _ 0 hj]; exact if_neg (fun e => by have := e.2; dsimp only at this; omega)
  refine ⟨(enq_c _ _ _).trans h.c, h.z.enq hx rfl, ?_, ?_, ?_, ?_, h.b0, h.b1, fun j a b => ?_, h.L0, ?_⟩
  · rw [ge 0 (by omega) (by decide)]; exact h.q0
  · rw [ge 1 (by omega) (by decide)]; exact h.q1
  · rw [ge 0 (by omega) (by decide)]; exact h.e0
  · rw [ge 1 (by omega) (by decide)]; exact h.e1
  · by_cases e : j = k
    · subst e
      rw [enq_q hx _ 0 b]
      split
      · rename_i hi
        have hf := hi.1.2
        unfold fateQ at hf
        rw [h.c, hp.1, hp.2] at hf
        dsimp only at hf
        rw [show ((j : Int)).toNat = j from rfl] at hf
        rw [List.length_append, List.length_singleton]
        by_cases c1 : (512 : Int) ≤ (lenQ x : Int)
        · rw [if_pos c1] at hf; cases hf
        · rw [if_neg c1] at hf
          by_cases c2 : (40 : Int) ≤ ((x.F j).q.length : Int)
          · rw [if_pos c2] at hf; cases hf
          · omega
      · exact h.o j a b
    · rw [ge j e b]; exact h.o j a b
  · rcases h.ph with ⟨_, a, _⟩ | ⟨_, _, a, _⟩ | hq
    · cases a
    · cases a
    · exact .inr (.inr (hq.enq _))
theorem Run.put0z {z : Int} (hz : z = ((0 : Nat) : Int)) (h : Run x p h0 h1 L n0 n1) (hx : x.Ok) (hp : p.l = 512 ∧ p.w = 40) (hl : 1 ≤ l ∧ l ≤ 9000) (hn : n0 < 3) : Run (enqQ x ⟨z, 0, l, 0, false⟩ 0) p h0 h1 (max L l) (n0 + 1) n1 := by
  subst hz; exact h.put0 hx hp hl hn
theorem Run.put1z {z : Int} (hz : z = ((1 : Nat) : Int)) (h : Run x p h0 h1 L n0 n1) (hx : x.Ok) (hp : p.l = 512 ∧ p.w = 40) (hl : 1 ≤ l ∧ l ≤ 9000) (h3 : 1 ≤ n0) (hn : n1 < 3) : Run (enqQ x ⟨z, 0, l, 0, false⟩ 0) p h0 h1 (max L l) n0 (n1 + 1) := by
  subst hz; exact h.put1 hx hp hl h3 hn
theorem Run.put2z {z : Int} {k : Nat} (hz : z = (k : Int)) (h : Run x p h0 h1 L 3 3) (hx : x.Ok) (hp : p.l = 512 ∧ p.w = 40) (h2 : 2 ≤ k) (h8 : k < 8) (hl : 1 ≤ l ∧ l ≤ 9000) : Run (enqQ x ⟨z, 0, l, 0, false⟩ 0) p h0 h1 L 3 3 := by
  subst hz; exact h.put2 hx hp h2 h8 hl
/-- A pull. -/
theorem Run.pull (h : Run x p h0 h1 L 3 3) (hx : x.Ok) (hr : p.r = 0) {so : Option Sg} (he : deqQ (dlyQ [] x.c.r) x 0 = (y, so)) :
    ∃ s, so = some s ∧ (0 ≤ s.s ∧ s.s < 8) ∧ 1 ≤ s.l ∧ (s.s = 0 ∨ s.s = 1 → s.l ≤ L) ∧ Fair y p (hadQ h0 0 s) (hadQ h1 1 s) L ∧ ∃ m0 m1, Run y p (hadQ h0 0 s) (hadQ h1 1 s) L m0 m1 := by
  have hfr : Fair x p h0 h1 L := by
    rcases h.ph with ⟨_, a, _⟩ | ⟨_, _, a, _⟩ | hq
    · cases a
    · cases a
    · exact hq
  have hd : ∀ l z, dlyQ [] x.c.r l z = 0 := fun l z => by rw [h.c, hr]; exact dly_un l z
  have hd0 : ∀ l z, 0 ≤ dlyQ [] x.c.r l z := fun l z => by rw [hd]; exact Int.le_refl 0
  have hn : U64 0 := ⟨by decide, by decide⟩
  have n0 : (x.F 0).q ≠ [] := fun e => by have := h.e0; rw [e] at this; cases this
  have n1 : (x.F 1).q ≠ [] := fun e => by have := h.e1; rw [e] at this; cases this
  obtain ⟨s, hs, hF⟩ := hfr.deq hx hn hd0 (h.z.ready n0 n1) (fun s hs => by rcases hs with a | a; exact h.q0 s a; exact h.q1 s a)
  have hE := deq_ends (d := dlyQ [] x.c.r) hx hn hd0
  rw [he] at hs hF hE
  obtain rfl : so = some s := hs
  have hZ := h.z.ends hd hE
  cases hE with
  | some a =>
    rename_i i r
    have hi := a.hi
    have hss := a.hs
    have hm : s ∈ (x.F i).q := by rw [a.hq]; exact List.mem_cons_self ..
    have hl := ((hx.is i hi a.hT).hq s hm).hl.1
    have hsub : ∀ j : Nat, ∀ t ∈ (y.F j).q, t ∈ (x.F j).q := fun j t ht => by
      by_cases e : j = i
      · subst e; rw [a.q] at ht; rw [a.hq]; exact List.mem_cons_of_mem _ ht
      · rw [a.qs j e] at ht; exact ht
    have hlen : ∀ j : Nat, (y.F j).q.length ≤ (x.F j).q.length := fun j => by
      by_cases e : j = i
      · subst e; rw [a.q, a.hq, List.length_cons]; omega
      · rw [a.qs j e]; exact Nat.le_refl _
    refine ⟨s, rfl, by omega, hl, fun e => ?_, hF, (y.F 0).q.length, (y.F 1).q.length, ⟨a.c.trans h.c, hZ, fun t ht => h.q0 t (hsub 0 t ht), fun t ht => h.q1 t (hsub 1 t ht), rfl, rfl, ?_, ?_, fun k a1 a2 => Nat.le_trans (hlen k) (h.o k a1 a2), h.L0, .inr (.inr hF)⟩⟩
    · rcases e with e | e
      · obtain rfl : i = 0 := by omega
        exact h.q0 s hm
      · obtain rfl : i = 1 := by omega
        exact h.q1 s hm
    · have := hlen 0; rw [h.e0] at this; exact this
    · have := hlen 1; rw [h.e1] at this; exact this
end
end Go.Proofs.Ytnljjdfajmjdjaa
namespace Go.Proofs.Ytnljjdfajmjdjaa
open Go.RowKit
set_option maxRecDepth 100000
set_option linter.unusedSimpArgs false
set_option linter.unusedVariables false

set_option maxHeartbeats 1000000 in
/-- How long the next segment is. -/
theorem size_any (a : Option Addr) (cap : Nat) (zs : List Int) (k : Int) (hk : 0 ≤ k) (w : World) (hzl : zs.length ≤ 9223372036854775807) (hrd : Rd .i64 w a zs) :
    Calls Try.prog 27 #[.slice a zs.length cap, .int .i64 k] w fun e w' => ∃ v, e = .returned (.int .i64 v) ∧ (1 ≤ v ∧ v ≤ 9000) ∧ w = w' := by
  by_cases hz : zs.length = 0
  · have hz0 : ((zs.length : Int) == 0) = true := by rw [hz]; rfl
    clear hrd hzl hz
    go_enter Try.func27, Try.ntmps27
    go_wp2
    go_ret
    exact ⟨_, rfl, ⟨by decide, by decide⟩, rfl⟩
  · have hz0 : ((zs.length : Int) == 0) = false := by rw [beq_eq_false_iff_ne]; omega
    have hp : (0 : Int) < (zs.length : Int) := by omega
    have hr0 : 0 ≤ k % (zs.length : Int) := Int.emod_nonneg k (fun e => by omega)
    have hr1 := Int.emod_lt_of_pos k hp
    obtain ⟨t, ht⟩ : ∃ t : Nat, k % (zs.length : Int) = (t : Int) := ⟨(k % (zs.length : Int)).toNat, (Int.toNat_of_nonneg hr0).symm⟩
    obtain ⟨b, off, ea, _, cz⟩ := hrd t (by have := hr1; rw [ht] at this; omega)
    subst ea
    obtain ⟨v, hv⟩ : ∃ v, zs.getD t 0 = v := ⟨_, rfl⟩
    rw [hv] at cz
    obtain ⟨n, s, m1, m2, m3, m4, m5, m6⟩ := mod_num v 9000 (by decide) (by decide)
    have HB : Hid (1 ≤ s ∧ s ≤ 9000) := Lib.hid (by omega)
    have ht' : k.tmod (zs.length : Int) = (t : Int) := by rw [Int.tmod_eq_emod_of_nonneg hk]; exact ht
    have htl : (t : Int) < (zs.length : Int) := by rw [← ht]; exact hr1
    clear hrd hv m4 m5 m6 hr0 hr1
    go_enter Try.func27, Try.ntmps27
    go_wp2
    rw [m3]
    go_ret
    exact ⟨_, rfl, HB.out, rfl⟩
/-- A flow, be it there or not. -/
theorem Room.fqflow0 {wB w : World} {L : List Thing} {g : Nat} {own : Nat → Prop} {x : Qm} (h : Room wB w (fqT g own x :: L)) (hx : x.Ok) : Calls Try.prog 20 #[.pointer (some ⟨g, 0, none⟩), .int .i64 0] w fun e w' => ∃ V tb, e = .returned (.tuple #[Fl.v V (x.F 0), .bool tb]) ∧ Room wB w' (fqT g own x :: sgsT 34 V (x.F 0).q :: L) := by
  cases ht : x.T 0 with
  | true => exact (h.fqflow_yes (i := 0) (by decide) ht).mono fun e w' ⟨V, he, hr⟩ => ⟨V, true, he, hr⟩
  | false =>
    rw [hx.no 0 (by decide) ht]
    refine (h.fqflow_no 0 (fun e => by have h1 := e.2; rw [show ((0 : Int)).toNat = 0 from rfl, ht] at h1; cases h1)).mono ?_
    rintro e w' ⟨rfl, hr⟩
    exact ⟨.slice none 0 0, false, rfl, (hr.add (t := sgsT 34 (.slice none 0 0) []) (sgs_nil w' 34) (Keep.refl _ w') (fun k e => by cases e)).perm (List.Perm.swap _ _ _)⟩
theorem Room.fqflow1 {wB w : World} {L : List Thing} {g : Nat} {own : Nat → Prop} {x : Qm} (h : Room wB w (fqT g own x :: L)) (hx : x.Ok) : Calls Try.prog 20 #[.pointer (some ⟨g, 0, none⟩), .int .i64 1] w fun e w' => ∃ V tb, e = .returned (.tuple #[Fl.v V (x.F 1), .bool tb]) ∧ Room wB w' (fqT g own x :: sgsT 34 V (x.F 1).q :: L) := by
  cases ht : x.T 1 with
  | true => exact (h.fqflow_yes (i := 1) (by decide) ht).mono fun e w' ⟨V, he, hr⟩ => ⟨V, true, he, hr⟩
  | false =>
    rw [hx.no 1 (by decide) ht]
    refine (h.fqflow_no 1 (fun e => by have h1 := e.2; rw [show ((1 : Int)).toNat = 1 from rfl, ht] at h1; cases h1)).mono ?_
    rintro e w' ⟨rfl, hr⟩
    exact ⟨.slice none 0 0, false, rfl, (hr.add (t := sgsT 34 (.slice none 0 0) []) (sgs_nil w' 34) (Keep.refl _ w') (fun k e => by cases e)).perm (List.Perm.swap _ _ _)⟩
end Go.Proofs.Ytnljjdfajmjdjaa
