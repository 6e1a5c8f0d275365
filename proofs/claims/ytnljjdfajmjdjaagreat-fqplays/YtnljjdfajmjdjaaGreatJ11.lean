/-
  The document's queue as plain numbers and lists: each call keeps what holds of it. No program is spoken of. Conditions: none.
-/
import Derived.Test.YtnljjdfajmjdjaaGreatJ03
namespace Go.Proofs.YtnljjdfajmjdjaaGreat
open Go.RowKit
set_option maxRecDepth 100000

/-! ### The head -/
theorem head_in {N O : List Int} (hb : headB N O = true) : headS N O ∈ N ++ O := by
  unfold headB at hb
  unfold headS
  cases h : N ++ O with
  | nil => rw [h] at hb; cases hb
  | cons z r => exact List.mem_cons_self ..
/-- The head is there; it is new, or old. -/
theorem Qm.Ok.head {x : Qm} (h : x.Ok) (hb : headB x.N x.O = true) :
    ∃ i : Nat, i < 8 ∧ headS x.N x.O = (i : Int) ∧ (headS x.N x.O).toNat = i ∧ x.T i = true ∧ ((x.F i).p = 1 ∨ (x.F i).p = 2) ∧ (x.F i).Ok i := by
  have hz := head_sock h.ls hb
  have hi : (headS x.N x.O).toNat < 8 := by omega
  have hm := head_in hb
  rw [← sock_nat hz.1] at hm
  refine ⟨_, hi, (sock_nat hz.1).symm, rfl, ?_⟩
  rcases List.mem_append.1 hm with h1 | h1
  · have := (h.new _ hi).1 h1; exact ⟨this.1, .inl this.2, h.is _ hi this.1⟩
  · have := (h.old _ hi).1 h1; exact ⟨this.1, .inr this.2, h.is _ hi this.1⟩

/-! ### A turn of a pull -/
inductive TurnIs (d : Int → Int → Int) (x : Qm) (now : Int) : Prop where
  | none (hb : headB x.N x.O = false) (ht : turnQ d x now = .stop x none)
  | more (i : Nat) (hb : headB x.N x.O = true) (hi : i < 8) (hs : headS x.N x.O = (i : Int)) (hc : (x.F i).c ≤ 0)
      (ht : turnQ d x now = .on (putQ { x with F := upF x.F i { x.F i with c := (x.F i).c + x.c.q } } i 2))
  | back (i : Nat) (hb : headB x.N x.O = true) (hi : i < 8) (hs : headS x.N x.O = (i : Int)) (hc : ¬ (x.F i).c ≤ 0) (hq : (x.F i).q = [])
      (hf : headF x.N x.O = true ∧ x.O ≠ []) (ht : turnQ d x now = .on (putQ x i 2))
  | gone (i : Nat) (hb : headB x.N x.O = true) (hi : i < 8) (hs : headS x.N x.O = (i : Int)) (hc : ¬ (x.F i).c ≤ 0) (hq : (x.F i).q = [])
      (hf : ¬ (headF x.N x.O = true ∧ x.O ≠ [])) (ht : turnQ d x now = .on { putQ x i 0 with F := upF (putQ x i 0).F i { (putQ x i 0).F i with u := now } })
  | wait (i : Nat) (hb : headB x.N x.O = true) (hi : i < 8) (hs : headS x.N x.O = (i : Int)) (hc : ¬ (x.F i).c ≤ 0) (s : Sg) (r : List Sg) (hq : (x.F i).q = s :: r)
      (hw : now < timeF (x.F i)) (ht : turnQ d x now = .on (putQ x i 3))
  | dep (i : Nat) (hb : headB x.N x.O = true) (hi : i < 8) (hs : headS x.N x.O = (i : Int)) (hc : ¬ (x.F i).c ≤ 0) (s : Sg) (r : List Sg) (hq : (x.F i).q = s :: r)
      (hw : ¬ now < timeF (x.F i)) (ht : turnQ d x now = .stop { x with F := upF x.F i { x.F i with q := r, c := (x.F i).c - s.l, n := addS now (d s.l (i : Int)) } } (some s))
theorem turn_is (d : Int → Int → Int) {x : Qm} (now : Int) (h : LsOk x.N x.O) : TurnIs d x now := by
  by_cases hb : headB x.N x.O = false
  · exact .none hb (by unfold turnQ; rw [if_pos hb])
  · have hb' : headB x.N x.O = true := by simpa using hb
    have hz := head_sock h hb'
    obtain ⟨i, hi⟩ : ∃ i : Nat, headS x.N x.O = (i : Int) := ⟨(headS x.N x.O).toNat, (sock_nat hz.1).symm⟩
    have hi8 : i < 8 := by omega
    have hn : (headS x.N x.O).toNat = i := by rw [hi]; rfl
    have e : turnQ d x now = _ := rfl
    conv at e => rhs; unfold turnQ; rw [if_neg hb]; dsimp only; rw [hn]
    by_cases hc : (x.F i).c ≤ 0
    · exact .more i hb' hi8 hi hc (by rw [e, if_pos hc])
    · rw [if_neg hc] at e
      cases hq : (x.F i).q with
      | nil =>
        rw [hq] at e
        by_cases hf : headF x.N x.O = true ∧ x.O ≠ []
        · exact .back i hb' hi8 hi hc hq hf (by rw [e]; dsimp only; rw [if_pos hf])
        · exact .gone i hb' hi8 hi hc hq hf (by rw [e]; dsimp only; rw [if_neg hf])
      | cons s r =>
        rw [hq] at e
        by_cases hw : now < timeF (x.F i)
        · exact .wait i hb' hi8 hi hc s r hq hw (by rw [e]; dsimp only; rw [if_pos hw])
        · exact .dep i hb' hi8 hi hc s r hq hw (by rw [e]; dsimp only; rw [if_neg hw])

theorem putQ_F (x : Qm) (i : Nat) (p : Int) : (putQ x i p).F i = { x.F i with p := p } := upF_at _ _ _
theorem putQ_ne (x : Qm) {i j : Nat} (p : Int) (h : j ≠ i) : (putQ x i p).F j = x.F j := upF_ne _ _ h

theorem turn_ok {d : Int → Int → Int} {x : Qm} {now : Int} (h : x.Ok) (hn : U64 now) (hd : ∀ l z, 0 ≤ d l z) :
    (∀ y, turnQ d x now = .on y → y.Ok) ∧ ∀ y s, turnQ d x now = .stop y s → y.Ok := by
  have hcq := h.hc.hq
  cases turn_is d now h.ls with
  | none hb ht => rw [ht]; exact ⟨fun y e => (by cases e), fun y s e => (by cases e; exact h)⟩
  | more i hb hi hs hc ht =>
    rw [ht]
    refine ⟨fun y e => ?_, fun y s e => (by cases e)⟩
    cases e
    obtain ⟨i', _, e', _, hT, hp, hok⟩ := h.head hb
    obtain rfl : i' = i := by omega
    have e1 : (putQ { x with F := upF x.F i' { x.F i' with c := (x.F i').c + x.c.q } } i' 2).F i' = { x.F i' with c := (x.F i').c + x.c.q, p := 2 } := by rw [putQ_F]; show { upF x.F i' _ i' with p := 2 } = _; rw [upF_at]
    refine h.put hi (fun j hj => ?_) (fun _ => rfl) rfl hT ?_ (by rw [e1]; rfl) (by rw [e1]; rfl) (by rw [e1]; exact Nat.le_refl _)
    · rw [putQ_ne _ _ hj]; exact upF_ne _ _ hj
    · rw [e1]
      have := hok.hc
      exact ⟨hok.hs, ⟨by dsimp only; omega, by dsimp only; omega⟩, by dsimp only; omega, hok.hn, hok.hu, fun _ => hok.no (by omega), fun e => (by cases e), fun e => (by cases e), hok.hq⟩
  | back i hb hi hs hc hq hf ht =>
    rw [ht]
    refine ⟨fun y e => ?_, fun y s e => (by cases e)⟩
    cases e
    obtain ⟨i', _, e', _, hT, hp, hok⟩ := h.head hb
    obtain rfl : i' = i := by omega
    refine h.put hi (fun j hj => putQ_ne _ _ hj) (fun _ => rfl) rfl hT ?_ (by rw [putQ_F]; rfl) (by rw [putQ_F]; rfl) (by rw [putQ_F]; exact Nat.le_refl _)
    rw [putQ_F]
    exact ⟨hok.hs, hok.hc, by dsimp only; omega, hok.hn, hok.hu, fun _ => hok.no (by omega), fun e => (by cases e), fun e => (by cases e), hok.hq⟩
  | gone i hb hi hs hc hq hf ht =>
    rw [ht]
    refine ⟨fun y e => ?_, fun y s e => (by cases e)⟩
    cases e
    obtain ⟨i', _, e', _, hT, hp, hok⟩ := h.head hb
    obtain rfl : i' = i := by omega
    have e1 : ({ putQ x i' 0 with F := upF (putQ x i' 0).F i' { (putQ x i' 0).F i' with u := now } } : Qm).F i' = { x.F i' with p := 0, u := now } := by show upF _ i' _ i' = _; rw [upF_at, putQ_F]
    refine h.put hi (fun j hj => ?_) (fun _ => rfl) rfl hT ?_ (by rw [e1]; rfl) (by rw [e1]; rfl) (by rw [e1]; exact Nat.le_refl _)
    · show upF _ i' _ j = _; rw [upF_ne _ _ hj]; exact putQ_ne _ _ hj
    · rw [e1]
      exact ⟨hok.hs, hok.hc, by dsimp only; omega, hok.hn, hn, fun e => absurd rfl e, fun _ => hq, fun e => (by cases e), hok.hq⟩
  | wait i hb hi hs hc s r hq hw ht =>
    rw [ht]
    refine ⟨fun y e => ?_, fun y s e => (by cases e)⟩
    cases e
    obtain ⟨i', _, e', _, hT, hp, hok⟩ := h.head hb
    obtain rfl : i' = i := by omega
    refine h.put hi (fun j hj => putQ_ne _ _ hj) (fun _ => rfl) rfl hT ?_ (by rw [putQ_F]; rfl) (by rw [putQ_F]; rfl) (by rw [putQ_F]; exact Nat.le_refl _)
    rw [putQ_F]
    exact ⟨hok.hs, hok.hc, by dsimp only; omega, hok.hn, hok.hu, fun _ => hok.no (by omega), fun e => (by cases e), fun _ => by dsimp only; rw [hq]; exact List.cons_ne_nil _ _, hok.hq⟩
  | dep i hb hi hs hc s r hq hw ht =>
    rw [ht]
    refine ⟨fun y e => (by cases e), fun y s e => ?_⟩
    cases e
    obtain ⟨i', _, e', _, hT, hp, hok⟩ := h.head hb
    obtain rfl : i' = i := by omega
    have e1 : ({ x with F := upF x.F i' { x.F i' with q := r, c := (x.F i').c - s.l, n := addS now (d s.l (i' : Int)) } } : Qm).F i' = { x.F i' with q := r, c := (x.F i').c - s.l, n := addS now (d s.l (i' : Int)) } := upF_at _ _ _
    have hso : s.Ok i' := hok.hq s (by rw [hq]; exact List.mem_cons_self ..)
    have hl := hso.hl
    have hcc := hok.hc
    have hF : ∀ j : Nat, j ≠ i' → ({ x with F := upF x.F i' { x.F i' with q := r, c := (x.F i').c - s.l, n := addS now (d s.l (i' : Int)) } } : Qm).F j = x.F j := fun j hj => upF_ne _ _ hj
    have hlen : lenQ { x with F := upF x.F i' { x.F i' with q := r, c := (x.F i').c - s.l, n := addS now (d s.l (i' : Int)) } } + (x.F i').q.length = lenQ x + r.length := by
      have := lenQ_up hi hF
      rw [e1] at this
      exact this
    rw [hq, List.length_cons] at hlen
    refine h.turn hi hF (fun _ _ => rfl) h.hc (fun _ => ?_) (fun e => ?_) h.ls (fun _ _ => Iff.rfl) (fun _ _ => Iff.rfl) ?_ ?_ ?_
    · rw [e1]
      exact ⟨hok.hs, by dsimp only; omega, hok.hp, addS_fit hn.1 (hd _ _), hok.hu, hok.no, fun e => by dsimp only at e; omega, fun e => by dsimp only at e; omega, fun a ha => hok.hq a (by rw [hq]; exact List.mem_cons_of_mem _ ha)⟩
    · rw [show x.T i' = true from hT] at e; cases e
    · rw [e1]; exact h.new i' hi
    · rw [e1]; exact h.old i' hi
    · have := h.len; omega
theorem run_ok {d : Int → Int → Int} {now : Int} (hn : U64 now) (hd : ∀ l z, 0 ≤ d l z) : ∀ (k : Nat) {x : Qm}, x.Ok → (runQ d now k x).1.Ok
  | 0, _, h => h
  | k + 1, x, h => by
    unfold runQ
    have := turn_ok h hn hd
    cases ht : turnQ d x now with
    | on y => exact run_ok hn hd k (this.1 y ht)
    | stop y s => exact this.2 y s ht
theorem wake_ok {now : Int} : ∀ (k : Nat) {x : Qm}, x.Ok → (wakeN now k x).Ok
  | 0, _, h => h
  | k + 1, x, h => by
    unfold wakeN
    cases hf : firstQ x with
    | none => exact h
    | some i =>
      dsimp only
      split
      · obtain ⟨hi, hT, hp⟩ := firstN_some hf
        have hok := h.is i hi hT
        refine wake_ok k (h.put hi (fun j hj => putQ_ne _ _ hj) (fun _ => rfl) rfl hT ?_ (by rw [putQ_F]; rfl) (by rw [putQ_F]; rfl) (by rw [putQ_F]; exact Nat.le_refl _))
        rw [putQ_F]
        exact ⟨hok.hs, hok.hc, by dsimp only; omega, hok.hn, hok.hu, fun _ => hok.no (by omega), fun e => (by cases e), fun e => (by cases e), hok.hq⟩
      · exact h
theorem deq_ok {d : Int → Int → Int} {x : Qm} {now : Int} (h : x.Ok) (hn : U64 now) (hd : ∀ l z, 0 ≤ d l z) : (deqQ d x now).1.Ok := run_ok hn hd _ (wake_ok 8 h)

/-! ### A segment is put in -/
theorem coll_ok {x : Qm} (h : x.Ok) (now : Int) : (collQ x now).Ok := by
  have hd : ∀ i, deadF x now i = true → x.T i = true ∧ (x.F i).p = 0 := fun i e => by
    unfold deadF at e; simp at e; exact ⟨e.1.1, e.1.2⟩
  have hs : ∀ i, deadF x now i = false → (collQ x now).F i = x.F i ∧ (collQ x now).T i = x.T i := fun i e => by
    simp [collQ, e]
  have hg : ∀ i, deadF x now i = true → (collQ x now).F i = Fl.zero ∧ (collQ x now).T i = false := fun i e => by
    simp [collQ, e]
  refine ⟨h.hc, h.ls, fun i hi => ?_, fun i hi => ?_, fun i hi => ?_, fun i hi => ?_, ?_⟩
  · cases e : deadF x now i with
    | false => rw [(hs i e).1, (hs i e).2]; exact h.new i hi
    | true =>
      rw [(hg i e).2]
      refine ⟨fun hm => ?_, fun hh => by cases hh.1⟩
      have := ((h.new i hi).1 hm).2
      have := (hd i e).2
      omega
  · cases e : deadF x now i with
    | false => rw [(hs i e).1, (hs i e).2]; exact h.old i hi
    | true =>
      rw [(hg i e).2]
      refine ⟨fun hm => ?_, fun hh => by cases hh.1⟩
      have := ((h.old i hi).1 hm).2
      have := (hd i e).2
      omega
  · cases e : deadF x now i with
    | false => rw [(hs i e).1, (hs i e).2]; exact h.is i hi
    | true => rw [(hg i e).2]; intro hh; cases hh
  · cases e : deadF x now i with
    | false => rw [(hs i e).1, (hs i e).2]; exact h.no i hi
    | true => intro _; exact (hg i e).1
  · have : lenQ (collQ x now) = lenQ x := lenQ_same fun i hi => by
      cases e : deadF x now i with
      | false => rw [(hs i e).1]
      | true => rw [(hg i e).1, (h.is i hi (hd i e).1).em (hd i e).2]; rfl
    rw [this]; exact h.len
theorem enqE_is {s : Sg} (h : enqE s = 0) : (0 ≤ s.s ∧ s.s < 8) ∧ 1 ≤ s.l ∧ s.l ≤ 65536 := by
  unfold enqE at h
  split at h
  · cases h
  · split at h
    · cases h
    · omega
theorem take_ok {x : Qm} (h : x.Ok) {s : Sg} (he : enqE s = 0) {now : Int} (hn : U64 now) (hf : U64 s.f) (hst : U64 s.t) (hv : fateQ x s now = 0) : (takeQ x s now).Ok := by
  obtain ⟨hs, hl⟩ := enqE_is he
  obtain ⟨i, hi⟩ : ∃ i : Nat, s.s = (i : Int) := ⟨s.s.toNat, by omega⟩
  have hi8 : i < 8 := by omega
  have hin : s.s.toNat = i := by rw [hi]; rfl
  have hlim : (lenQ x : Int) < x.c.l := by
    unfold fateQ at hv
    split at hv
    · cases hv
    · omega
  have hc := h.hc
  have e1 : (takeQ x s now).F i = takeF x s now := by show upF x.F s.s.toNat _ i = _; rw [hin, upF_at]
  have eT : (takeQ x s now).T i = true := by show upF x.T s.s.toNat _ i = _; rw [hin, upF_at]
  have hF : ∀ j : Nat, j ≠ i → (takeQ x s now).F j = x.F j := fun j hj => by show upF x.F s.s.toNat _ j = _; rw [hin, upF_ne _ _ hj]
  have hT : ∀ j : Nat, j ≠ i → (takeQ x s now).T j = x.T j := fun j hj => by show upF x.T s.s.toNat _ j = _; rw [hin, upF_ne _ _ hj]
  have hfa := addS_fit hn.1 hc.hh.1
  have hso : (segF x s now).Ok i := ⟨hi, hf, hl, ⟨by have := hst.1; have := hfa.1; simp only [segF]; omega, by have := hfa.2; simp only [segF]; omega⟩⟩
  -- what it was
  have hpre : (preF x s now).s = (i : Int) ∧ (-65536 ≤ (preF x s now).c ∧ (preF x s now).c ≤ 65536) ∧ (preF x s now).p = (if x.T i = true then (x.F i).p else 0) ∧ U64 (preF x s now).n ∧ ((preF x s now).p ≠ 0 → (preF x s now).u = 0) ∧ (0 ≤ (preF x s now).p ∧ (preF x s now).p ≤ 3) ∧ (preF x s now).q = (x.F i).q := by
    have hcf := hc.hf; have hcq := hc.hq
    unfold preF
    rw [hin]
    by_cases t : x.T i = true
    · have hok := h.is i hi8 t
      have hcc := hok.hc
      rw [if_pos t, if_pos t]
      split
      · exact ⟨hok.hs, by dsimp only; omega, rfl, hok.hn, hok.no, hok.hp, rfl⟩
      · exact ⟨hok.hs, hcc, rfl, hok.hn, hok.no, hok.hp, rfl⟩
    · rw [if_neg t, if_neg t, h.no i hi8 (by simpa using t)]
      exact ⟨hi, by dsimp only; omega, rfl, ⟨Int.le_refl _, (by decide : (0 : Int) ≤ 18446744073709551615)⟩, fun _ => rfl, ⟨Int.le_refl _, (by decide : (0 : Int) ≤ 3)⟩, rfl⟩
  have hqs : ∀ a ∈ (x.F i).q, a.Ok i := fun a ha => by
    by_cases t : x.T i = true
    · exact (h.is i hi8 t).hq a ha
    · rw [h.no i hi8 (by simpa using t)] at ha; cases ha
  have hq : (takeF x s now).q = (x.F i).q ++ [segF x s now] := by rw [← hpre.2.2.2.2.2.2]; rfl
  obtain ⟨P, hP⟩ : ∃ P, P = (if x.T i = true then (x.F i).p else 0) := ⟨_, rfl⟩
  rw [← hP] at hpre
  have hp : (takeF x s now).p = if P = 0 then 1 else P := by rw [← hpre.2.2.1]; rfl
  have hp0 : (takeF x s now).p ≠ 0 := by
    rw [hp]
    split
    · exact Int.one_ne_zero
    · assumption
  have hlen := lenQ_up hi8 hF
  rw [e1, hq] at hlen
  simp only [List.length_append, List.length_cons, List.length_nil] at hlen
  have hu : (takeF x s now).u = 0 := by
    show (if (preF x s now).p = 0 then 0 else (preF x s now).u) = 0
    split
    · rfl
    · rename_i e; exact hpre.2.2.2.2.1 e
  have hok : (takeF x s now).Ok i := by
    refine ⟨hpre.1, hpre.2.1, ?_, hpre.2.2.2.1, by rw [hu]; exact ⟨by decide, by decide⟩, fun _ => hu, fun e => absurd e hp0, fun _ => by rw [hq]; simp, fun a ha => ?_⟩
    · show 0 ≤ (if (preF x s now).p = 0 then 1 else (preF x s now).p) ∧ (if (preF x s now).p = 0 then 1 else (preF x s now).p) ≤ 3
      have := hpre.2.2.2.2.2.1
      split <;> omega
    · rw [hq] at ha
      rcases List.mem_append.1 ha with ha | ha
      · exact hqs a ha
      · rw [List.mem_singleton.1 ha]; exact hso
  have hN : (takeQ x s now).N = if P = 0 then x.N ++ [(i : Int)] else x.N := by
    show (if (if x.T s.s.toNat = true then (x.F s.s.toNat).p else 0) = 0 then x.N ++ [s.s] else x.N) = _
    rw [hin, hi, ← hP]
  have hO : (takeQ x s now).O = x.O := rfl
  have hout : P = 0 → (i : Int) ∉ x.N ++ x.O := fun e hm => by
    rcases List.mem_append.1 hm with hm | hm
    · have := (h.new i hi8).1 hm; rw [if_pos this.1] at hP; omega
    · have := (h.old i hi8).1 hm; rw [if_pos this.1] at hP; omega
  have hl512 := hc.hl
  refine h.turn hi8 hF hT hc (fun _ => by rw [e1]; exact hok) (fun e => by rw [eT] at e; cases e) ?_ (fun z hz => ?_) (fun z hz => ?_) ?_ ?_ (by omega)
  · rw [hN, hO]
    split
    · rename_i e; exact h.ls.pushNew (by omega) (hout e)
    · exact h.ls
  · rw [hN]; split
    · rw [List.mem_append, List.mem_singleton]; exact or_iff_left hz
    · exact Iff.rfl
  · rw [hO]
  · rw [hN, e1, eT, hp]
    split
    · simp
    · rename_i e
      have t : x.T i = true := Classical.byContradiction fun t => e (hP.trans (if_neg t))
      rw [if_pos t] at hP
      rw [h.new i hi8, t, hP]
  · rw [hO, e1, eT, hp]
    split
    · rename_i e
      refine ⟨fun hm => absurd (List.mem_append_right _ hm) (hout e), fun hh => by omega⟩
    · rename_i e
      have t : x.T i = true := Classical.byContradiction fun t => e (hP.trans (if_neg t))
      rw [if_pos t] at hP
      rw [h.old i hi8, t, hP]
theorem enq_ok {x : Qm} (h : x.Ok) {s : Sg} {now : Int} (hn : U64 now) (hf : U64 s.f) (hst : U64 s.t) : (enqQ x s now).Ok := by
  unfold enqQ
  split
  · rename_i he
    split
    · rename_i hv; exact take_ok (coll_ok h now) he hn hf hst hv
    · exact coll_ok h now
  · exact h

/-! ### A flow is closed; another config; a new queue -/
def clsQ (x : Qm) (z : Int) : Qm := if (0 ≤ z ∧ z < 8) ∧ x.T z.toNat = true then { x with F := upF x.F z.toNat Fl.zero, T := upF x.T z.toNat false, N := x.N.erase z, O := x.O.erase z } else x
def clsV (x : Qm) (z : Int) : List Sg := if (0 ≤ z ∧ z < 8) ∧ x.T z.toNat = true then (x.F z.toNat).q else []
theorem cls_ok {x : Qm} (h : x.Ok) (z : Int) : (clsQ x z).Ok := by
  unfold clsQ
  split
  · rename_i hc
    obtain ⟨hz, ht⟩ := hc
    obtain ⟨i, rfl⟩ : ∃ i : Nat, z = (i : Int) := ⟨z.toNat, by omega⟩
    have hi : i < 8 := by omega
    have hg := h.ls.gone (i : Int)
    rw [List.mem_append, not_or] at hg
    have hin : ((i : Int)).toNat = i := rfl
    rw [hin]
    have hF : ∀ j : Nat, j ≠ i → ({ x with F := upF x.F i Fl.zero, T := upF x.T i false, N := x.N.erase (i : Int), O := x.O.erase (i : Int) } : Qm).F j = x.F j := fun j hj => upF_ne _ _ hj
    have hlen := lenQ_up hi hF
    have e0 : ({ x with F := upF x.F i Fl.zero, T := upF x.T i false, N := x.N.erase (i : Int), O := x.O.erase (i : Int) } : Qm).F i = Fl.zero := upF_at _ _ _
    have eT : ({ x with F := upF x.F i Fl.zero, T := upF x.T i false, N := x.N.erase (i : Int), O := x.O.erase (i : Int) } : Qm).T i = false := upF_at _ _ _
    have := h.len
    rw [e0] at hlen
    simp only [Fl.zero, List.length_nil] at hlen
    refine h.turn hi hF (fun j hj => upF_ne _ _ hj) h.hc (fun e => by rw [eT] at e; cases e) (fun _ => e0) (h.ls.erase _) (fun z hz => List.mem_erase_of_ne hz) (fun z hz => List.mem_erase_of_ne hz) ?_ ?_ (by simp only [Fl.zero]; omega)
    · rw [eT]; exact ⟨fun hm => absurd hm hg.1, fun hh => by cases hh.1⟩
    · rw [eT]; exact ⟨fun hm => absurd hm hg.2, fun hh => by cases hh.1⟩
  · exact h
theorem set_ok {x : Qm} (h : x.Ok) {c : Cf} (hc : c.Ok) : ({ x with c := c } : Qm).Ok :=
  ⟨hc, h.ls, h.new, h.old, h.is, h.no, h.len⟩
def newQ (c : Cf) : Qm := ⟨c, fun _ => Fl.zero, fun _ => false, [], []⟩
theorem new_ok {c : Cf} (hc : c.Ok) : (newQ c).Ok :=
  ⟨hc, LsOk.nil, fun i _ => ⟨fun h => (by cases h), fun h => by cases h.1⟩, fun i _ => ⟨fun h => (by cases h), fun h => by cases h.1⟩, fun i _ h => (by cases h), fun i _ _ => rfl, by rw [lenQ_eq]; simp [newQ, Fl.zero]⟩
/-! ### A plain config -/
def plainC : Cf := ⟨3000, 15000, 100, 50, 10000000000, 0, false, 100000, 1000⟩
end Go.Proofs.YtnljjdfajmjdjaaGreat
