/-
  The call Delete of package rbtree: each answer, and what is in the tree behind it. Conditions: the tree lies in memory.
-/
import Derived.Test.YtfbbmpmgceghfaaRbIns
namespace Go.Proofs.Ytfbbmpmgceghfaa
open Go.RowKit
set_option maxRecDepth 100000
set_option linter.unusedSimpArgs false

def delE (ks : List Key) (k : Key) : Int := if k ∈ ks then 0 else 7
def delS (ks : List Key) (k : Key) : List Key := ks.filter (fun x => decide (x ≠ k))
theorem del_split {k : Key} {A B : List Key} (h : (A ++ k :: B).Pairwise KLt) : delS (A ++ k :: B) k = A ++ B := by
  rw [List.pairwise_append] at h
  obtain ⟨_, h2, h3⟩ := h
  rw [List.pairwise_cons] at h2
  unfold delS
  rw [List.filter_append, List.filter_cons_of_neg (by simp), List.filter_eq_self.2, List.filter_eq_self.2]
  · intro x hx; simpa using (h2.1 x hx).ne.symm
  · intro x hx; simpa using (h3 x hx k (by simp)).ne
theorem del_none {k : Key} {ks : List Key} (h : k ∉ ks) : delS ks k = ks := by
  unfold delS
  rw [List.filter_eq_self]
  intro x hx
  have : x ≠ k := fun e => h (e ▸ hx)
  simpa using this
theorem sorted_iff {L : List (Nat × Key)} : Sorted L ↔ (L.map (·.2)).Pairwise KLt := by unfold Sorted; rw [List.pairwise_map]
theorem ids_del {out : List Bool} {p : Nat} (hp : p < out.length) (q : Nat) : (out.set p false)[q]? = some true ↔ q ≠ p ∧ out[q]? = some true := by
  by_cases e : p = q
  · subst e; simp [hp]
  · rw [List.getElem?_set_ne e]
    exact ⟨fun h => ⟨fun e' => e e'.symm, h⟩, fun h => h.2⟩

section
variable {w w' : World} {g b cap n tp : Nat} {pa : Value} {m : Nat → Nd}
theorem Tr.two (t : Tr w g b cap pa n tp m) {i : Nat} (hi : i < n) (k : Key) :
    (w.cell? ⟨b, i * 6, none⟩ = some (.int .u64 (m i).k.a) ∧ w.frozen? ⟨b, i * 6, none⟩ = false) ∧
    ((w.setCell ⟨b, i * 6, none⟩ (.int .u64 k.a)).cell? ⟨b, i * 6 + 1, none⟩ = some (.int .u64 (m i).k.b) ∧ (w.setCell ⟨b, i * 6, none⟩ (.int .u64 k.a)).frozen? ⟨b, i * 6 + 1, none⟩ = false) ∧
    Tr ((w.setCell ⟨b, i * 6, none⟩ (.int .u64 k.a)).setCell ⟨b, i * 6 + 1, none⟩ (.int .u64 k.b)) g b cap pa n tp (upd m i { m i with k := k }) ∧
    Keep (Mine g b) w ((w.setCell ⟨b, i * 6, none⟩ (.int .u64 k.a)).setCell ⟨b, i * 6 + 1, none⟩ (.int .u64 k.b)) := by
  have t1 := t.put (i := i) (j := 0) (x := { m i with k := ⟨k.a, (m i).k.b⟩ }) (v := .int .u64 k.a) rfl (by decide)
  have t2 := t1.put (i := i) (j := 1) (x := { m i with k := k }) (v := .int .u64 k.b) (by rw [upd_same]; rfl) (by decide)
  rw [upd_upd] at t2
  have e1 := t1.cell hi (j := 1) (by decide); rw [upd_same] at e1
  exact ⟨⟨t.ka hi, t.free _⟩, ⟨e1, t1.free _⟩, t2, ((Keep.refl _ w).mine _ _).mine _ _⟩
end
section
variable {m : Nat → Nd} {n tp : Nat} {z : Z} {L : List (Nat × Key)}
theorem Rep.cutIds {s : Bool} {q : Nat} {k : Key} {c : Bool} {x : T} (h : Rep m n tp z (br s q k c x .nil) L) :
    (∀ i, i ∈ (z.zl ++ x.its ++ z.zr).map (·.1) ↔ i ∈ L.map (·.1) ∧ i ≠ q) ∧ (z.zl ++ x.its ++ z.zr).length + 1 = L.length := by
  have hq := h.cut.2
  have e := h.its
  constructor
  · intro i
    have : i ∈ L.map (·.1) ↔ i = q ∨ i ∈ (z.zl ++ x.its ++ z.zr).map (·.1) := by
      rw [← e, its_br]
      cases s
      · simp only [T.its, Bool.false_eq_true, if_false, List.map_append, List.map_cons, List.mem_append, List.mem_cons, List.map_nil, List.not_mem_nil, or_false]
        constructor
        · rintro ((h | h | h) | h)
          · exact .inr (.inl (.inl h))
          · exact .inr (.inl (.inr h))
          · exact .inl h
          · exact .inr (.inr h)
        · rintro (h | (h | h) | h)
          · exact .inl (.inr (.inr h))
          · exact .inl (.inl h)
          · exact .inl (.inr (.inl h))
          · exact .inr h
      · simp only [T.its, if_true, List.map_append, List.map_cons, List.mem_append, List.mem_cons, List.map_nil, List.not_mem_nil, false_or]
        constructor
        · rintro ((h | h | h) | h)
          · exact .inr (.inl (.inl h))
          · exact .inl h
          · exact .inr (.inl (.inr h))
          · exact .inr (.inr h)
        · rintro (h | (h | h) | h)
          · exact .inl (.inr (.inl h))
          · exact .inl (.inl h)
          · exact .inl (.inr (.inr h))
          · exact .inr h
    rw [this]
    constructor
    · intro h'; exact ⟨.inr h', fun e => hq (e ▸ h')⟩
    · rintro ⟨h' | h', hne⟩
      · exact absurd h' hne
      · exact h'
  · rw [← e, its_br]
    cases s <;> simp [T.its] <;> omega
end
theorem tdel_nil (k : Key) (w : World) : Calls Try.prog 17 #[.pointer none, kv k] w fun e w' => e = .returned (.int .i64 2) ∧ Keep (fun _ => False) w w' := by
  unfold kv
  go_enter Try.func17, Try.ntmps17
  go_wp2
  go_ret
  exact ⟨rfl, (Keep.refl _ _).alloc _⟩


set_option maxHeartbeats 4000000 in
set_option maxRecDepth 100000 in
theorem tdel_any {S : Nat → Prop} {g N : Nat} {ks : List Key} (k : Key) (w : World) (h : TreeAt w S g N ks) :
    Calls Try.prog 17 #[.pointer (some ⟨g, 0, none⟩), kv k] w fun e w' => e = .returned (.int .i64 (delE ks k)) ∧ ∃ S', TreeAt w' S' g N (delS ks k) ∧ Step S S' w w' := by
  have H0 := Lib.hid h
  obtain ⟨ga, b, cap, n, tp, m, L, s, Sa, h, hks, hN⟩ := h
  subst hks hN
  obtain ⟨t0, hrep⟩ := h.rep
  obtain ⟨hnle, hlN, hN⟩ := h.n_le
  have HH := Lib.hid h; have HREP := Lib.hid hrep; clear h hrep
  have hkeq : kv k = .agg #[.int .u64 k.a, .int .u64 k.b] := rfl
  obtain ⟨ka, kb⟩ := k
  have HF := Lib.hid (fun w' (t' : Tr w' g b cap (.pointer (some ⟨ga, 0, none⟩)) n tp m) => find_any ⟨ka, kb⟩ w' t' HREP.out HH.out.sorted)
  rw [hkeq] at HF
  rw [hkeq]
  dsimp only at HF ⊢
  clear hkeq
  have T1 := Lib.hid (HH.out.tr.alloc (.cells #[.int .u64 ka, .int .u64 kb] 30))
  have K1 : Hid (Keep (fun _ => False) w (w.alloc (.cells #[.int .u64 ka, .int .u64 kb] 30))) := Lib.hid ((Keep.refl _ w).alloc _)
  go_enter Try.func17, Try.ntmps17
  go_wp2_with fail
  generalize w.alloc (.cells #[.int .u64 ka, .int .u64 kb] 30) = w1 at *
  refine (HF.out w1 T1.out).mono ?_
  rintro e w2 ⟨z, t, rfl, hf, k2⟩
  have K2 := Lib.hid (K1.out.trans k2); have T2 := Lib.hid (T1.out.kept k2)
  clear k2 T1 K1 HF
  obtain ⟨hfr, hfound⟩ := hf
  rcases hfound with ⟨rfl, hl, hg⟩ | ⟨a, c, l, r, rfl⟩
  · have hgone := (Found.gone hfr hl hg).1
    have HE : Hid (delE (L.map (·.2)) ⟨ka, kb⟩ = 7) := Lib.hid (if_neg hgone)
    have HST : Hid (delS (L.map (·.2)) ⟨ka, kb⟩ = L.map (·.2)) := Lib.hid (del_none hgone)
    clear hfr hl hg hgone
    simp only [T.root]
    go_wp2
    go_ret
    refine ⟨ret_i HE.out.symm, S, ?_, K2.out.none_left, fun _ h => .inl h⟩
    rw [HST.out]
    exact H0.out.kept K2.out
  · have HE : Hid (delE (L.map (·.2)) ⟨ka, kb⟩ = 0) := Lib.hid (if_pos (Found.here hfr))
    obtain ⟨hm, ha0, han, hlr, hrr, hzp⟩ := hfr.rep.node
    have hi' : ((a : Int) == 0) = false := by rw [beq_eq_false_iff_ne]; omega
    have hac : (a : Int) < (n : Int) := by omega
    obtain ⟨hc1, hc2⟩ := T2.out.capB
    have c1 := T2.out.st.cell 1
    have cl := T2.out.lo han; rw [hm] at cl; dsimp only at cl
    have cr := T2.out.hi han; rw [hm] at cr; dsimp only at cr
    have A2 := Lib.hid (HH.out.ar.keep K2.out (fun _ _ h => h))
    have HFR := Lib.hid hfr
    have KS2 : Hid (Keep S w w2) := Lib.hid K2.out.none_left
    have HLK : Hid (L.map (·.2) = (z.zl ++ l.its).map (·.2) ++ ⟨ka, kb⟩ :: (r.its ++ z.zr).map (·.2)) := Lib.hid (by rw [← hfr.rep.its]; simp [T.its])
    have HDK : Hid ((z.zl ++ l.its).map (·.2) ++ (r.its ++ z.zr).map (·.2) = delS (L.map (·.2)) ⟨ka, kb⟩) := Lib.hid (by rw [HLK.out]; exact (del_split (by rw [← HLK.out]; exact sorted_iff.1 HH.out.sorted)).symm)
    have HQIN' : Hid (a ∈ L.map (·.1)) := Lib.hid (by rw [← hfr.rep.its]; simp [T.its])
    clear hm hfr H0
    simp only [T.root]
    cases l with
    | nil =>
      simp only [T.root] at cl
      have T4 := T2; have K4 := KS2; have A4 := A2
      obtain ⟨w4, hw4⟩ : ∃ w4, w4 = w2 := ⟨_, rfl⟩
      rw [← hw4] at T4 K4 A4
      obtain ⟨s1, hs1⟩ : ∃ s1, s1 = true := ⟨_, rfl⟩
      obtain ⟨q, hqa⟩ : ∃ q, q = a := ⟨_, rfl⟩
      obtain ⟨L1, hL1⟩ : ∃ L1, L1 = L := ⟨_, rfl⟩
      have RC : Hid (RepB m n tp z (br s1 q ⟨ka, kb⟩ c r .nil) L1) := Lib.hid (by rw [hs1, hL1, hqa]; exact HFR.out)
      have HX : Hid (s1 = false → r ≠ .nil) := Lib.hid (fun e => by rw [hs1] at e; cases e)
      have HIDS1 : Hid (L1.map (·.1) = L.map (·.1)) := Lib.hid (by rw [hL1])
      have HQIN : Hid (q ∈ L1.map (·.1)) := Lib.hid (by rw [hL1, hqa]; exact HQIN'.out)
      have HKS : Hid ((z.zl ++ r.its ++ z.zr).map (·.2) = delS (L.map (·.2)) ⟨ka, kb⟩) := Lib.hid (by rw [← HDK.out]; simp [T.its])
      rw [← hw4] at c1 cl cr ⊢
      rw [← hqa] at cl cr hac hi' ⊢
      clear hw4 hs1 hqa hL1 HFR HDK HLK HQIN'
      go_wp2_with fail
      refine (cut_any w4 T4.out RC.out HX.out).mono ?_
      rintro e w5 ⟨⟨v5, rfl⟩, m5, tp5, t5, r5, k5⟩
      have hq1 := (RC.out.rep.posT (i := q) (by rw [its_br]; cases s1 <;> simp))
      have HCI := Lib.hid RC.out.rep.cutIds
      have HNQ := Lib.hid RC.out.rep.cut.2
      obtain ⟨⟨e0, f0⟩, ⟨e1, f1⟩, ⟨e2, f2⟩, ⟨e3, f3⟩, ⟨e4, f4⟩, ⟨e5, f5⟩, t6, k6⟩ := t5.six (i := q) hq1.2 Nd.zero
      simp only [Nd.zero, show ((0 : Nat) : Int) = 0 from rfl] at e0 f0 e1 f1 e2 f2 e3 f3 e4 f4 e5 f5 t6 k6
      have c1 := t5.st.cell 1
      have c0 := t6.st.cell 0
      have hqn : (q : Int) < (n : Int) := by omega
      have T6 := Lib.hid t6; have K6 := Lib.hid (k5.trans k6); have R5 := Lib.hid r5
      clear t5 r5 k5 t6 k6 T4 RC HX
      go_wp2_with fail
      have hpq : q ∈ L.map (·.1) := by rw [← HIDS1.out]; exact HQIN.out
      obtain ⟨p, hqp, hpo⟩ := (HH.out.ids q).1 hpq
      have hpl : p < s.out.length := (List.getElem?_eq_some_iff.1 hpo).1
      rw [show (q : Int) - 1 = (p : Int) by omega]
      have A6 := Lib.hid (A4.out.keep K6.out (fun k hk h => by rcases h with rfl | rfl; exact HH.out.ng hk; exact HH.out.nb hk))
      clear e0 e1 e2 e3 e4 e5 f0 f1 f2 f3 f4 f5 c1 c0
      refine (free_any Sa ga s p _ A6.out).mono ?_
      rintro e w7 ⟨rfl, S7, a7, st7⟩
      have hhas : s.has (p : Int) = true := by unfold St.has; simp [hpo]
      have hpN : (p : Int) < (s.N : Int) := by have := HH.out.ar.ok.len; omega
      have hfs : s.freeS (p : Int) = ⟨s.N, s.out.set p false, s.fr ++ [p]⟩ := by unfold St.freeS; rw [if_neg (by omega), if_pos hhas]; simp
      rw [hfs] at a7
      have A7 := Lib.hid a7; have ST7 := Lib.hid st7; have HPO := Lib.hid hpo
      clear a7 st7 hhas hfs hpo
      go_wp2
      go_ret
      have T7 := T6.out.keep ST7.out.1 HH.out.ng HH.out.nb
      refine ⟨ret_i HE.out.symm, fun k => Mine g b k ∨ S7 k, ⟨ga, b, cap, n, tp5, _, _, _, S7, ⟨T7, ?_, ?_, A7.out, ?_, ?_, ?_, ?_, ?_, fun _ => Iff.rfl⟩, HKS.out, rfl⟩, ?_, ?_⟩
      · obtain ⟨t', h'⟩ := R5.out; exact ⟨t', h'.rep.other HNQ.out (by omega), h'.rb⟩
      · rw [sorted_iff, HKS.out]; exact (sorted_iff.1 HH.out.sorted).filter _
      · simp; exact HH.out.len
      · intro i
        rw [HCI.out.1 i, HIDS1.out, HH.out.ids i]
        constructor
        · rintro ⟨⟨p', rfl, hp'⟩, hne⟩; exact ⟨p', rfl, (ids_del hpl _).2 ⟨by omega, hp'⟩⟩
        · rintro ⟨p', rfl, hp'⟩
          obtain ⟨h1, h2⟩ := (ids_del hpl _).1 hp'
          exact ⟨⟨p', rfl, h2⟩, by omega⟩
      · have h1 := HCI.out.2
        have h2 := count_set_false HPO.out
        have h3 := HH.out.cnt
        have h4 : L1.length = L.length := by have := congrArg List.length HIDS1.out; simpa using this
        show _ = (s.out.set p false).count true
        omega
      · exact ST7.out.apart (R := fun k => k = g) (fun k e => by rw [e]; exact T6.out.gLt) (fun k e => by rw [e]; exact HH.out.ng) g rfl
      · exact ST7.out.apart (R := fun k => k = b) (fun k e => by rw [e]; exact T6.out.hLt) (fun k e => by rw [e]; exact HH.out.nb) b rfl
      · exact (K4.out.then K6.out (fun i hi _ => (HH.out.foot i).2 (.inl hi))).then ST7.out.1 (fun i hi _ => (HH.out.foot i).2 (.inr hi))
      · intro k hk
        rcases hk with hk | hk
        · exact .inl ((HH.out.foot k).2 (.inl hk))
        · rcases ST7.out.2 k hk with h | h
          · exact .inl ((HH.out.foot k).2 (.inr h))
          · exact .inr (Nat.le_trans (Nat.le_trans K4.out.size K6.out.size) h)
    | nd li lk lc ll lr2 =>
      have hli0 := (Rep.down (s := false) (x := .nd li lk lc ll lr2) (y := r) HFR.out.rep).node.2.1
      have hli' : ((li : Int) != 0) = true := by rw [bne_iff_ne]; omega
      cases r with
      | nil =>
        simp only [T.root] at cl cr
        have T4 := T2; have K4 := KS2; have A4 := A2
        obtain ⟨w4, hw4⟩ : ∃ w4, w4 = w2 := ⟨_, rfl⟩
        rw [← hw4] at T4 K4 A4
        obtain ⟨s1, hs1⟩ : ∃ s1, s1 = false := ⟨_, rfl⟩
        obtain ⟨q, hqa⟩ : ∃ q, q = a := ⟨_, rfl⟩
        obtain ⟨L1, hL1⟩ : ∃ L1, L1 = L := ⟨_, rfl⟩
        have RC : Hid (RepB m n tp z (br s1 q ⟨ka, kb⟩ c (.nd li lk lc ll lr2) .nil) L1) := Lib.hid (by rw [hs1, hL1, hqa]; exact HFR.out)
        have HX : Hid (s1 = false → (T.nd li lk lc ll lr2) ≠ .nil) := Lib.hid (fun _ => by simp)
        have HIDS1 : Hid (L1.map (·.1) = L.map (·.1)) := Lib.hid (by rw [hL1])
        have HQIN : Hid (q ∈ L1.map (·.1)) := Lib.hid (by rw [hL1, hqa]; exact HQIN'.out)
        have HKS : Hid ((z.zl ++ (T.nd li lk lc ll lr2).its ++ z.zr).map (·.2) = delS (L.map (·.2)) ⟨ka, kb⟩) := Lib.hid (by rw [← HDK.out]; simp [T.its])
        rw [← hw4] at c1 cl cr ⊢
        rw [← hqa] at cl cr hac hi' ⊢
        clear hw4 hs1 hqa hL1 HFR HDK HLK HQIN'
        go_wp2_with fail
        refine (cut_any w4 T4.out RC.out HX.out).mono ?_
        rintro e w5 ⟨⟨v5, rfl⟩, m5, tp5, t5, r5, k5⟩
        have hq1 := (RC.out.rep.posT (i := q) (by rw [its_br]; cases s1 <;> simp))
        have HCI := Lib.hid RC.out.rep.cutIds
        have HNQ := Lib.hid RC.out.rep.cut.2
        obtain ⟨⟨e0, f0⟩, ⟨e1, f1⟩, ⟨e2, f2⟩, ⟨e3, f3⟩, ⟨e4, f4⟩, ⟨e5, f5⟩, t6, k6⟩ := t5.six (i := q) hq1.2 Nd.zero
        simp only [Nd.zero, show ((0 : Nat) : Int) = 0 from rfl] at e0 f0 e1 f1 e2 f2 e3 f3 e4 f4 e5 f5 t6 k6
        have c1 := t5.st.cell 1
        have c0 := t6.st.cell 0
        have hqn : (q : Int) < (n : Int) := by omega
        have T6 := Lib.hid t6; have K6 := Lib.hid (k5.trans k6); have R5 := Lib.hid r5
        clear t5 r5 k5 t6 k6 T4 RC HX
        go_wp2_with fail
        have hpq : q ∈ L.map (·.1) := by rw [← HIDS1.out]; exact HQIN.out
        obtain ⟨p, hqp, hpo⟩ := (HH.out.ids q).1 hpq
        have hpl : p < s.out.length := (List.getElem?_eq_some_iff.1 hpo).1
        rw [show (q : Int) - 1 = (p : Int) by omega]
        have A6 := Lib.hid (A4.out.keep K6.out (fun k hk h => by rcases h with rfl | rfl; exact HH.out.ng hk; exact HH.out.nb hk))
        clear e0 e1 e2 e3 e4 e5 f0 f1 f2 f3 f4 f5 c1 c0
        refine (free_any Sa ga s p _ A6.out).mono ?_
        rintro e w7 ⟨rfl, S7, a7, st7⟩
        have hhas : s.has (p : Int) = true := by unfold St.has; simp [hpo]
        have hpN : (p : Int) < (s.N : Int) := by have := HH.out.ar.ok.len; omega
        have hfs : s.freeS (p : Int) = ⟨s.N, s.out.set p false, s.fr ++ [p]⟩ := by unfold St.freeS; rw [if_neg (by omega), if_pos hhas]; simp
        rw [hfs] at a7
        have A7 := Lib.hid a7; have ST7 := Lib.hid st7; have HPO := Lib.hid hpo
        clear a7 st7 hhas hfs hpo
        go_wp2
        go_ret
        have T7 := T6.out.keep ST7.out.1 HH.out.ng HH.out.nb
        refine ⟨ret_i HE.out.symm, fun k => Mine g b k ∨ S7 k, ⟨ga, b, cap, n, tp5, _, _, _, S7, ⟨T7, ?_, ?_, A7.out, ?_, ?_, ?_, ?_, ?_, fun _ => Iff.rfl⟩, HKS.out, rfl⟩, ?_, ?_⟩
        · obtain ⟨t', h'⟩ := R5.out; exact ⟨t', h'.rep.other HNQ.out (by omega), h'.rb⟩
        · rw [sorted_iff, HKS.out]; exact (sorted_iff.1 HH.out.sorted).filter _
        · simp; exact HH.out.len
        · intro i
          rw [HCI.out.1 i, HIDS1.out, HH.out.ids i]
          constructor
          · rintro ⟨⟨p', rfl, hp'⟩, hne⟩; exact ⟨p', rfl, (ids_del hpl _).2 ⟨by omega, hp'⟩⟩
          · rintro ⟨p', rfl, hp'⟩
            obtain ⟨h1, h2⟩ := (ids_del hpl _).1 hp'
            exact ⟨⟨p', rfl, h2⟩, by omega⟩
        · have h1 := HCI.out.2
          have h2 := count_set_false HPO.out
          have h3 := HH.out.cnt
          have h4 : L1.length = L.length := by have := congrArg List.length HIDS1.out; simpa using this
          show _ = (s.out.set p false).count true
          omega
        · exact ST7.out.apart (R := fun k => k = g) (fun k e => by rw [e]; exact T6.out.gLt) (fun k e => by rw [e]; exact HH.out.ng) g rfl
        · exact ST7.out.apart (R := fun k => k = b) (fun k e => by rw [e]; exact T6.out.hLt) (fun k e => by rw [e]; exact HH.out.nb) b rfl
        · exact (K4.out.then K6.out (fun i hi _ => (HH.out.foot i).2 (.inl hi))).then ST7.out.1 (fun i hi _ => (HH.out.foot i).2 (.inr hi))
        · intro k hk
          rcases hk with hk | hk
          · exact .inl ((HH.out.foot k).2 (.inl hk))
          · rcases ST7.out.2 k hk with h | h
            · exact .inl ((HH.out.foot k).2 (.inr h))
            · exact .inr (Nat.le_trans (Nat.le_trans K4.out.size K6.out.size) h)
      | nd ri rk rc rl rr2 =>
        have hri0 := (Rep.down (s := true) (x := .nd ri rk rc rl rr2) (y := .nd li lk lc ll lr2) HFR.out.rep).node.2.1
        have hri' : ((ri : Int) != 0) = true := by rw [bne_iff_ne]; omega
        simp only [T.root] at cl cr
        obtain ⟨z0, h0, kh, ch, rr, hz0, _, hz2⟩ := (RepB.down (s := true) (x := .nd ri rk rc rl rr2) (y := .nd li lk lc ll lr2) HFR.out).leastAt (by simp)
        have hz2 : (h0, kh) :: rr.its ++ z0.zr = (T.nd ri rk rc rl rr2).its ++ z.zr := hz2
        have HNEXT := Lib.hid (fun w' (t' : Tr w' g b cap (.pointer (some ⟨ga, 0, none⟩)) n tp m) => next_any w' t' HFR.out.rep)
        rw [← hz2] at HNEXT
        simp only [hd, List.cons_append] at HNEXT
        obtain ⟨hmh, hh0, hhn, _⟩ := hz0.rep.node
        have hrk := HFR.out.rep.rekey (k' := kh)
        have hrb : RepB (upd m a { m a with k := kh }) n tp z (.nd a kh c (.nd li lk lc ll lr2) (.nd ri rk rc rl rr2)) (z.zl ++ ((T.nd li lk lc ll lr2).its ++ (a, kh) :: (T.nd ri rk rc rl rr2).its) ++ z.zr) := ⟨hrk, HFR.out.rb⟩
        obtain ⟨z1, q, kq, cq, x, hz1, hzl0, hzr0⟩ := (RepB.down (s := true) (x := .nd ri rk rc rl rr2) (y := .nd li lk lc ll lr2) hrb).leastAt (by simp)
        have hzr : (q, kq) :: x.its ++ z1.zr = (T.nd ri rk rc rl rr2).its ++ z.zr := hzr0
        have hzl : z1.zl = z.zl ++ (T.nd li lk lc ll lr2).its ++ [(a, kh)] := hzl0
        clear hzr0 hzl0
        have heq : q = h0 ∧ kq = kh := by
          have := hzr.trans hz2.symm
          simp only [List.cons_append, List.cons.injEq, Prod.mk.injEq] at this
          exact this.1
        obtain ⟨rfl, rfl⟩ := heq
        obtain ⟨L1, hL1⟩ : ∃ L1, L1 = z.zl ++ ((T.nd li lk lc ll lr2).its ++ (a, kq) :: (T.nd ri rk rc rl rr2).its) ++ z.zr := ⟨_, rfl⟩
        have HIDS1 : Hid (L1.map (·.1) = L.map (·.1)) := Lib.hid (by rw [hL1, ← HFR.out.rep.its]; simp [T.its])
        rw [← hL1] at hz1
        obtain ⟨s1, hs1⟩ : ∃ s1, s1 = true := ⟨_, rfl⟩
        have RC : Hid (RepB (upd m a { m a with k := kq }) n tp z1 (br s1 q kq cq x .nil) L1) := Lib.hid (by rw [hs1]; exact hz1)
        have HX : Hid (s1 = false → x ≠ .nil) := Lib.hid (fun e => by rw [hs1] at e; cases e)
        have HQIN : Hid (q ∈ L1.map (·.1)) := Lib.hid (by rw [← hz1.rep.its]; simp [T.its])
        have HKS : Hid ((z1.zl ++ x.its ++ z1.zr).map (·.2) = delS (L.map (·.2)) ⟨ka, kb⟩) := Lib.hid (by rw [← HDK.out, ← hzr, hzl]; simp)
        have hKa : (m q).k = kq := by rw [hmh]
        clear hz0 hz1 hrk hrb hzl hzr hz2 hmh hL1 hs1 HDK HLK HQIN' HFR
        obtain ⟨qa, qb⟩ := kq
        go_wp2_with fail
        refine (HNEXT.out _ T2.out).mono ?_
        rintro e w3 ⟨rfl, k3, hw3⟩
        have T3 := Lib.hid (hw3 ▸ T2.out.drewN k3 : Tr w3 g b cap (.pointer (some ⟨ga, 0, none⟩)) n tp m)
        have K3 := Lib.hid (hw3 ▸ KS2.out.drewN k3 : Keep S w w3)
        have A3 : Hid (ArenaAt 80 w3 Sa ga s) := Lib.hid (by rw [hw3]; exact A2.out)
        clear hw3 c1 cl cr T2 KS2 A2
        obtain ⟨⟨e0, f0⟩, ⟨e1, f1⟩, t4, k4⟩ := T3.out.two (i := a) han ⟨qa, qb⟩
        dsimp only at e0 e1 f0 f1 t4 k4
        have da : w3.cell? ⟨b, q * 6, none⟩ = some (.int .u64 qa) := by rw [T3.out.ka hhn, hKa]
        have db : w3.cell? ⟨b, q * 6 + 1, none⟩ = some (.int .u64 qb) := by rw [T3.out.kb hhn, hKa]
        have hqc : (q : Int) < (n : Int) := by omega
        have T4' := Lib.hid t4.drew
        have K4' := Lib.hid ((K3.out.then k4 (fun i hi _ => (HH.out.foot i).2 (.inl hi))).drew)
        have A4' := Lib.hid (A3.out.keep k4.drew (fun k hk h => by rcases h with rfl | rfl; exact HH.out.ng hk; exact HH.out.nb hk))
        have cg := T3.out.st.cell 1
        clear t4 k4
        go_wp2
        go_region
        clear e0 e1 f0 f1 da db cg T3 K3 A3
        have T4 := T4'; have K4 := K4'; have A4 := A4'
        clear T4' K4' A4' HNEXT
        generalize ((w3.setCell ⟨b, a * 6, none⟩ (.int .u64 qa)).setCell ⟨b, a * 6 + 1, none⟩ (.int .u64 qb)).drew = w4 at *
        obtain ⟨z0', hz0'⟩ : ∃ z0' : Z, z0' = z1 := ⟨_, rfl⟩
        clear hz0' z0'
        go_wp2_with fail
        refine (cut_any w4 T4.out RC.out HX.out).mono ?_
        rintro e w5 ⟨⟨v5, rfl⟩, m5, tp5, t5, r5, k5⟩
        have hq1 := (RC.out.rep.posT (i := q) (by rw [its_br]; cases s1 <;> simp))
        have HCI := Lib.hid RC.out.rep.cutIds
        have HNQ := Lib.hid RC.out.rep.cut.2
        obtain ⟨⟨e0, f0⟩, ⟨e1, f1⟩, ⟨e2, f2⟩, ⟨e3, f3⟩, ⟨e4, f4⟩, ⟨e5, f5⟩, t6, k6⟩ := t5.six (i := q) hq1.2 Nd.zero
        simp only [Nd.zero, show ((0 : Nat) : Int) = 0 from rfl] at e0 f0 e1 f1 e2 f2 e3 f3 e4 f4 e5 f5 t6 k6
        have c1 := t5.st.cell 1
        have c0 := t6.st.cell 0
        have hqn : (q : Int) < (n : Int) := by omega
        have T6 := Lib.hid t6; have K6 := Lib.hid (k5.trans k6); have R5 := Lib.hid r5
        clear t5 r5 k5 t6 k6 T4 RC HX
        go_wp2_with fail
        have hpq : q ∈ L.map (·.1) := by rw [← HIDS1.out]; exact HQIN.out
        obtain ⟨p, hqp, hpo⟩ := (HH.out.ids q).1 hpq
        have hpl : p < s.out.length := (List.getElem?_eq_some_iff.1 hpo).1
        rw [show (q : Int) - 1 = (p : Int) by omega]
        have A6 := Lib.hid (A4.out.keep K6.out (fun k hk h => by rcases h with rfl | rfl; exact HH.out.ng hk; exact HH.out.nb hk))
        clear e0 e1 e2 e3 e4 e5 f0 f1 f2 f3 f4 f5 c1 c0
        refine (free_any Sa ga s p _ A6.out).mono ?_
        rintro e w7 ⟨rfl, S7, a7, st7⟩
        have hhas : s.has (p : Int) = true := by unfold St.has; simp [hpo]
        have hpN : (p : Int) < (s.N : Int) := by have := HH.out.ar.ok.len; omega
        have hfs : s.freeS (p : Int) = ⟨s.N, s.out.set p false, s.fr ++ [p]⟩ := by unfold St.freeS; rw [if_neg (by omega), if_pos hhas]; simp
        rw [hfs] at a7
        have A7 := Lib.hid a7; have ST7 := Lib.hid st7; have HPO := Lib.hid hpo
        clear a7 st7 hhas hfs hpo
        go_wp2
        go_ret
        have T7 := T6.out.keep ST7.out.1 HH.out.ng HH.out.nb
        refine ⟨ret_i HE.out.symm, fun k => Mine g b k ∨ S7 k, ⟨ga, b, cap, n, tp5, _, _, _, S7, ⟨T7, ?_, ?_, A7.out, ?_, ?_, ?_, ?_, ?_, fun _ => Iff.rfl⟩, HKS.out, rfl⟩, ?_, ?_⟩
        · obtain ⟨t', h'⟩ := R5.out; exact ⟨t', h'.rep.other HNQ.out (by omega), h'.rb⟩
        · rw [sorted_iff, HKS.out]; exact (sorted_iff.1 HH.out.sorted).filter _
        · simp; exact HH.out.len
        · intro i
          rw [HCI.out.1 i, HIDS1.out, HH.out.ids i]
          constructor
          · rintro ⟨⟨p', rfl, hp'⟩, hne⟩; exact ⟨p', rfl, (ids_del hpl _).2 ⟨by omega, hp'⟩⟩
          · rintro ⟨p', rfl, hp'⟩
            obtain ⟨h1, h2⟩ := (ids_del hpl _).1 hp'
            exact ⟨⟨p', rfl, h2⟩, by omega⟩
        · have h1 := HCI.out.2
          have h2 := count_set_false HPO.out
          have h3 := HH.out.cnt
          have h4 : L1.length = L.length := by have := congrArg List.length HIDS1.out; simpa using this
          show _ = (s.out.set p false).count true
          omega
        · exact ST7.out.apart (R := fun k => k = g) (fun k e => by rw [e]; exact T6.out.gLt) (fun k e => by rw [e]; exact HH.out.ng) g rfl
        · exact ST7.out.apart (R := fun k => k = b) (fun k e => by rw [e]; exact T6.out.hLt) (fun k e => by rw [e]; exact HH.out.nb) b rfl
        · exact (K4.out.then K6.out (fun i hi _ => (HH.out.foot i).2 (.inl hi))).then ST7.out.1 (fun i hi _ => (HH.out.foot i).2 (.inr hi))
        · intro k hk
          rcases hk with hk | hk
          · exact .inl ((HH.out.foot k).2 (.inl hk))
          · rcases ST7.out.2 k hk with h | h
            · exact .inl ((HH.out.foot k).2 (.inr h))
            · exact .inr (Nat.le_trans (Nat.le_trans K4.out.size K6.out.size) h)
end Go.Proofs.Ytfbbmpmgceghfaa
