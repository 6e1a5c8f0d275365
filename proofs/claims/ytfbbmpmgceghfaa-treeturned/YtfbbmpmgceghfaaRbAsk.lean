/-
  The calls of package rbtree that ask: Has, Min, Next, Len, Height. Conditions: the tree lies in memory.
-/
import Derived.Test.YtfbbmpmgceghfaaRbDel
namespace Go.Proofs.Ytfbbmpmgceghfaa
open Go.RowKit
set_option maxRecDepth 100000
set_option linter.unusedSimpArgs false

def hdK (ks : List Key) : Key := match ks with | [] => ⟨0, 0⟩ | k :: _ => k
def hdB (ks : List Key) : Bool := match ks with | [] => false | _ :: _ => true
def above (ks : List Key) (k : Key) : List Key := ks.filter (fun x => decide (KLt k x))

theorem Sub.keyAt {m : Nat → Nd} : ∀ {t : T} {p : Nat}, Sub m p t → ∀ x ∈ t.its, (m x.1).k = x.2
  | .nil, _, _, x, hx => by simp [T.its] at hx
  | .nd i k c l r, p, h, x, hx => by
    simp only [T.its, List.mem_append, List.mem_cons] at hx
    rcases hx with hx | rfl | hx
    · exact h.2.1.keyAt x hx
    · rw [h.1]
    · exact h.2.2.keyAt x hx
theorem RepB.keyAt {m : Nat → Nd} {n tp : Nat} {z : Z} {t : T} {L : List (Nat × Key)} (h : RepB m n tp z t L) : ∀ x ∈ L, (m x.1).k = x.2 ∧ 0 < x.1 ∧ x.1 < n := by
  obtain ⟨t', ht'⟩ := h.top
  intro x hx
  have e : L = t'.its := by rw [← ht'.rep.its]; simp [Z.zl, Z.zr]
  exact ⟨ht'.rep.sub.keyAt x (e ▸ hx), ht'.rep.pos x.1 (List.mem_map.2 ⟨x, hx, rfl⟩)⟩
/-- The first one of what is left of the keys: its node, and its key. -/
theorem RepB.hdAt {m : Nat → Nd} {n tp : Nat} {z : Z} {t : T} {L A B : List (Nat × Key)} (h : RepB m n tp z t L) (e : L = A ++ B) (hn : 0 < n) :
    hd B < n ∧ (m (hd B)).k = hdK (B.map (·.2)) ∧ decide (hd B ≠ 0) = hdB (B.map (·.2)) := by
  cases B with
  | nil => refine ⟨hn, ?_, rfl⟩; show (m 0).k = _; rw [h.rep.m0]; rfl
  | cons x B =>
    have := h.keyAt x (by rw [e]; simp)
    exact ⟨this.2.2, this.1, by have := this.2.1; show decide (x.1 ≠ 0) = true; simp; omega⟩
theorem above_split {k : Key} {A B : List Key} (hA : ∀ x ∈ A, ¬ KLt k x) (hB : ∀ x ∈ B, KLt k x) : above (A ++ B) k = B := by
  unfold above
  rw [List.filter_append, List.filter_eq_nil_iff.2 (fun x hx => by simpa using hA x hx), List.filter_eq_self.2 (fun x hx => by simpa using hB x hx), List.nil_append]

section
variable {w : World} {S : Nat → Prop} {g N : Nat} {ks : List Key}
theorem tlen_nil (w : World) : Calls Try.prog 15 #[.pointer none] w fun e w' => e = .returned (.int .i64 0) ∧ w' = w := by
  go_enter Try.func15, Try.ntmps15
  go_wp2
  go_ret
  exact ⟨rfl, rfl⟩
theorem theight_nil (w : World) : Calls Try.prog 36 #[.pointer none] w fun e w' => e = .returned (.int .i64 0) ∧ w' = w := by
  go_enter Try.func36, Try.ntmps36
  go_wp2
  go_ret
  exact ⟨rfl, rfl⟩
theorem thas_nil (k : Key) (w : World) : Calls Try.prog 18 #[.pointer none, kv k] w fun e w' => e = .returned (.bool false) ∧ Keep (fun _ => False) w w' := by
  unfold kv
  go_enter Try.func18, Try.ntmps18
  go_wp2
  go_ret
  exact ⟨rfl, (Keep.refl _ _).alloc _⟩
theorem tmin_nil (w : World) : Calls Try.prog 12 #[.pointer none] w fun e w' => e = .returned (.tuple #[kv ⟨0, 0⟩, .bool false]) ∧ Keep (fun _ => False) w w' := by
  unfold kv
  go_enter Try.func12, Try.ntmps12
  go_wp2
  (try simp only [Exit.inBlock, Exit.then])
  refine bodyPost_ret (v := .tuple #[.agg #[.int .u64 0, .int .u64 0], .bool false]) ?_ rfl ⟨rfl, ?_⟩
  · rw [results_cell_tmp rfl]
    go_simp
  · exact (Keep.refl _ _).alloc _
theorem tnext_nil (k : Key) (w : World) : Calls Try.prog 14 #[.pointer none, kv k] w fun e w' => e = .returned (.tuple #[kv ⟨0, 0⟩, .bool false]) ∧ Keep (fun _ => False) w w' := by
  unfold kv
  go_enter Try.func14, Try.ntmps14
  go_wp2
  (try simp only [Exit.inBlock, Exit.then])
  refine bodyPost_ret (v := .tuple #[.agg #[.int .u64 0, .int .u64 0], .bool false]) ?_ rfl ⟨rfl, ?_⟩
  · rw [results_cell_tmp rfl]
    go_simp
  · exact ((Keep.refl _ _).alloc _).alloc _

set_option maxHeartbeats 400000 in
theorem tlen_any (w : World) (h : TreeAt w S g N ks) : Calls Try.prog 15 #[.pointer (some ⟨g, 0, none⟩)] w fun e w' => e = .returned (.int .i64 (ks.length : Int)) ∧ ∃ k, w' = w.drewN k := by
  obtain ⟨ga, b, cap, n, tp, m, L, s, Sa, h, hks, hN⟩ := h
  have HE : Hid (((s.out.count true : Nat) : Int) = ks.length) := Lib.hid (by rw [← hks, List.length_map, h.cnt])
  have c0 := h.tr.st.cell 0
  have HH := Lib.hid h; clear h hks hN
  go_enter Try.func15, Try.ntmps15
  go_wp2_with fail
  refine (used_any Sa ga s w HH.out.ar).mono ?_
  rintro e w1 ⟨rfl, k1, hw1⟩
  have HW := Lib.hid hw1; clear hw1
  go_wp2
  go_ret
  exact ⟨ret_i HE.out, k1, HW.out⟩

theorem T.height_le : ∀ t : T, t.height ≤ t.its.length
  | .nil => by simp [T.height]
  | .nd i k c l r => by have := l.height_le; have := r.height_le; simp [T.height, T.its]; omega

set_option maxHeartbeats 400000 in
theorem theight_any (w : World) (h : TreeAt w S g N ks) : Calls Try.prog 36 #[.pointer (some ⟨g, 0, none⟩)] w fun e w' => ∃ x : Nat, e = .returned (.int .i64 (x : Int)) ∧ x ≤ 2 * bitsN (ks.length + 1) ∧ (0 < x ↔ 0 < ks.length) ∧ Keep (fun _ => False) w w' := by
  obtain ⟨ga, b, cap, n, tp, m, L, s, Sa, h, hks, hN⟩ := h
  obtain ⟨t, ht⟩ := h.rep
  have hl : L.length = ks.length := by rw [← hks, List.length_map]
  have HE := Lib.hid (ht.height)
  rw [hl] at HE
  have htp : tp = t.root := ht.rep.up
  have hht : t.height ≤ 5000 := by
    have h1 := t.height_le
    have h2 := h.n_le
    have e : L = t.its := by rw [← ht.rep.its]; simp [Z.zl, Z.zr]
    rw [← e] at h1
    omega
  have HHT := Lib.hid hht
  clear hht
  have HT := Lib.hid ht.rep
  have TR := Lib.hid h.tr
  have c2 := h.tr.st.cell 2
  clear h hks hN ht
  go_enter Try.func36, Try.ntmps36
  have HTP := Lib.hid htp
  clear htp
  go_wp2_with fail
  rw [HTP.out]
  refine (height_any t .top w TR.out HT.out HHT.out).mono ?_
  rintro e w1 ⟨rfl, k1⟩
  have K1 := Lib.hid k1; clear k1
  go_wp2
  go_ret
  exact ⟨_, rfl, HE.out.1, HE.out.2, K1.out⟩

set_option maxHeartbeats 400000 in
theorem thas_any (k : Key) (w : World) (h : TreeAt w S g N ks) : Calls Try.prog 18 #[.pointer (some ⟨g, 0, none⟩), kv k] w fun e w' => e = .returned (.bool (decide (k ∈ ks))) ∧ Keep (fun _ => False) w w' := by
  obtain ⟨ga, b, cap, n, tp, m, L, s, Sa, h, hks, hN⟩ := h
  subst hks
  obtain ⟨t0, hrep⟩ := h.rep
  have HF := Lib.hid (fun w' (t' : Tr w' g b cap (.pointer (some ⟨ga, 0, none⟩)) n tp m) => find_any k w' t' hrep h.sorted)
  have hkeq : kv k = .agg #[.int .u64 k.a, .int .u64 k.b] := rfl
  obtain ⟨ka, kb⟩ := k
  rw [hkeq] at HF
  rw [hkeq]
  dsimp only at HF ⊢
  clear hkeq
  have T1 := Lib.hid (h.tr.alloc (.cells #[.int .u64 ka, .int .u64 kb] 30))
  have K1 : Hid (Keep (fun _ => False) w (w.alloc (.cells #[.int .u64 ka, .int .u64 kb] 30))) := Lib.hid ((Keep.refl _ w).alloc _)
  clear h hrep
  go_enter Try.func18, Try.ntmps18
  go_wp2_with fail
  refine (HF.out _ T1.out).mono ?_
  rintro e w2 ⟨z, t, rfl, ⟨hfr, hfound⟩, k2⟩
  have K2 := Lib.hid (K1.out.trans k2); clear k2
  rcases hfound with ⟨rfl, hl, hg⟩ | ⟨i, c, l, r, rfl⟩
  · have HE : Hid (decide ((⟨ka, kb⟩ : Key) ∈ L.map (·.2)) = false) := Lib.hid (by simpa using (Found.gone hfr hl hg).1)
    clear hfr hl hg
    simp only [T.root]
    go_wp2
    go_ret
    exact ⟨ret_b HE.out.symm, K2.out⟩
  · have HE : Hid (decide ((⟨ka, kb⟩ : Key) ∈ L.map (·.2)) = true) := Lib.hid (decide_eq_true (Found.here hfr))
    obtain ⟨_, hi0, _⟩ := hfr.rep.node
    have hi' : ((i : Int) == 0) = false := by rw [beq_eq_false_iff_ne]; omega
    have hi2 : ((i : Int) != 0) = true := by rw [bne_iff_ne]; omega
    clear hfr
    simp only [T.root]
    go_wp2
    go_ret
    exact ⟨ret_b HE.out.symm, K2.out⟩

theorem ret_kb {k k' : Key} {c c' : Bool} (h : k = k') (h' : c = c') : (Value.tuple #[kv k, .bool c]) = .tuple #[kv k', .bool c'] := by rw [h, h']

set_option maxHeartbeats 1000000 in
set_option maxRecDepth 100000 in
theorem tmin_any (w : World) (h : TreeAt w S g N ks) : Calls Try.prog 12 #[.pointer (some ⟨g, 0, none⟩)] w fun e w' => e = .returned (.tuple #[kv (hdK ks), .bool (hdB ks)]) ∧ Keep (fun _ => False) w w' := by
  obtain ⟨ga, b, cap, n, tp, m, L, s, Sa, h, hks, hN⟩ := h
  obtain ⟨t, ht⟩ := h.rep
  have hn : 0 < n := by have := h.len; omega
  have e : L = t.its := by rw [← ht.rep.its]; simp [Z.zl, Z.zr]
  obtain ⟨q1, q2, q3⟩ := ht.hdAt (A := []) (B := t.its) (by rw [e]; rfl) hn
  rw [← e, hks] at q2 q3
  rw [← e] at q1
  have HTP : Hid (tp = t.root) := Lib.hid ht.rep.up
  have HT := Lib.hid ht.rep
  have HM0 := Lib.hid ht.rep.m0
  have HEL := Lib.hid e
  have T1 := Lib.hid (h.tr.alloc (.cells #[.int .u64 0, .int .u64 0] 30))
  have KB : Hid (Keep (fun _ => False) w (w.alloc (.cells #[.int .u64 0, .int .u64 0] 30))) := Lib.hid ((Keep.refl _ w).alloc _)
  have WB := Lib.hid (Whole.new w 30 #[.int .u64 0, .int .u64 0])
  have HBB : Hid (w.heap.size ≤ w.heap.size) := Lib.hid (Nat.le_refl _)
  have c2 := T1.out.st.cell 2
  have HKEY := Lib.hid (fun w' (t' : Tr w' g b cap (.pointer (some ⟨ga, 0, none⟩)) n tp m) => key_any (hd L) w' t' q1 HM0.out)
  rw [q2, q3] at HKEY
  obtain ⟨⟨ra, rb⟩, hr⟩ : ∃ r, r = hdK ks := ⟨_, rfl⟩
  obtain ⟨fl, hfl⟩ : ∃ fl, fl = hdB ks := ⟨_, rfl⟩
  rw [← hr, ← hfl] at HKEY
  have HV : Hid ((Value.tuple #[kv (hdK ks), .bool (hdB ks)]) = .tuple #[kv ⟨ra, rb⟩, .bool fl]) := Lib.hid (ret_kb hr.symm hfl.symm)
  clear h hks hN ht q1 q2 q3 e hr hfl
  go_enter Try.func12, Try.ntmps12
  go_wp2_with fail
  generalize w.alloc (.cells #[.int .u64 0, .int .u64 0] 30) = w1 at *
  rw [HTP.out]
  refine (least_any w1 T1.out HT.out).mono ?_
  rintro e w2 ⟨rfl, rfl⟩
  rw [← HEL.out]
  go_wp2_with fail
  refine (HKEY.out _ T1.out).mono ?_
  rintro e wk ⟨rfl, kk⟩
  have KK := Lib.hid (KB.out.trans kk)
  have WK := WB.out.keep kk (fun h => h)
  have WK1 := WK.put 0 (.int .u64 ra)
  have WK2 := WK1.put 1 (.int .u64 rb)
  have e0 := WK.cell 0; have f0 := WK.free 0
  have e1 := WK1.cell 1; have f1 := WK1.free 1
  have d0 := WK2.cell 0; have d1 := WK2.cell 1
  simp only [List.setIfInBounds_toArray, List.set_cons_zero, List.set_cons_succ, List.getElem?_toArray, List.getElem?_cons_zero, List.getElem?_cons_succ] at e0 e1 d0 d1
  clear kk
  simp only [kv]
  go_wp2
  (try simp only [Exit.inBlock, Exit.then])
  refine bodyPost_ret (v := .tuple #[.agg #[.int .u64 ra, .int .u64 rb], .bool fl]) ?_ rfl ⟨?_, ?_⟩
  · rw [results_cell_tmp rfl]
    go_simp
  · rw [HV.out]; rfl
  · exact (KK.out.setCell (.inr HBB.out) _).setCell (.inr HBB.out) _

set_option maxHeartbeats 2000000 in
set_option maxRecDepth 100000 in
theorem tnext_any (k : Key) (w : World) (h : TreeAt w S g N ks) : Calls Try.prog 14 #[.pointer (some ⟨g, 0, none⟩), kv k] w fun e w' => e = .returned (.tuple #[kv (hdK (above ks k)), .bool (hdB (above ks k))]) ∧ Keep (fun _ => False) w w' := by
  obtain ⟨ga, b, cap, n, tp, m, L, s, Sa, h, hks, hN⟩ := h
  subst hks
  obtain ⟨t0, hrep⟩ := h.rep
  have hn : 0 < n := by have := h.len; omega
  have HM0 := Lib.hid hrep.rep.m0
  have HSO := Lib.hid h.sorted
  have HF := Lib.hid (fun w' (t' : Tr w' g b cap (.pointer (some ⟨ga, 0, none⟩)) n tp m) => find_any k w' t' hrep h.sorted)
  have hkeq : kv k = .agg #[.int .u64 k.a, .int .u64 k.b] := rfl
  obtain ⟨ka, kb⟩ := k
  rw [hkeq] at HF
  rw [hkeq]
  dsimp only at HF ⊢
  clear hkeq
  have T1 := Lib.hid ((h.tr.alloc (.cells #[.int .u64 ka, .int .u64 kb] 30)).alloc (.cells #[.int .u64 0, .int .u64 0] 30))
  have K1 : Hid (Keep (fun _ => False) w ((w.alloc (.cells #[.int .u64 ka, .int .u64 kb] 30)).alloc (.cells #[.int .u64 0, .int .u64 0] 30))) := Lib.hid (((Keep.refl _ w).alloc _).alloc _)
  have WB1 := Whole.new (w.alloc (.cells #[.int .u64 ka, .int .u64 kb] 30)) 30 #[.int .u64 0, .int .u64 0]
  rw [World.size_alloc] at WB1
  have W1 := Lib.hid WB1
  have HBB : Hid (w.heap.size ≤ w.heap.size + 1) := Lib.hid (by omega)
  clear h hrep WB1
  go_enter Try.func14, Try.ntmps14
  go_wp2_with fail
  generalize (w.alloc (.cells #[.int .u64 ka, .int .u64 kb] 30)).alloc (.cells #[.int .u64 0, .int .u64 0] 30) = w1 at *
  refine (HF.out _ T1.out).mono ?_
  rintro e w2 ⟨z, t, rfl, ⟨hfr, hfound⟩, k2⟩
  have T2 := Lib.hid (T1.out.kept k2); have KB := Lib.hid (K1.out.trans k2); have WB := Lib.hid (W1.out.keep k2 (fun h => h)); clear k2 HF T1 K1 W1
  rcases hfound with ⟨rfl, hl, hg⟩ | ⟨i, c, l, r, rfl⟩
  · have eL : L = z.zl ++ z.zr := by rw [← hfr.rep.its]; simp [T.its]
    obtain ⟨BB, hBB⟩ : ∃ BB, BB = z.zr := ⟨_, rfl⟩
    obtain ⟨q1, q2, q3⟩ := hfr.hdAt (A := z.zl) (B := BB) (by rw [hBB]; exact eL) hn
    have hab : above (L.map (·.2)) ⟨ka, kb⟩ = BB.map (·.2) := by
      rw [eL, List.map_append, hBB]
      exact above_split (fun x hx => by obtain ⟨y, hy, rfl⟩ := List.mem_map.1 hx; exact fun h => (hl y hy).asymm h) (fun x hx => by obtain ⟨y, hy, rfl⟩ := List.mem_map.1 hx; exact hg y hy)
    obtain ⟨⟨ra, rb⟩, hr⟩ : ∃ r, r = hdK (above (L.map (·.2)) ⟨ka, kb⟩) := ⟨_, rfl⟩
    obtain ⟨fl, hfl⟩ : ∃ fl, fl = hdB (above (L.map (·.2)) ⟨ka, kb⟩) := ⟨_, rfl⟩
    rw [hab] at hr hfl
    have HKEY := Lib.hid (fun w' (t' : Tr w' g b cap (.pointer (some ⟨ga, 0, none⟩)) n tp m) => key_any (hd BB) w' t' q1 HM0.out)
    rw [q2, q3, ← hr, ← hfl] at HKEY
    have HV : Hid ((Value.tuple #[kv (hdK (above (L.map (·.2)) ⟨ka, kb⟩)), .bool (hdB (above (L.map (·.2)) ⟨ka, kb⟩))]) = .tuple #[kv ⟨ra, rb⟩, .bool fl]) := Lib.hid (ret_kb (by rw [hab]; exact hr.symm) (by rw [hab]; exact hfl.symm))
    have HFR := Lib.hid hfr
    clear hr hfl q2 q3 hab eL hl hg hfr
    cases z with
    | top =>
      have hb0 : Hid (hd BB = 0) := Lib.hid (by rw [hBB]; rfl)
      clear hBB HFR
      simp only [T.root, Z.par, Z.side, bit_false']
      go_wp2_with fail
      rw [hb0.out] at HKEY
      refine (HKEY.out _ T2.out).mono ?_
      rintro e wk ⟨rfl, kk⟩
      have KK := Lib.hid (KB.out.trans kk)
      have WK := WB.out.keep kk (fun h => h)
      have WK1 := WK.put 0 (.int .u64 ra)
      have WK2 := WK1.put 1 (.int .u64 rb)
      have e0 := WK.cell 0; have f0 := WK.free 0
      have e1 := WK1.cell 1; have f1 := WK1.free 1
      have d0 := WK2.cell 0; have d1 := WK2.cell 1
      simp only [List.setIfInBounds_toArray, List.set_cons_zero, List.set_cons_succ, List.getElem?_toArray, List.getElem?_cons_zero, List.getElem?_cons_succ] at e0 e1 d0 d1
      clear kk
      simp only [kv]
      go_wp2
      (try simp only [Exit.inBlock, Exit.then])
      refine bodyPost_ret (v := .tuple #[.agg #[.int .u64 ra, .int .u64 rb], .bool fl]) ?_ rfl ⟨?_, ?_⟩
      · rw [results_cell_tmp rfl]
        go_simp
      · rw [HV.out]; rfl
      · exact (KK.out.setCell (.inr HBB.out) _).setCell (.inr HBB.out) _
    | st s2 i ki ci o z' =>
      cases s2 with
      | false =>
        have hb0 : Hid (hd BB = i) := Lib.hid (by rw [hBB]; rfl)
        clear hBB HFR
        simp only [T.root, Z.par, Z.side, bit_false']
        go_wp2_with fail
        rw [hb0.out] at HKEY
        refine (HKEY.out _ T2.out).mono ?_
        rintro e wk ⟨rfl, kk⟩
        have KK := Lib.hid (KB.out.trans kk)
        have WK := WB.out.keep kk (fun h => h)
        have WK1 := WK.put 0 (.int .u64 ra)
        have WK2 := WK1.put 1 (.int .u64 rb)
        have e0 := WK.cell 0; have f0 := WK.free 0
        have e1 := WK1.cell 1; have f1 := WK1.free 1
        have d0 := WK2.cell 0; have d1 := WK2.cell 1
        simp only [List.setIfInBounds_toArray, List.set_cons_zero, List.set_cons_succ, List.getElem?_toArray, List.getElem?_cons_zero, List.getElem?_cons_succ] at e0 e1 d0 d1
        clear kk
        simp only [kv]
        go_wp2
        (try simp only [Exit.inBlock, Exit.then])
        refine bodyPost_ret (v := .tuple #[.agg #[.int .u64 ra, .int .u64 rb], .bool fl]) ?_ rfl ⟨?_, ?_⟩
        · rw [results_cell_tmp rfl]
          go_simp
        · rw [HV.out]; rfl
        · exact (KK.out.setCell (.inr HBB.out) _).setCell (.inr HBB.out) _
      | true =>
        have HNEXT := Lib.hid (fun w' (t' : Tr w' g b cap (.pointer (some ⟨ga, 0, none⟩)) n tp m) => next_any w' t' HFR.out.rep.upw)
        have hb0 : T.nil.its ++ z'.zr = BB := by rw [hBB]; rfl
        rw [hb0] at HNEXT
        clear hBB HFR hb0
        simp only [T.root, Z.par, Z.side, bit_true']
        go_wp2_with fail
        refine (HNEXT.out _ T2.out).mono ?_
        rintro e w3 ⟨rfl, q3, hw3⟩
        have T3 := Lib.hid (hw3 ▸ T2.out.drewN q3 : Tr w3 g b cap (.pointer (some ⟨ga, 0, none⟩)) n tp m)
        have KB3 := Lib.hid (hw3 ▸ KB.out.drewN q3 : Keep (fun _ => False) w w3)
        have WB3 : Hid (Whole w3 (w.heap.size + 1) 30 #[.int .u64 0, .int .u64 0]) := Lib.hid (by rw [hw3]; exact WB.out)
        clear hw3 T2 KB WB
        have KB := KB3; have WB := WB3; clear KB3 WB3
        go_wp2_with fail
        refine (HKEY.out _ T3.out).mono ?_
        rintro e wk ⟨rfl, kk⟩
        have KK := Lib.hid (KB.out.trans kk)
        have WK := WB.out.keep kk (fun h => h)
        have WK1 := WK.put 0 (.int .u64 ra)
        have WK2 := WK1.put 1 (.int .u64 rb)
        have e0 := WK.cell 0; have f0 := WK.free 0
        have e1 := WK1.cell 1; have f1 := WK1.free 1
        have d0 := WK2.cell 0; have d1 := WK2.cell 1
        simp only [List.setIfInBounds_toArray, List.set_cons_zero, List.set_cons_succ, List.getElem?_toArray, List.getElem?_cons_zero, List.getElem?_cons_succ] at e0 e1 d0 d1
        clear kk
        simp only [kv]
        go_wp2
        (try simp only [Exit.inBlock, Exit.then])
        refine bodyPost_ret (v := .tuple #[.agg #[.int .u64 ra, .int .u64 rb], .bool fl]) ?_ rfl ⟨?_, ?_⟩
        · rw [results_cell_tmp rfl]
          go_simp
        · rw [HV.out]; rfl
        · exact (KK.out.setCell (.inr HBB.out) _).setCell (.inr HBB.out) _
  · have eL : L = (z.zl ++ l.its ++ [(i, ⟨ka, kb⟩)]) ++ (r.its ++ z.zr) := by rw [← hfr.rep.its]; simp [T.its]
    obtain ⟨BB, hBB⟩ : ∃ BB, BB = r.its ++ z.zr := ⟨_, rfl⟩
    obtain ⟨q1, q2, q3⟩ := hfr.hdAt (A := z.zl ++ l.its ++ [(i, ⟨ka, kb⟩)]) (B := BB) (by rw [hBB]; exact eL) hn
    have hab : above (L.map (·.2)) ⟨ka, kb⟩ = BB.map (·.2) := by
      have hs := sorted_iff.1 HSO.out
      rw [eL, List.map_append] at hs ⊢
      rw [← hBB] at hs ⊢
      rw [List.pairwise_append] at hs
      obtain ⟨hs1, hs2, hs3⟩ := hs
      rw [List.map_append, List.pairwise_append] at hs1
      refine above_split (fun x hx => ?_) (fun x hx => hs3 ⟨ka, kb⟩ (by simp) x hx)
      rw [List.map_append, List.mem_append] at hx
      rcases hx with hx | hx
      · exact fun h => (hs1.2.2 x hx ⟨ka, kb⟩ (by simp)).asymm h
      · simp at hx; rw [hx]; exact fun h => h.irr
    obtain ⟨⟨ra, rb⟩, hr⟩ : ∃ r, r = hdK (above (L.map (·.2)) ⟨ka, kb⟩) := ⟨_, rfl⟩
    obtain ⟨fl, hfl⟩ : ∃ fl, fl = hdB (above (L.map (·.2)) ⟨ka, kb⟩) := ⟨_, rfl⟩
    rw [hab] at hr hfl
    have HKEY := Lib.hid (fun w' (t' : Tr w' g b cap (.pointer (some ⟨ga, 0, none⟩)) n tp m) => key_any (hd BB) w' t' q1 HM0.out)
    rw [q2, q3, ← hr, ← hfl] at HKEY
    have HV : Hid ((Value.tuple #[kv (hdK (above (L.map (·.2)) ⟨ka, kb⟩)), .bool (hdB (above (L.map (·.2)) ⟨ka, kb⟩))]) = .tuple #[kv ⟨ra, rb⟩, .bool fl]) := Lib.hid (ret_kb (by rw [hab]; exact hr.symm) (by rw [hab]; exact hfl.symm))
    have HNEXT := Lib.hid (fun w' (t' : Tr w' g b cap (.pointer (some ⟨ga, 0, none⟩)) n tp m) => next_any w' t' hfr.rep)
    rw [← hBB] at HNEXT
    obtain ⟨_, hi0, _⟩ := hfr.rep.node
    have hi' : ((i : Int) == 0) = false := by rw [beq_eq_false_iff_ne]; omega
    have hi2 : ((i : Int) != 0) = true := by rw [bne_iff_ne]; omega
    clear hr hfl q2 q3 hab eL hfr hBB
    simp only [T.root]
    go_wp2_with fail
    refine (HNEXT.out _ T2.out).mono ?_
    rintro e w3 ⟨rfl, q3, hw3⟩
    have T3 := Lib.hid (hw3 ▸ T2.out.drewN q3 : Tr w3 g b cap (.pointer (some ⟨ga, 0, none⟩)) n tp m)
    have KB3 := Lib.hid (hw3 ▸ KB.out.drewN q3 : Keep (fun _ => False) w w3)
    have WB3 : Hid (Whole w3 (w.heap.size + 1) 30 #[.int .u64 0, .int .u64 0]) := Lib.hid (by rw [hw3]; exact WB.out)
    clear hw3 T2 KB WB
    have KB := KB3; have WB := WB3; clear KB3 WB3
    go_wp2_with fail
    refine (HKEY.out _ T3.out).mono ?_
    rintro e wk ⟨rfl, kk⟩
    have KK := Lib.hid (KB.out.trans kk)
    have WK := WB.out.keep kk (fun h => h)
    have WK1 := WK.put 0 (.int .u64 ra)
    have WK2 := WK1.put 1 (.int .u64 rb)
    have e0 := WK.cell 0; have f0 := WK.free 0
    have e1 := WK1.cell 1; have f1 := WK1.free 1
    have d0 := WK2.cell 0; have d1 := WK2.cell 1
    simp only [List.setIfInBounds_toArray, List.set_cons_zero, List.set_cons_succ, List.getElem?_toArray, List.getElem?_cons_zero, List.getElem?_cons_succ] at e0 e1 d0 d1
    clear kk
    simp only [kv]
    go_wp2
    (try simp only [Exit.inBlock, Exit.then])
    refine bodyPost_ret (v := .tuple #[.agg #[.int .u64 ra, .int .u64 rb], .bool fl]) ?_ rfl ⟨?_, ?_⟩
    · rw [results_cell_tmp rfl]
      go_simp
    · rw [HV.out]; rfl
    · exact (KK.out.setCell (.inr HBB.out) _).setCell (.inr HBB.out) _
end
end Go.Proofs.Ytfbbmpmgceghfaa
