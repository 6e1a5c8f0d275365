/-
  The document's own lists (canterref04.Lists): Remove, Push, Drop, Back. Conditions: they lie in memory as two slices, each with a row of its own.
-/
import Derived.Test.YtcllgfkmjleckaaRefLs
import Derived.Test.YtcllgfkmjleckaaSchedF
namespace Go.Proofs.Ytcllgfkmjleckaa
open Go.RowKit

theorem flt_len (l : List Int) (q : Int) : (l.filter (fun x => x != q)).length ≤ l.length := List.length_filter_le _ _

set_option maxHeartbeats 1000000 in
set_option maxRecDepth 100000 in
theorem rremove_any (T : TypeId) (g off : Nat) (cs : Array Value) (v1 v2 : Value) (N O : List Int) (s : Int) (b : Bool) (w : World) (h : RLat w T g off cs v1 v2 N O) (hok : LsOk N O) (hb : b = decide (s ∈ N ∨ s ∈ O)) :
    Calls Try.prog 14 #[.pointer (some ⟨g, off, none⟩), .int .i64 s] w fun e w' => e = .returned (.bool b) ∧ RLto w T g off cs v1 v2 (N.erase s) (O.erase s) w' := by
  have e1 : N.erase s = N.filter (fun x => x != s) := List.Nodup.erase_eq_filter (List.nodup_append.1 hok.once).1 s
  have e2 : O.erase s = O.filter (fun x => x != s) := List.Nodup.erase_eq_filter (List.nodup_append.1 hok.once).2.1 s
  rw [e1, e2]
  have hN := hok.len1; have hO := hok.len2
  have HB : Hid (b = (placeV N O s != 0)) := Lib.hid (by
    rw [hb]; unfold placeV
    by_cases a : s ∈ N <;> by_cases b : s ∈ O <;> simp [a, b])
  clear hb e1 e2 hok
  obtain ⟨a1, c1, hv1, _⟩ := h.o1.shape
  obtain ⟨a2, c2, hv2, _⟩ := h.o2.shape
  rw [len_iv] at hv1 hv2
  subst hv1 hv2
  have d1 := (h.whole.cell off).trans h.c1
  have d2 := (h.whole.cell (off + 1)).trans h.c2
  have H := Lib.hid h
  clear h
  go_enter Try.func14, Try.ntmps14
  go_wp2_with fail
  refine (rplace_any T g off cs _ _ N O s w H.out hN hO).mono ?_
  rintro e w' ⟨rfl, rfl⟩
  obtain ⟨q, hq⟩ : ∃ q, q = placeV N O s := ⟨_, rfl⟩
  rw [← hq] at HB ⊢
  clear hq
  obtain ⟨bb, hbb⟩ : ∃ bb, (q != 0) = bb := ⟨_, rfl⟩
  rw [hbb] at HB
  go_wp2
  refine wp_region_first [1] [([(true, 0), (true, 2), (true, 3), (true, 4), (true, 5), (true, 6), (true, 8), (true, 9), (true, 10), (true, 11), (true, 12), (false, 7), (false, 13), (true, 14), (true, 15)], 16)] [(true, 17), (true, 18), (false, 19)] (by kernel_rfl) (by kernel_rfl) (by kernel_rfl) (by kernel_rfl) (by kernel_rfl) ?_
  (repeat (refine wpFirst_yes (v := ?_) rfl (fun _ _ _ h => h) (by rfl) ?_ ?_; rotate_left; (next => (intro w; go_simp; (try with_reducible rfl))); (try simp only [Act.put, List.setIfInBounds_toArray, List.set_cons_zero, List.set_cons_succ])))
  refine wpFirst_nil ?_
  refine wpParts_part (fun W => W.cell? ⟨g, off, none⟩ = some (.slice a1 N.length c1) ∧ W.cell? ⟨g, off + 1, none⟩ = some (.slice a2 O.length c2)) ⟨d1, d2⟩ ?_
  (repeat (refine wpPart_yes (v := ?_) rfl (fun _ _ _ h => h) (by rfl) ?_ ?_; rotate_left; (next => (intro w hSw; (try dsimp only at hSw); obtain ⟨hS1, hS2⟩ := hSw; go_simp; (try with_reducible rfl))); (try simp only [Act.put, List.setIfInBounds_toArray, List.set_cons_zero, List.set_cons_succ])))
  have K1 : Hid (Keep (fun _ => False) w w.drew) := Lib.hid (Keep.refl _ w).drew
  have H1 := Lib.hid (H.out.kept K1.out)
  generalize w.drew = w1 at *
  refine wpPart_call rfl (by rfl) (fun K hK => ?_); go_simp
  refine (without_any a1 c1 N s w1 H1.out.o1 (by omega)).mono ?_
  rintro e w2 ⟨u1, rfl, p1, n1, k2⟩
  obtain ⟨x1, y1, hu1, _⟩ := p1.shape
  rw [len_iv] at hu1
  subst hu1
  have P1 := Lib.hid p1; have N1 := Lib.hid n1; have K12 := Lib.hid k2; have K2 := Lib.hid (K1.out.trans k2); have H2 := Lib.hid (H1.out.kept k2)
  clear p1 n1 k2 d1 d2
  refine hK.out _ _ ⟨(H2.out.whole.cell off).trans H2.out.c1, (H2.out.whole.cell (off + 1)).trans H2.out.c2⟩ (fun hHeld => ?_)
  clear hK K hHeld
  (try simp only [Act.put, List.setIfInBounds_toArray, List.set_cons_zero, List.set_cons_succ])
  refine wpPart_call rfl (by rfl) (fun K hK => ?_); go_simp
  refine (without_any a2 c2 O s w2 H2.out.o2 (by omega)).mono ?_
  rintro e w3 ⟨u2, rfl, p2, n2, k3⟩
  obtain ⟨x2, y2, hu2, _⟩ := p2.shape
  rw [len_iv] at hu2
  subst hu2
  have P2 := Lib.hid p2; have N2 := Lib.hid n2; have P1' := Lib.hid (P1.out.keep k3 (fun _ _ => id)); have K3 := Lib.hid (K2.out.trans k3); have H3 := Lib.hid (H2.out.kept k3)
  have HAP : Hid (∀ k, (Value.slice x1 (N.filter (fun x => x != s)).length y1).ownBlock = some k → (Value.slice x2 (O.filter (fun x => x != s)).length y2).ownBlock ≠ some k) := Lib.hid (fun k e1 e2 => by
    have := P1.out.lt e1
    have := n2 k e2
    omega)
  have hs3 : w.heap.size ≤ w2.heap.size := K2.out.size
  have hs1 : w.heap.size ≤ w1.heap.size := K1.out.size
  clear p2 n2 k3 P1
  have f1 := H3.out.whole.free off
  have d1 := (H3.out.whole.cell off).trans H3.out.c1
  refine hK.out _ _ ⟨d1, (H3.out.whole.cell (off + 1)).trans H3.out.c2⟩ (fun hHeld => ?_)
  clear hK K hHeld
  (try simp only [Act.put, List.setIfInBounds_toArray, List.set_cons_zero, List.set_cons_succ])
  (repeat (refine wpPart_yes (v := ?_) rfl (fun _ _ _ h => h) (by rfl) ?_ ?_; rotate_left; (next => (intro w hSw; (try dsimp only at hSw); obtain ⟨hS1, hS2⟩ := hSw; go_simp; (try with_reducible rfl))); (try simp only [Act.put, List.setIfInBounds_toArray, List.set_cons_zero, List.set_cons_succ])))
  refine wpPart_turn rfl (by rfl) (fun K hK => ?_); go_simp
  refine hK.out _ _ ?_
  clear hK K d1 f1
  have W4 := H3.out.whole.put off (.slice x1 (N.filter (fun x => x != s)).length y1)
  have f2 := W4.free (off + 1)
  have d2 := (W4.cell (off + 1)).trans ((Array.getElem?_setIfInBounds_ne (by omega)).trans H3.out.c2)
  have HW4 := Lib.hid W4
  clear W4
  (try simp only [Act.put, List.setIfInBounds_toArray, List.set_cons_zero, List.set_cons_succ])
  refine wpParts_last (fun _ => True) trivial ?_
  (repeat (refine wpSch_yes (v := ?_) rfl (fun _ _ _ h => h) (by rfl) ?_ ?_; rotate_left; (next => (intro w hSw; clear hSw; go_simp; (try with_reducible rfl))); (try simp only [Act.put, List.setIfInBounds_toArray, List.set_cons_zero, List.set_cons_succ])))
  refine wpSch_call rfl (by rfl) (fun K hK => ?_); go_simp
  refine hK.out _ _ trivial (fun hHeld => ?_)
  clear hK K hHeld d2 f2
  (try simp only [Act.put, List.setIfInBounds_toArray, List.set_cons_zero, List.set_cons_succ])
  refine wpSch_nil ?_
  go_wp2
  go_ret
  have h3 := H3.out
  refine ⟨ret_b HB.out.symm, _, _, ⟨HW4.out.put (off + 1) _, ?_, ?_, ?_, ?_, HAP.out, h3.ne⟩, ?_, fun k e => .inr ?_, fun k e => .inr ?_⟩
  · rw [Array.getElem?_setIfInBounds_ne (by omega), Array.getElem?_setIfInBounds_self_of_lt h3.lt1]
  · rw [Array.getElem?_setIfInBounds_self_of_lt (by rw [Array.size_setIfInBounds]; exact h3.lt2)]
  · exact (P1'.out.far (p := ⟨g, off, none⟩) (P1'.out.ne h3.whole h3.ne) _).far (p := ⟨g, off + 1, none⟩) (P1'.out.ne h3.whole h3.ne) _
  · exact (P2.out.far (p := ⟨g, off, none⟩) (P2.out.ne h3.whole h3.ne) _).far (p := ⟨g, off + 1, none⟩) (P2.out.ne h3.whole h3.ne) _
  · exact ((K3.out.mono (fun _ h => h.elim)).setCell (p := ⟨g, off, none⟩) (.inl (.inl rfl)) _).setCell (p := ⟨g, off + 1, none⟩) (.inl (.inl rfl)) _
  · have := N1.out k e; omega
  · have := N2.out k e; omega

set_option maxHeartbeats 1000000 in
theorem rpush_any (T : TypeId) (g off : Nat) (cs : Array Value) (v1 v2 : Value) (N O : List Int) (s : Int) (f : Bool) (w : World) (h : RLat w T g off cs v1 v2 N O) (hok : LsOk N O) :
    Calls Try.prog 16 #[.pointer (some ⟨g, off, none⟩), .int .i64 s, .bool f] w fun e w' => e = .returned (.int .i64 (pushV N O s)) ∧ RLto w T g off cs v1 v2 (pushN N O s f) (pushO N O s f) w' := by
  have hN := hok.len1; have hO := hok.len2
  obtain ⟨v, hv⟩ : ∃ v, v = pushV N O s := ⟨_, rfl⟩
  obtain ⟨N', hN'⟩ : ∃ N', N' = pushN N O s f := ⟨_, rfl⟩
  obtain ⟨O', hO'⟩ : ∃ O', O' = pushO N O s f := ⟨_, rfl⟩
  rw [← hv, ← hN', ← hO']
  have HV := Lib.hid hv; have HNN := Lib.hid hN'; have HOO := Lib.hid hO'
  have H := Lib.hid h
  clear hv hN' hO' h hok
  have HKEEP : Hid (v ≠ 0 → RLto w T g off cs v1 v2 N' O' w) := Lib.hid fun hne => by
    have h0 : ¬ pushV N O s = 0 := by rw [← HV.out]; exact hne
    rw [HNN.out, HOO.out]
    unfold pushN pushO
    simp only [h0, false_and, if_false]
    exact H.out.to (Keep.refl _ _)
  by_cases h1 : s < 0
  · obtain rfl : v = 8 := by rw [HV.out]; unfold pushV; rw [if_pos (.inl h1)]
    go_enter Try.func16, Try.ntmps16
    go_wp2
    go_ret
    exact ⟨rfl, HKEEP.out (by decide)⟩
  by_cases h2 : 8 ≤ s
  · obtain rfl : v = 8 := by rw [HV.out]; unfold pushV; rw [if_pos (.inr h2)]
    go_enter Try.func16, Try.ntmps16
    go_wp2
    go_ret
    exact ⟨rfl, HKEEP.out (by decide)⟩
  have HP : Hid (v = if placeV N O s = 0 then 0 else 6) := Lib.hid (by
    rw [HV.out]; unfold pushV placeV
    rw [if_neg (by omega)]
    by_cases a : s ∈ N <;> by_cases b : s ∈ O <;> simp [a, b])
  have hlt : s < 8 := by omega
  obtain ⟨q, hq⟩ : ∃ q, q = placeV N O s := ⟨_, rfl⟩
  have HQ := Lib.hid hq; clear hq
  go_enter Try.func16, Try.ntmps16
  go_wp2_with fail
  refine (rplace_any T g off cs v1 v2 N O s w H.out hN hO).mono ?_
  rintro e w' ⟨rfl, rfl⟩
  rw [← HQ.out]
  by_cases hq0 : q = 0
  · subst hq0
    obtain rfl : v = 0 := by rw [HP.out, ← HQ.out]; rfl
    have hNe : N' = if f = true then N ++ [s] else N := by rw [HNN.out]; unfold pushN; simp [← HV.out]
    have hOe : O' = if f = false then O ++ [s] else O := by rw [HOO.out]; unfold pushO; simp [← HV.out]
    have HNe := Lib.hid hNe; have HOe := Lib.hid hOe
    clear hNe hOe
    obtain ⟨i0, hi, hz0, hz1, hz2⟩ := info_parts Try.infoLs
    have HI := Lib.hid hi; have HZ0 := Lib.hid hz0; have HZ1 := Lib.hid hz1; have HZ2 := Lib.hid hz2; clear hi hz0 hz1 hz2
    obtain ⟨a1, c1, hv1, ha1, hb1⟩ := H.out.o1.shape
    obtain ⟨a2, c2, hv2, ha2, hb2⟩ := H.out.o2.shape
    rw [len_iv] at hv1 hv2
    subst hv1 hv2
    have d1 := (H.out.whole.cell off).trans H.out.c1
    have d2 := (H.out.whole.cell (off + 1)).trans H.out.c2
    have HA1 : Hid (a1 = none → N.length = 0 ∧ c1 = 0) := Lib.hid (fun e => ⟨by have := congrArg List.length (ha1 e).2; simpa using this, (ha1 e).1⟩)
    have HA2 : Hid (a2 = none → O.length = 0 ∧ c2 = 0) := Lib.hid (fun e => ⟨by have := congrArg List.length (ha2 e).2; simpa using this, (ha2 e).1⟩)
    have HC1 : Hid (∀ ad, a1 = some ad → ∀ j u, (iv N)[j]? = some u → w.cell? (ad.add j) = some u) := Lib.hid (fun ad e => by obtain ⟨k, rfl⟩ := hb1 ad e; subst e; exact H.out.o1.news)
    have HC2 : Hid (∀ ad, a2 = some ad → ∀ j u, (iv O)[j]? = some u → w.cell? (ad.add j) = some u) := Lib.hid (fun ad e => by obtain ⟨k, rfl⟩ := hb2 ad e; subst e; exact H.out.o2.news)
    clear ha1 hb1 ha2 hb2
    cases f with
    | true =>
      go_wp2_with (first
        | (at_builtin; refine wpList_append_owns rfl _ _ 26 rfl 3 i0 (.int .i64 0) 8 Try.underlying26 HI.out HZ0.out HZ1.out HZ2.out rfl (.slice none 0 0) [] rfl (Owns.nil _ _) a1 N.length c1 (iv N) rfl (len_iv _) HA1.out HC1.out (one_iv _) (by unfold maxLen; simp; omega) (by simp; omega) ?_; intro u1 w1 ho1 hk1 hn1 _; rw [List.nil_append] at ho1; obtain ⟨p1, q1, hu1, _⟩ := ho1.shape; rw [len_iv] at hu1; subst hu1; have K1 : Hid (Keep (fun _ => False) w w1) := Lib.hid (hk1.mono (fun k e => by cases e)); have O1 := Lib.hid ho1; have N1 : Hid (∀ k, (Value.slice p1 N.length q1).ownBlock = some k → w.heap.size ≤ k) := Lib.hid (fun k e => by rcases hn1 k e with h | h; cases h; exact h); clear ho1 hk1 hn1)
        | (at_builtin; refine wpList_append_owns rfl _ _ 26 rfl 3 i0 (.int .i64 0) 8 Try.underlying26 HI.out HZ0.out HZ1.out HZ2.out rfl (.slice p1 N.length q1) (iv N) rfl (O1.out.alloc _) (some ⟨w1.heap.size, 0, none⟩) 1 1 [.int .i64 s] rfl rfl (fun h => (by cases h)) (one_news w1 _ _) (one_iv [s]) (by unfold maxLen; rw [len_iv]; omega) (by rw [len_iv]; omega) ?_; intro u2 w2 ho2 hk2 hn2 _; rw [app_iv] at ho2; obtain ⟨p2, q2, hu2, _⟩ := ho2.shape; rw [len_iv, List.length_append, List.length_singleton] at hu2; subst hu2; have K2 : Hid (Keep (fun _ => False) w w2) := Lib.hid ((K1.out.alloc _).then hk2 (fun i e hlt => by have := N1.out i e; omega)); have O2 := Lib.hid ho2; have N2 : Hid (∀ k, (Value.slice p2 (N.length + 1) q2).ownBlock = some k → w.heap.size ≤ k) := Lib.hid (fun k e => by rcases hn2 k e with h | h; exact N1.out k h; have := K1.out.size; simp at h; omega); have hw2 := H.out.kept K2.out; have d1 := (hw2.whole.cell off).trans hw2.c1; have f1 := hw2.whole.free off; have H2 := Lib.hid hw2; clear ho2 hk2 hn2 hw2))
      go_ret
      have h2 := H2.out
      have W3 := h2.whole.put off (.slice p2 (N.length + 1) q2)
      have hne := O2.out.ne h2.whole h2.ne
      refine ⟨rfl, .slice p2 (N.length + 1) q2, .slice a2 O.length c2, ?_, (K2.out.mono (fun _ h => h.elim)).setCell (p := ⟨g, off, none⟩) (.inl (.inl rfl)) _, fun k e => .inr (N2.out k e), fun k e => .inl e⟩
      rw [HNe.out, HOe.out, set_same (i := off + 1) (by rw [Array.getElem?_setIfInBounds_ne (by omega)]; exact h2.c2)]
      refine ⟨W3, Array.getElem?_setIfInBounds_self_of_lt h2.lt1, by rw [Array.getElem?_setIfInBounds_ne (by omega)]; exact h2.c2, O2.out.far (p := ⟨g, off, none⟩) hne _, h2.o2.far (p := ⟨g, off, none⟩) h2.n2 _, fun k e1 e2 => ?_, h2.ne⟩
      have := H.out.o2.lt e2
      have := N2.out k e1
      omega
    | false =>
      go_wp2_with (first
        | (at_builtin; refine wpList_append_owns rfl _ _ 26 rfl 3 i0 (.int .i64 0) 8 Try.underlying26 HI.out HZ0.out HZ1.out HZ2.out rfl (.slice none 0 0) [] rfl (Owns.nil _ _) a2 O.length c2 (iv O) rfl (len_iv _) HA2.out HC2.out (one_iv _) (by unfold maxLen; simp; omega) (by simp; omega) ?_; intro u1 w1 ho1 hk1 hn1 _; rw [List.nil_append] at ho1; obtain ⟨p1, q1, hu1, _⟩ := ho1.shape; rw [len_iv] at hu1; subst hu1; have K1 : Hid (Keep (fun _ => False) w w1) := Lib.hid (hk1.mono (fun k e => by cases e)); have O1 := Lib.hid ho1; have N1 : Hid (∀ k, (Value.slice p1 O.length q1).ownBlock = some k → w.heap.size ≤ k) := Lib.hid (fun k e => by rcases hn1 k e with h | h; cases h; exact h); clear ho1 hk1 hn1)
        | (at_builtin; refine wpList_append_owns rfl _ _ 26 rfl 3 i0 (.int .i64 0) 8 Try.underlying26 HI.out HZ0.out HZ1.out HZ2.out rfl (.slice p1 O.length q1) (iv O) rfl (O1.out.alloc _) (some ⟨w1.heap.size, 0, none⟩) 1 1 [.int .i64 s] rfl rfl (fun h => (by cases h)) (one_news w1 _ _) (one_iv [s]) (by unfold maxLen; rw [len_iv]; omega) (by rw [len_iv]; omega) ?_; intro u2 w2 ho2 hk2 hn2 _; rw [app_iv] at ho2; obtain ⟨p2, q2, hu2, _⟩ := ho2.shape; rw [len_iv, List.length_append, List.length_singleton] at hu2; subst hu2; have K2 : Hid (Keep (fun _ => False) w w2) := Lib.hid ((K1.out.alloc _).then hk2 (fun i e hlt => by have := N1.out i e; omega)); have O2 := Lib.hid ho2; have N2 : Hid (∀ k, (Value.slice p2 (O.length + 1) q2).ownBlock = some k → w.heap.size ≤ k) := Lib.hid (fun k e => by rcases hn2 k e with h | h; exact N1.out k h; have := K1.out.size; simp at h; omega); have hw2 := H.out.kept K2.out; have d1 := (hw2.whole.cell (off + 1)).trans hw2.c2; have f1 := hw2.whole.free (off + 1); have H2 := Lib.hid hw2; clear ho2 hk2 hn2 hw2))
      go_ret
      have h2 := H2.out
      have W3 := h2.whole.put (off + 1) (.slice p2 (O.length + 1) q2)
      have hne := O2.out.ne h2.whole h2.ne
      refine ⟨rfl, .slice a1 N.length c1, .slice p2 (O.length + 1) q2, ?_, (K2.out.mono (fun _ h => h.elim)).setCell (p := ⟨g, off + 1, none⟩) (.inl (.inl rfl)) _, fun k e => .inl e, fun k e => .inr (N2.out k e)⟩
      rw [HNe.out, HOe.out, set_same (i := off) h2.c1]
      refine ⟨W3, by rw [Array.getElem?_setIfInBounds_ne (by omega)]; exact h2.c1, Array.getElem?_setIfInBounds_self_of_lt h2.lt2, h2.o1.far (p := ⟨g, off + 1, none⟩) h2.n1 _, O2.out.far (p := ⟨g, off + 1, none⟩) hne _, fun k e1 e2 => ?_, h2.ne⟩
      have := H.out.o1.lt e1
      have := N2.out k e2
      omega
  · have hqb : (q == 0) = false := by simpa using hq0
    obtain rfl : v = 6 := by rw [HP.out, ← HQ.out, if_neg hq0]
    clear hq0
    go_wp2
    go_ret
    exact ⟨rfl, HKEEP.out (by decide)⟩
end Go.Proofs.Ytcllgfkmjleckaa
