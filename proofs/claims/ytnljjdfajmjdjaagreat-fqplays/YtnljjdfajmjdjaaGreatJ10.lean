/-
  The document's own lists (canterref04.Lists): Remove, Push, Drop, Back. Conditions: they lie in memory as two slices, each with a row of its own.
  A slice of segments that lies somewhere in a block of segments (what was in front of it has been taken away), or nil: its cells, its tail, an append. Conditions: none.
-/
import Derived.Test.YtnljjdfajmjdjaaGreatJ08
import Derived.Test.YtnljjdfajmjdjaaGreatJ09
import Derived.Test.YtnljjdfajmjdjaaGreatJ03
import Derived.Test.YtnljjdfajmjdjaaGreatChecked
namespace Go.Proofs.YtnljjdfajmjdjaaGreat
open Go.RowKit
set_option maxRecDepth 100000

theorem flt_len (l : List Int) (q : Int) : (l.filter (fun x => x != q)).length ≤ l.length := List.length_filter_le _ _

set_option maxHeartbeats 1000000 in
set_option maxRecDepth 100000 in
theorem rremove_any (T : TypeId) (g off : Nat) (cs : Array Value) (v1 v2 : Value) (N O : List Int) (s : Int) (b : Bool) (w : World) (h : RLat w T g off cs v1 v2 N O) (hok : LsOk N O) (hb : b = decide (s ∈ N ∨ s ∈ O)) :
    Calls Tryz.prog 49 #[.pointer (some ⟨g, off, none⟩), .int .i64 s] w fun e w' => e = .returned (.bool b) ∧ RLto w T g off cs v1 v2 (N.erase s) (O.erase s) w' := by
  have e1 : N.erase s = N.filter (fun x => x != s) := List.Nodup.erase_eq_filter (List.nodup_append.1 hok.once).1 s
  have e2 : O.erase s = O.filter (fun x => x != s) := List.Nodup.erase_eq_filter (List.nodup_append.1 hok.once).2.1 s
  rw [e1, e2]
  have hN := hok.len1; have hO := hok.len2
  have HB : Hid (b = (placeV N O s != 0)) := Lib.hid (by
    rw [hb]; unfold placeV
    by_cases a : s ∈ N <;> by_cases b : s ∈ O <;> simp [a, b])
  clear hb e1 e2 hok
  obtain ⟨a1, c1, hv1, _⟩ := h.o1.shape
  obtain ⟨a2, c2, hv2, _⟩ := h.o2.shape
  rw [len_iv] at hv1 hv2
  subst hv1 hv2
  have d1 := (h.whole.cell off).trans h.c1
  have d2 := (h.whole.cell (off + 1)).trans h.c2
  have H := Lib.hid h
  clear h
  go_enter Tryz.func49, Tryz.ntmps49
  go_wp2_with fail
  refine (rplace_any T g off cs _ _ N O s w H.out hN hO).mono ?_
  rintro e w' ⟨rfl, rfl⟩
  obtain ⟨q, hq⟩ : ∃ q, q = placeV N O s := ⟨_, rfl⟩
  rw [← hq] at HB ⊢
  clear hq
  obtain ⟨bb, hbb⟩ : ∃ bb, (q != 0) = bb := ⟨_, rfl⟩
  rw [hbb] at HB
  go_wp2
  refine wp_region_first [1] [([(true, 0), (true, 2), (true, 3), (true, 4), (true, 5), (true, 6), (true, 8), (true, 9), (true, 10), (true, 11), (true, 12), (false, 7), (false, 13), (true, 14), (true, 15)], 16)] [(true, 17), (true, 18), (false, 19)] (by kernel_rfl) (by kernel_rfl) (by kernel_rfl) (by kernel_rfl) (by kernel_rfl) ?_
  (repeat (refine wpFirst_yes (v := ?_) rfl (fun _ _ _ h => h) (by rfl) ?_ ?_; rotate_left; (next => (intro w; go_simp; (try with_reducible rfl))); (try simp only [Act.put, List.setIfInBounds_toArray, List.set_cons_zero, List.set_cons_succ])))
  refine wpFirst_nil ?_
  refine wpParts_part (fun W => W.cell? ⟨g, off, none⟩ = some (.slice a1 N.length c1) ∧ W.cell? ⟨g, off + 1, none⟩ = some (.slice a2 O.length c2)) ⟨d1, d2⟩ ?_
  (repeat (refine wpPart_yes (v := ?_) rfl (fun _ _ _ h => h) (by rfl) ?_ ?_; rotate_left; (next => (intro w hSw; (try dsimp only at hSw); obtain ⟨hS1, hS2⟩ := hSw; go_simp; (try with_reducible rfl))); (try simp only [Act.put, List.setIfInBounds_toArray, List.set_cons_zero, List.set_cons_succ])))
  have K1 : Hid (Keep (fun _ => False) w w.drew) := Lib.hid (Keep.refl _ w).drew
  have H1 := Lib.hid (H.out.kept K1.out)
  generalize w.drew = w1 at *
  refine wpPart_call rfl (by rfl) (fun K hK => ?_); go_simp
  refine (without_any a1 c1 N s w1 H1.out.o1 (by omega)).mono ?_
  rintro e w2 ⟨u1, rfl, p1, n1, k2⟩
  obtain ⟨x1, y1, hu1, _⟩ := p1.shape
  rw [len_iv] at hu1
  subst hu1
  have P1 := Lib.hid p1; have N1 := Lib.hid n1; have K12 := Lib.hid k2; have K2 := Lib.hid (K1.out.trans k2); have H2 := Lib.hid (H1.out.kept k2)
  clear p1 n1 k2 d1 d2
  refine hK.out _ _ ⟨(H2.out.whole.cell off).trans H2.out.c1, (H2.out.whole.cell (off + 1)).trans H2.out.c2⟩ (fun hHeld => ?_)
  clear hK K hHeld
  (try simp only [Act.put, List.setIfInBounds_toArray, List.set_cons_zero, List.set_cons_succ])
  refine wpPart_call rfl (by rfl) (fun K hK => ?_); go_simp
  refine (without_any a2 c2 O s w2 H2.out.o2 (by omega)).mono ?_
  rintro e w3 ⟨u2, rfl, p2, n2, k3⟩
  obtain ⟨x2, y2, hu2, _⟩ := p2.shape
  rw [len_iv] at hu2
  subst hu2
  have P2 := Lib.hid p2; have N2 := Lib.hid n2; have P1' := Lib.hid (P1.out.keep k3 (fun _ _ => id)); have K3 := Lib.hid (K2.out.trans k3); have H3 := Lib.hid (H2.out.kept k3)
  have HAP : Hid (∀ k, (Value.slice x1 (N.filter (fun x => x != s)).length y1).ownBlock = some k → (Value.slice x2 (O.filter (fun x => x != s)).length y2).ownBlock ≠ some k) := Lib.hid (fun k e1 e2 => by
    have := P1.out.lt e1
    have := n2 k e2
    omega)
  have hs3 : w.heap.size ≤ w2.heap.size := K2.out.size
  have hs1 : w.heap.size ≤ w1.heap.size := K1.out.size
  clear p2 n2 k3 P1
  have f1 := H3.out.whole.free off
  have d1 := (H3.out.whole.cell off).trans H3.out.c1
  refine hK.out _ _ ⟨d1, (H3.out.whole.cell (off + 1)).trans H3.out.c2⟩ (fun hHeld => ?_)
  clear hK K hHeld
  (try simp only [Act.put, List.setIfInBounds_toArray, List.set_cons_zero, List.set_cons_succ])
  (repeat (refine wpPart_yes (v := ?_) rfl (fun _ _ _ h => h) (by rfl) ?_ ?_; rotate_left; (next => (intro w hSw; (try dsimp only at hSw); obtain ⟨hS1, hS2⟩ := hSw; go_simp; (try with_reducible rfl))); (try simp only [Act.put, List.setIfInBounds_toArray, List.set_cons_zero, List.set_cons_succ])))
  refine wpPart_turn rfl (by rfl) (fun K hK => ?_); go_simp
  refine hK.out _ _ ?_
  clear hK K d1 f1
  have W4 := H3.out.whole.put off (.slice x1 (N.filter (fun x => x != s)).length y1)
  have f2 := W4.free (off + 1)
  have d2 := (W4.cell (off + 1)).trans ((Array.getElem?_setIfInBounds_ne (by omega)).trans H3.out.c2)
  have HW4 := Lib.hid W4
  clear W4
  (try simp only [Act.put, List.setIfInBounds_toArray, List.set_cons_zero, List.set_cons_succ])
  refine wpParts_last (fun _ => True) trivial ?_
  (repeat (refine wpSch_yes (v := ?_) rfl (fun _ _ _ h => h) (by rfl) ?_ ?_; rotate_left; (next => (intro w hSw; clear hSw; go_simp; (try with_reducible rfl))); (try simp only [Act.put, List.setIfInBounds_toArray, List.set_cons_zero, List.set_cons_succ])))
  refine wpSch_call rfl (by rfl) (fun K hK => ?_); go_simp
  refine hK.out _ _ trivial (fun hHeld => ?_)
  clear hK K hHeld d2 f2
  (try simp only [Act.put, List.setIfInBounds_toArray, List.set_cons_zero, List.set_cons_succ])
  refine wpSch_nil ?_
  go_wp2
  go_ret
  have h3 := H3.out
  refine ⟨ret_b HB.out.symm, _, _, ⟨HW4.out.put (off + 1) _, ?_, ?_, ?_, ?_, HAP.out, h3.ne⟩, ?_, fun k e => .inr ?_, fun k e => .inr ?_⟩
  · rw [Array.getElem?_setIfInBounds_ne (by omega), Array.getElem?_setIfInBounds_self_of_lt h3.lt1]
  · rw [Array.getElem?_setIfInBounds_self_of_lt (by rw [Array.size_setIfInBounds]; exact h3.lt2)]
  · exact (P1'.out.far (p := ⟨g, off, none⟩) (P1'.out.ne h3.whole h3.ne) _).far (p := ⟨g, off + 1, none⟩) (P1'.out.ne h3.whole h3.ne) _
  · exact (P2.out.far (p := ⟨g, off, none⟩) (P2.out.ne h3.whole h3.ne) _).far (p := ⟨g, off + 1, none⟩) (P2.out.ne h3.whole h3.ne) _
  · exact ((K3.out.mono (fun _ h => h.elim)).setCell (p := ⟨g, off, none⟩) (.inl (.inl rfl)) _).setCell (p := ⟨g, off + 1, none⟩) (.inl (.inl rfl)) _
  · have := N1.out k e; omega
  · have := N2.out k e; omega

set_option maxHeartbeats 1000000 in
theorem rpush_any (T : TypeId) (g off : Nat) (cs : Array Value) (v1 v2 : Value) (N O : List Int) (s : Int) (f : Bool) (w : World) (h : RLat w T g off cs v1 v2 N O) (hok : LsOk N O) :
    Calls Tryz.prog 56 #[.pointer (some ⟨g, off, none⟩), .int .i64 s, .bool f] w fun e w' => e = .returned (.int .i64 (pushV N O s)) ∧ RLto w T g off cs v1 v2 (pushN N O s f) (pushO N O s f) w' := by
  have hN := hok.len1; have hO := hok.len2
  obtain ⟨v, hv⟩ : ∃ v, v = pushV N O s := ⟨_, rfl⟩
  obtain ⟨N', hN'⟩ : ∃ N', N' = pushN N O s f := ⟨_, rfl⟩
  obtain ⟨O', hO'⟩ : ∃ O', O' = pushO N O s f := ⟨_, rfl⟩
  rw [← hv, ← hN', ← hO']
  have HV := Lib.hid hv; have HNN := Lib.hid hN'; have HOO := Lib.hid hO'
  have H := Lib.hid h
  clear hv hN' hO' h hok
  have HKEEP : Hid (v ≠ 0 → RLto w T g off cs v1 v2 N' O' w) := Lib.hid fun hne => by
    have h0 : ¬ pushV N O s = 0 := by rw [← HV.out]; exact hne
    rw [HNN.out, HOO.out]
    unfold pushN pushO
    simp only [h0, false_and, if_false]
    exact H.out.to (Keep.refl _ _)
  by_cases h1 : s < 0
  · obtain rfl : v = 8 := by rw [HV.out]; unfold pushV; rw [if_pos (.inl h1)]
    go_enter Tryz.func56, Tryz.ntmps56
    go_wp2
    go_ret
    exact ⟨rfl, HKEEP.out (by decide)⟩
  by_cases h2 : 8 ≤ s
  · obtain rfl : v = 8 := by rw [HV.out]; unfold pushV; rw [if_pos (.inr h2)]
    go_enter Tryz.func56, Tryz.ntmps56
    go_wp2
    go_ret
    exact ⟨rfl, HKEEP.out (by decide)⟩
  have HP : Hid (v = if placeV N O s = 0 then 0 else 6) := Lib.hid (by
    rw [HV.out]; unfold pushV placeV
    rw [if_neg (by omega)]
    by_cases a : s ∈ N <;> by_cases b : s ∈ O <;> simp [a, b])
  have hlt : s < 8 := by omega
  obtain ⟨q, hq⟩ : ∃ q, q = placeV N O s := ⟨_, rfl⟩
  have HQ := Lib.hid hq; clear hq
  go_enter Tryz.func56, Tryz.ntmps56
  go_wp2_with fail
  refine (rplace_any T g off cs v1 v2 N O s w H.out hN hO).mono ?_
  rintro e w' ⟨rfl, rfl⟩
  rw [← HQ.out]
  by_cases hq0 : q = 0
  · subst hq0
    obtain rfl : v = 0 := by rw [HP.out, ← HQ.out]; rfl
    have hNe : N' = if f = true then N ++ [s] else N := by rw [HNN.out]; unfold pushN; simp [← HV.out]
    have hOe : O' = if f = false then O ++ [s] else O := by rw [HOO.out]; unfold pushO; simp [← HV.out]
    have HNe := Lib.hid hNe; have HOe := Lib.hid hOe
    clear hNe hOe
    obtain ⟨i0, hi, hz0, hz1, hz2⟩ := info_parts Tryz.infoLs
    have HI := Lib.hid hi; have HZ0 := Lib.hid hz0; have HZ1 := Lib.hid hz1; have HZ2 := Lib.hid hz2; clear hi hz0 hz1 hz2
    obtain ⟨a1, c1, hv1, ha1, hb1⟩ := H.out.o1.shape
    obtain ⟨a2, c2, hv2, ha2, hb2⟩ := H.out.o2.shape
    rw [len_iv] at hv1 hv2
    subst hv1 hv2
    have d1 := (H.out.whole.cell off).trans H.out.c1
    have d2 := (H.out.whole.cell (off + 1)).trans H.out.c2
    have HA1 : Hid (a1 = none → N.length = 0 ∧ c1 = 0) := Lib.hid (fun e => ⟨by have := congrArg List.length (ha1 e).2; simpa using this, (ha1 e).1⟩)
    have HA2 : Hid (a2 = none → O.length = 0 ∧ c2 = 0) := Lib.hid (fun e => ⟨by have := congrArg List.length (ha2 e).2; simpa using this, (ha2 e).1⟩)
    have HC1 : Hid (∀ ad, a1 = some ad → ∀ j u, (iv N)[j]? = some u → w.cell? (ad.add j) = some u) := Lib.hid (fun ad e => by obtain ⟨k, rfl⟩ := hb1 ad e; subst e; exact H.out.o1.news)
    have HC2 : Hid (∀ ad, a2 = some ad → ∀ j u, (iv O)[j]? = some u → w.cell? (ad.add j) = some u) := Lib.hid (fun ad e => by obtain ⟨k, rfl⟩ := hb2 ad e; subst e; exact H.out.o2.news)
    clear ha1 hb1 ha2 hb2
    cases f with
    | true =>
      go_wp2_with (first
        | (at_builtin; refine wpList_append_owns rfl _ _ 37 rfl 3 i0 (.int .i64 0) 8 Tryz.underlying37 HI.out HZ0.out HZ1.out HZ2.out rfl (.slice none 0 0) [] rfl (Owns.nil _ _) a1 N.length c1 (iv N) rfl (len_iv _) HA1.out HC1.out (one_iv _) (by unfold maxLen; simp; omega) (by simp; omega) ?_; intro u1 w1 ho1 hk1 hn1 _; rw [List.nil_append] at ho1; obtain ⟨p1, q1, hu1, _⟩ := ho1.shape; rw [len_iv] at hu1; subst hu1; have K1 : Hid (Keep (fun _ => False) w w1) := Lib.hid (hk1.mono (fun k e => by cases e)); have O1 := Lib.hid ho1; have N1 : Hid (∀ k, (Value.slice p1 N.length q1).ownBlock = some k → w.heap.size ≤ k) := Lib.hid (fun k e => by rcases hn1 k e with h | h; cases h; exact h); clear ho1 hk1 hn1)
        | (at_builtin; refine wpList_append_owns rfl _ _ 37 rfl 3 i0 (.int .i64 0) 8 Tryz.underlying37 HI.out HZ0.out HZ1.out HZ2.out rfl (.slice p1 N.length q1) (iv N) rfl (O1.out.alloc _) (some ⟨w1.heap.size, 0, none⟩) 1 1 [.int .i64 s] rfl rfl (fun h => (by cases h)) (one_news w1 _ _) (one_iv [s]) (by unfold maxLen; rw [len_iv]; omega) (by rw [len_iv]; omega) ?_; intro u2 w2 ho2 hk2 hn2 _; rw [app_iv] at ho2; obtain ⟨p2, q2, hu2, _⟩ := ho2.shape; rw [len_iv, List.length_append, List.length_singleton] at hu2; subst hu2; have K2 : Hid (Keep (fun _ => False) w w2) := Lib.hid ((K1.out.alloc _).then hk2 (fun i e hlt => by have := N1.out i e; omega)); have O2 := Lib.hid ho2; have N2 : Hid (∀ k, (Value.slice p2 (N.length + 1) q2).ownBlock = some k → w.heap.size ≤ k) := Lib.hid (fun k e => by rcases hn2 k e with h | h; exact N1.out k h; have := K1.out.size; simp at h; omega); have hw2 := H.out.kept K2.out; have d1 := (hw2.whole.cell off).trans hw2.c1; have f1 := hw2.whole.free off; have H2 := Lib.hid hw2; clear ho2 hk2 hn2 hw2))
      go_ret
      have h2 := H2.out
      have W3 := h2.whole.put off (.slice p2 (N.length + 1) q2)
      have hne := O2.out.ne h2.whole h2.ne
      refine ⟨rfl, .slice p2 (N.length + 1) q2, .slice a2 O.length c2, ?_, (K2.out.mono (fun _ h => h.elim)).setCell (p := ⟨g, off, none⟩) (.inl (.inl rfl)) _, fun k e => .inr (N2.out k e), fun k e => .inl e⟩
      rw [HNe.out, HOe.out, set_same (i := off + 1) (by rw [Array.getElem?_setIfInBounds_ne (by omega)]; exact h2.c2)]
      refine ⟨W3, Array.getElem?_setIfInBounds_self_of_lt h2.lt1, by rw [Array.getElem?_setIfInBounds_ne (by omega)]; exact h2.c2, O2.out.far (p := ⟨g, off, none⟩) hne _, h2.o2.far (p := ⟨g, off, none⟩) h2.n2 _, fun k e1 e2 => ?_, h2.ne⟩
      have := H.out.o2.lt e2
      have := N2.out k e1
      omega
    | false =>
      go_wp2_with (first
        | (at_builtin; refine wpList_append_owns rfl _ _ 37 rfl 3 i0 (.int .i64 0) 8 Tryz.underlying37 HI.out HZ0.out HZ1.out HZ2.out rfl (.slice none 0 0) [] rfl (Owns.nil _ _) a2 O.length c2 (iv O) rfl (len_iv _) HA2.out HC2.out (one_iv _) (by unfold maxLen; simp; omega) (by simp; omega) ?_; intro u1 w1 ho1 hk1 hn1 _; rw [List.nil_append] at ho1; obtain ⟨p1, q1, hu1, _⟩ := ho1.shape; rw [len_iv] at hu1; subst hu1; have K1 : Hid (Keep (fun _ => False) w w1) := Lib.hid (hk1.mono (fun k e => by cases e)); have O1 := Lib.hid ho1; have N1 : Hid (∀ k, (Value.slice p1 O.length q1).ownBlock = some k → w.heap.size ≤ k) := Lib.hid (fun k e => by rcases hn1 k e with h | h; cases h; exact h); clear ho1 hk1 hn1)
        | (at_builtin; refine wpList_append_owns rfl _ _ 37 rfl 3 i0 (.int .i64 0) 8 Tryz.underlying37 HI.out HZ0.out HZ1.out HZ2.out rfl (.slice p1 O.length q1) (iv O) rfl (O1.out.alloc _) (some ⟨w1.heap.size, 0, none⟩) 1 1 [.int .i64 s] rfl rfl (fun h => (by cases h)) (one_news w1 _ _) (one_iv [s]) (by unfold maxLen; rw [len_iv]; omega) (by rw [len_iv]; omega) ?_; intro u2 w2 ho2 hk2 hn2 _; rw [app_iv] at ho2; obtain ⟨p2, q2, hu2, _⟩ := ho2.shape; rw [len_iv, List.length_append, List.length_singleton] at hu2; subst hu2; have K2 : Hid (Keep (fun _ => False) w w2) := Lib.hid ((K1.out.alloc _).then hk2 (fun i e hlt => by have := N1.out i e; omega)); have O2 := Lib.hid ho2; have N2 : Hid (∀ k, (Value.slice p2 (O.length + 1) q2).ownBlock = some k → w.heap.size ≤ k) := Lib.hid (fun k e => by rcases hn2 k e with h | h; exact N1.out k h; have := K1.out.size; simp at h; omega); have hw2 := H.out.kept K2.out; have d1 := (hw2.whole.cell (off + 1)).trans hw2.c2; have f1 := hw2.whole.free (off + 1); have H2 := Lib.hid hw2; clear ho2 hk2 hn2 hw2))
      go_ret
      have h2 := H2.out
      have W3 := h2.whole.put (off + 1) (.slice p2 (O.length + 1) q2)
      have hne := O2.out.ne h2.whole h2.ne
      refine ⟨rfl, .slice a1 N.length c1, .slice p2 (O.length + 1) q2, ?_, (K2.out.mono (fun _ h => h.elim)).setCell (p := ⟨g, off + 1, none⟩) (.inl (.inl rfl)) _, fun k e => .inl e, fun k e => .inr (N2.out k e)⟩
      rw [HNe.out, HOe.out, set_same (i := off) h2.c1]
      refine ⟨W3, by rw [Array.getElem?_setIfInBounds_ne (by omega)]; exact h2.c1, Array.getElem?_setIfInBounds_self_of_lt h2.lt2, h2.o1.far (p := ⟨g, off + 1, none⟩) h2.n1 _, O2.out.far (p := ⟨g, off + 1, none⟩) hne _, fun k e1 e2 => ?_, h2.ne⟩
      have := H.out.o1.lt e1
      have := N2.out k e2
      omega
  · have hqb : (q == 0) = false := by simpa using hq0
    obtain rfl : v = 6 := by rw [HP.out, ← HQ.out, if_neg hq0]
    clear hq0
    go_wp2
    go_ret
    exact ⟨rfl, HKEEP.out (by decide)⟩
end Go.Proofs.YtnljjdfajmjdjaaGreat
namespace Go.Proofs.YtnljjdfajmjdjaaGreat
open Go.RowKit
set_option maxRecDepth 100000

theorem Tryz.infoSg : (Tryz.prog.info? 44).map (fun i => (i.zero, i.size, i.bytes)) = some (some Sg.zero.v, 5, 40) := by kernel_rfl
/-- v holds the segments l, in a block of segments; or it is nil. -/
def SgAt (w : World) (v : Value) (l : List Sg) : Prop :=
  (v = .slice none 0 0 ∧ l = []) ∨ ∃ g o cap cur, v = .slice (some ⟨g, o, none⟩) l.length cap ∧ w.heap[g]? = some (.cells cur 44 (0, 0)) ∧ l.length ≤ cap ∧ cap ≤ maxLen ∧ o + cap * 5 ≤ cur.size ∧ ∀ j u, (flatG l)[j]? = some u → cur[o + j]? = some u
section
variable {w w' : World} {v : Value} {l : List Sg} {S : Nat → Prop}
theorem SgAt.nil (w : World) : SgAt w (.slice none 0 0) [] := .inl ⟨rfl, rfl⟩
theorem SgAt.lt (h : SgAt w v l) {k : Nat} (hk : v.ownBlock = some k) : k < w.heap.size := by
  rcases h with ⟨rfl, _⟩ | ⟨g, o, cap, cur, rfl, hg, _⟩
  · cases hk
  · obtain rfl : g = k := by simpa [Value.ownBlock] using hk
    exact (Array.getElem?_eq_some_iff.1 hg).1
theorem SgAt.keep (h : SgAt w v l) (hk : Keep S w w') (hs : ∀ k, v.ownBlock = some k → ¬ S k) : SgAt w' v l := by
  rcases h with h | ⟨g, o, cap, cur, rfl, hg, h1, h2, h3, h4⟩
  · exact .inl h
  · exact .inr ⟨g, o, cap, cur, rfl, (hk.block g (Array.getElem?_eq_some_iff.1 hg).1 (hs g rfl)).trans hg, h1, h2, h3, h4⟩
theorem SgAt.kept (h : SgAt w v l) (hk : Keep (fun _ => False) w w') : SgAt w' v l := h.keep hk (fun _ _ => id)
theorem SgAt.shape (h : SgAt w v l) : ∃ a cap, v = .slice a l.length cap ∧ (a = none → cap = 0 ∧ l = []) ∧ ∀ ad, a = some ad → ∃ g o, ad = ⟨g, o, none⟩ := by
  rcases h with ⟨rfl, rfl⟩ | ⟨g, o, cap, cur, rfl, _⟩
  · exact ⟨none, 0, rfl, fun _ => ⟨rfl, rfl⟩, fun _ h => (by cases h)⟩
  · exact ⟨_, cap, rfl, fun h => (by cases h), fun ad h => ⟨g, o, by cases h; rfl⟩⟩
/-- The cells of what is in it, as one run. -/
theorem SgAt.run {g o n cap : Nat} (h : SgAt w (.slice (some ⟨g, o, none⟩) n cap) l) : ∀ j u, (flatG l)[j]? = some u → w.cell? ⟨g, o + j, none⟩ = some u := fun j u hu => by
  rcases h with ⟨e, _⟩ | ⟨g', o', cap', cur, e, hg, _, _, _, h4⟩
  · cases e
  · cases e
    rw [cell_of_row w g (o + j) cur _ (0, 0) hg]
    exact h4 j u hu
theorem SgAt.capLe {g o n cap : Nat} (h : SgAt w (.slice (some ⟨g, o, none⟩) n cap) l) : n = l.length ∧ n ≤ cap ∧ cap ≤ maxLen := by
  rcases h with ⟨e, _⟩ | ⟨g', o', cap', cur, e, hg, h1, h2, _, _⟩
  · cases e
  · cases e; exact ⟨rfl, h1, h2⟩
/-- The first one. -/
theorem SgAt.head {x : Sg} {r : List Sg} (h : SgAt w v (x :: r)) :
    ∃ g o cap, v = .slice (some ⟨g, o, none⟩) (r.length + 1) cap ∧ r.length + 1 ≤ cap ∧ cap ≤ maxLen ∧ g < w.heap.size ∧ w.cell? ⟨g, o, none⟩ = some (.int .i64 x.s) ∧ w.cell? ⟨g, o + 1, none⟩ = some (.int .u64 x.f) ∧ w.cell? ⟨g, o + 2, none⟩ = some (.int .i64 x.l) ∧ w.cell? ⟨g, o + 3, none⟩ = some (.int .u64 x.t) ∧ w.cell? ⟨g, o + 4, none⟩ = some (.bool x.a) := by
  rcases id h with ⟨rfl, e⟩ | ⟨g, o, cap, cur, rfl, hg, h1, h2, _⟩
  · cases e
  · have hr := h.run
    exact ⟨g, o, cap, rfl, h1, h2, (Array.getElem?_eq_some_iff.1 hg).1, hr 0 _ rfl, hr 1 _ rfl, hr 2 _ rfl, hr 3 _ rfl, hr 4 _ rfl⟩
/-- The first one taken away: what a slice expression from 1 on makes. -/
theorem SgAt.tail {g o n cap : Nat} {x : Sg} {r : List Sg} (h : SgAt w (.slice (some ⟨g, o, none⟩) n cap) (x :: r)) {a : Option Addr} {m c : Nat} (hm : m = r.length) (hc : c = cap - 1)
    (ha : a = if cap = 1 then some ⟨g, o, none⟩ else some ⟨g, o + 5, none⟩) : SgAt w (.slice a m c) r := by
  rcases h with ⟨e, _⟩ | ⟨g', o', cap', cur, e, hg, h1, h2, h3, h4⟩
  · cases e
  · cases e
    subst hm hc
    simp only [List.length_cons] at h1
    by_cases e1 : cap = 1
    · have hr : r = [] := List.eq_nil_of_length_eq_zero (by omega)
      subst hr
      rw [ha, if_pos e1]
      exact .inr ⟨g, o, cap - 1, cur, rfl, hg, by simp, by omega, by omega, fun j u hu => by simp [flatG] at hu⟩
    · rw [ha, if_neg e1]
      refine .inr ⟨g, o + 5, cap - 1, cur, rfl, hg, by omega, by omega, by omega, fun j u hu => ?_⟩
      rw [Nat.add_assoc]
      refine h4 (5 + j) u ?_
      rw [flatG, List.getElem?_append_right (by simp [Sg.cells])]
      simpa [Sg.cells] using hu
theorem SgAt.of_row {n : Nat} (h : w.ownsRow 0 44 5 v n (flatG l)) (hn : n = l.length) : SgAt w v l := by
  subst hn
  rcases h.2 with ⟨rfl, h0⟩ | ⟨g, cap, cur, rfl, _, hg, hnc, hcm, hcs, htake⟩
  · exact .inl ⟨rfl, List.eq_nil_of_length_eq_zero h0⟩
  · refine .inr ⟨g, 0, cap, cur, rfl, hg, hnc, hcm, by omega, fun j u hu => ?_⟩
    rw [Nat.zero_add]
    rw [← htake, List.getElem?_take] at hu
    split at hu
    · simpa using hu
    · cases hu
/-- Some segments of a call's own are one such slice. -/
theorem SgAt.of_sgs (h : (sgsT 44 v l).at_ w) : SgAt w v l := SgAt.of_row (show w.ownsRow 0 _ 5 v l.length (flatG l) from h) rfl

/-- An append of one. -/
theorem run_append_sg {P : Program} (w : World) (t ty : TypeId) (i : TypeInfo) (ht : P.underlying t = some (.slice 44)) (hi : P.info? 44 = some i) (hz : i.zero = some Sg.zero.v) (hsize : i.size = 5) (hby : i.bytes = 40)
    {v : Value} {l : List Sg} (h : SgAt w v l) (hl : l.length ≤ 100000) (a : Addr) (c : Nat) (x : Sg) (hx : ∀ j u, x.cells[j]? = some u → w.cell? (a.add j) = some u) :
    ∃ v' w', (Builtin.append_ #[t, t] ty #[v, .slice (some a) 1 c]).run P w = .ok v' w' ∧ SgAt w' v' (l ++ [x]) ∧ Keep (fun k => v.ownBlock = some k) w w' ∧ (∀ k, v'.ownBlock = some k → v.ownBlock = some k ∨ w.heap.size ≤ k) := by
  have hlen : x.cells.length = 1 * i.size := by rw [hsize]; rfl
  rcases h with ⟨rfl, rfl⟩ | ⟨g, o, cap, cur, rfl, hg, h1, h2, h3, h4⟩
  · obtain ⟨v', w', hr, hown, hgr, _⟩ := run_append_own (P := P) w w.heap.size t ty 44 i Sg.zero.v 5 40 ht hi hz hsize hby rfl (by decide) (.slice none 0 0) 0 [] (World.ownsRow_nil _ _ _ _) a 1 c x.cells (by rw [hlen, hsize]) hx (one_sg x) (by decide) (by decide) (Nat.le_refl _)
    refine ⟨v', w', hr, ?_, (Keep.of_grown hgr).mono (fun k e => e), fun k hk => .inr (hown.lt k hk).1⟩
    have hown0 : w'.ownsRow 0 44 5 v' 1 (flatG [x]) := by
      refine ⟨by rw [flatG_len]; rfl, ?_⟩
      rcases hown.2 with h | ⟨g, cap, cur, e, _, rest⟩
      · exact .inl h
      · refine .inr ⟨g, cap, cur, e, Nat.zero_le _, ?_⟩
        rw [show flatG [x] = [] ++ x.cells by simp [flatG]]
        exact rest
    exact SgAt.of_row hown0 rfl
  · have hflat := flatG_len l
    by_cases hroom : l.length + 1 ≤ cap
    · have hf := run_firstCells_some (P := P) w i.size 1 a 1 c x.cells hlen hx
      rw [hsize] at hf
      have hcell5 : x.cells.length = 5 := rfl
      have hst := run_storeCells_at P g (o + l.length * 5) 44 x.cells 0 cur w hg (by rw [hcell5]; omega) (one_sg x)
      simp only [Nat.add_zero] at hst
      refine ⟨.slice (some ⟨g, o, none⟩) (l.length + 1) cap, w.setRow g (cur.toList.take (o + l.length * 5) ++ x.cells ++ cur.toList.drop (o + l.length * 5 + x.cells.length)).toArray, ?_, ?_, ?_, fun k hk => .inl hk⟩
      · simp [Builtin.append_, run_underlying ht, sizeOf, typeInfo, hi, Builtin.lenOf, hroom, hf, Addr.add_lit, hst, hsize]
      · refine .inr ⟨g, o, cap, _, by rw [List.length_append, List.length_singleton], setRow_heap w g cur _ _ _ hg, by rw [List.length_append, List.length_singleton]; exact hroom, h2, ?_, fun j u hu => ?_⟩
        · simp only [List.size_toArray, List.length_append, List.length_take, List.length_drop, Array.length_toList, hcell5]
          omega
        · rw [← flatG_app] at hu
          rw [List.getElem?_toArray]
          by_cases hj : j < l.length * 5
          · rw [List.getElem?_append_left (by rw [hflat]; exact hj)] at hu
            rw [List.append_assoc, List.getElem?_append_left (by rw [List.length_take, Array.length_toList (xs := cur)]; omega), List.getElem?_take_of_lt (by omega), Array.getElem?_toList]
            exact h4 j u hu
          · rw [List.getElem?_append_right (by rw [hflat]; omega), hflat] at hu
            have hj5 : j - l.length * 5 < 5 := by
              have := (List.getElem?_eq_some_iff.1 hu).1
              rwa [hcell5] at this
            rw [List.append_assoc, List.getElem?_append_right (by rw [List.length_take, Array.length_toList (xs := cur)]; omega), List.length_take, Array.length_toList (xs := cur), List.getElem?_append_left (by rw [hcell5]; omega),
              show o + j - min (o + l.length * 5) cur.size = j - l.length * 5 by omega]
            exact hu
      · exact ⟨rfl, rfl, rfl, by simp, fun k _ hk => setRow_other w g k _ (fun e => hk (by simp [Value.ownBlock, e]))⟩
    · have hr := run_append_grow (P := P) w t ty 44 i Sg.zero.v ht hi hz ⟨g, o, none⟩ l.length cap (flatG l) (by rw [hsize, flatG_len]) (fun j u hu => by
          rw [Addr.add_lit, cell_of_row w g (o + j) cur _ (0, 0) hg]; exact h4 j u hu) a 1 c x.cells hlen hx (by omega) (by omega) (growslice_fits (by omega) (by rw [hby]; omega))
      refine ⟨_, _, hr, ?_, ((Keep.refl _ w).drew).alloc _, fun k hk => .inr (by simp [Value.ownBlock] at hk; omega)⟩
      have hge := grownCap_ge w (l.length + 1) cap 44
      have hle := grownCap_le_maxLen w (l.length + 1) cap 44 (by unfold maxLen; omega)
      generalize grownCap w (l.length + 1) cap 44 = C at *
      refine .inr ⟨w.heap.size, 0, C, _, by rw [List.length_append, List.length_singleton], heap_alloc_new w.drew _, by rw [List.length_append, List.length_singleton]; exact hge, hle, ?_, fun j u hu => ?_⟩
      · simp only [Array.size_append, List.size_toArray, flatG_len, size_zeroCells]
        have : x.cells.length = 5 := rfl
        have h5 : Sg.zero.v.cells.size = 5 := rfl
        rw [h5]
        omega
      · rw [← flatG_app] at hu
        rw [Nat.zero_add, Array.getElem?_append_left (by
          have := (List.getElem?_eq_some_iff.1 hu).1
          simpa using this), List.append_toArray, List.getElem?_toArray]
        exact hu
theorem wpList_append_sg {P : Program} {w : World} {ops : Array Oper} {rest : List Oper} {o : Oper} {a : Act} {Q : Exit → Act → World → Prop} (hgd : o.guard = none) (s x : Operand) (t : TypeId)
    (ho : o.op = .call { callee := .builtin .append, args := #[s, x], argTypes := #[t, t] })
    (i : TypeInfo) (ht : P.underlying t = some (.slice 44)) (hi : P.info? 44 = some i) (hz : i.zero = some Sg.zero.v) (hsize : i.size = 5) (hby : i.bytes = 40)
    (v : Value) (l : List Sg) (hs : a.eval s = v) (h0 : SgAt w v l) (hl : l.length ≤ 100000) (ad : Addr) (c : Nat) (y : Sg) (hx : a.eval x = .slice (some ad) 1 c) (hy : ∀ j u, y.cells[j]? = some u → w.cell? (ad.add j) = some u)
    (h : ∀ v' w', SgAt w' v' (l ++ [y]) → Keep (fun k => v.ownBlock = some k) w w' → (∀ k, v'.ownBlock = some k → v.ownBlock = some k ∨ w.heap.size ≤ k) → wpList P ops Q rest (a.put o.dst v') w') : wpList P ops Q (o :: rest) a w := by
  refine wpList_plain hgd fun K hK => ?_
  obtain ⟨v', w', hr, h2, h3, h4⟩ := run_append_sg (P := P) w t o.type i ht hi hz hsize hby h0 hl ad c y hy
  unfold Oper.wp execOp
  simp only [ho, resolve, invoke, builtin, Sem.run_bind, Sem.run_pure, Result.andThen_ok, List.map_toArray, List.map_cons, List.map_nil, hs, hx, hr]
  exact hK _ _ (h v' w' h2 h3 h4)
end
end Go.Proofs.YtnljjdfajmjdjaaGreat
