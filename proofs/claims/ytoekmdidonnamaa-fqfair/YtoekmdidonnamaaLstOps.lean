/-
  Package lists: New, Push, Remove, Drop, Back. Conditions: the lists lie in memory as two lines of sockets, each socket once; or are nil.
-/
import Derived.Test.YtoekmdidonnamaaLst
namespace Go.Proofs.Ytoekmdidonnamaa
open Go.RowKit
set_option maxRecDepth 100000

/-- Lists in memory, of sockets, each once. -/
structure Ls (w : World) (g : Nat) (N O : List Int) : Prop where
  at_ : LsAt w g N O
  ok : LsOk N O
theorem Ls.lt {w : World} {g : Nat} {N O : List Int} (h : Ls w g N O) : g < w.heap.size := h.at_.lt
theorem Ls.keep {S : Nat → Prop} {w w' : World} {g : Nat} {N O : List Int} (h : Ls w g N O) (hk : Keep S w w') (hs : ¬ S g) : Ls w' g N O := ⟨h.at_.keep hk hs, h.ok⟩
theorem Ls.drewN {w : World} {g : Nat} {N O : List Int} (h : Ls w g N O) (n : Nat) : Ls (w.drewN n) g N O := h.keep ((Keep.refl (fun _ => False) w).drewN n) id

theorem LsC.setNew {cs cs' : Array Value} {N O N' : List Int} (h : LsC cs N O) (hl : LineC cs' 0 N') (he : Else 0 cs cs') : LsC cs' N' O := ⟨he.1.trans h.size, hl, h.old.els he (.inr (Nat.le_refl _))⟩
theorem LsC.setOld {cs cs' : Array Value} {N O O' : List Int} (h : LsC cs N O) (hl : LineC cs' 9 O') (he : Else 9 cs cs') : LsC cs' N O' := ⟨he.1.trans h.size, h.new.els he (.inl (Nat.le_refl _)), hl⟩


/-! ### Remove -/
theorem lsremove_nil (s : Int) (w : World) : Calls Try.prog 55 #[.pointer none, .int .i64 s] w fun e w' => e = .returned (.bool false) ∧ w = w' := by
  go_enter Try.func55, Try.ntmps55
  go_wp2
  go_ret
  exact ⟨rfl, rfl⟩

set_option maxHeartbeats 400000 in
theorem lsremove_any (g : Nat) (N O : List Int) (s : Int) (b : Bool) (w : World) (h : Ls w g N O) (hb : b = decide (s ∈ N ∨ s ∈ O)) :
    Calls Try.prog 55 #[.pointer (some ⟨g, 0, none⟩), .int .i64 s] w fun e w' => e = .returned (.bool b) ∧ Ls w' g (N.erase s) (O.erase s) ∧ Keep (fun k => k = g) w w' := by
  obtain ⟨⟨cs, hw, hc⟩, hok⟩ := h
  have HOK := Lib.hid hok; have HC := Lib.hid hc; have HW := Lib.hid hw; have HB := Lib.hid hb
  clear hok hc hw hb
  go_enter Try.func55, Try.ntmps55
  by_cases hs : s ∈ N
  · have HS := Lib.hid hs
    have hd : decide (s ∈ N) = true := by simpa using hs
    clear hs
    go_wp2_with fail
    refine (lremove_any g 0 cs N s w HW.out HC.out.new HOK.out.len1 true hd.symm).mono ?_
    rintro e w1 ⟨rfl, cs1, h1, l1, e1, k1⟩
    have X := Lib.hid (⟨h1, l1, e1, k1⟩ : _ ∧ _ ∧ _ ∧ _)
    clear h1 l1 e1 k1 hd
    go_wp2
    go_ret
    obtain ⟨h1, l1, e1, k1⟩ := X.out
    have hso : s ∉ O := fun ho => (List.nodup_append.1 HOK.out.once).2.2 s HS.out s ho rfl
    refine ⟨ret_b (by rw [HB.out]; simp [HS.out]), ⟨⟨cs1, h1, ?_⟩, HOK.out.erase s⟩, k1⟩
    rw [List.erase_of_not_mem hso]
    exact HC.out.setNew l1 e1
  · have HS := Lib.hid hs
    have hd : decide (s ∈ N) = false := by simpa using hs
    clear hs
    go_wp2_with fail
    refine (lremove_any g 0 cs N s w HW.out HC.out.new HOK.out.len1 false hd.symm).mono ?_
    rintro e w1 ⟨rfl, cs1, h1, l1, e1, k1⟩
    have C1 := Lib.hid (HC.out.setNew l1 e1); have H1 := Lib.hid h1; have K1 := Lib.hid k1
    clear h1 l1 e1 k1 hd
    go_wp2_with fail
    refine (lremove_any g 9 cs1 O s w1 H1.out C1.out.old HOK.out.len2 _ rfl).mono ?_
    rintro e w2 ⟨rfl, cs2, h2, l2, e2, k2⟩
    have X := Lib.hid (⟨h2, l2, e2, k2⟩ : _ ∧ _ ∧ _ ∧ _)
    clear h2 l2 e2 k2
    obtain ⟨q, hq⟩ : ∃ q, q = decide (s ∈ O) := ⟨_, rfl⟩
    rw [← hq]
    have HQ := Lib.hid hq; clear hq
    go_wp2
    go_ret
    obtain ⟨h2, l2, e2, k2⟩ := X.out
    exact ⟨ret_b (by rw [HB.out, HQ.out]; simp [HS.out]), ⟨⟨cs2, h2, C1.out.setOld l2 e2⟩, HOK.out.erase s⟩, K1.out.trans k2⟩

/-! ### Push -/
theorem lspush_nil (s : Int) (f : Bool) (w : World) : Calls Try.prog 49 #[.pointer none, .int .i64 s, .bool f] w fun e w' => e = .returned (.int .i64 2) ∧ w = w' := by
  go_enter Try.func49, Try.ntmps49
  go_wp2
  go_ret
  exact ⟨rfl, rfl⟩

set_option maxHeartbeats 1000000 in
theorem lspush_any (g : Nat) (N O : List Int) (s : Int) (f : Bool) (w : World) (h : Ls w g N O) :
    Calls Try.prog 49 #[.pointer (some ⟨g, 0, none⟩), .int .i64 s, .bool f] w fun e w' => e = .returned (.int .i64 (pushV N O s)) ∧ Ls w' g (pushN N O s f) (pushO N O s f) ∧ Keep (fun k => k = g) w w' := by
  have HOK := Lib.hid h.ok; have H := Lib.hid h
  obtain ⟨v, hv⟩ : ∃ v, v = pushV N O s := ⟨_, rfl⟩
  obtain ⟨N', hN'⟩ : ∃ N', N' = pushN N O s f := ⟨_, rfl⟩
  obtain ⟨O', hO'⟩ : ∃ O', O' = pushO N O s f := ⟨_, rfl⟩
  rw [← hv, ← hN', ← hO']
  have HV := Lib.hid hv; have HN := Lib.hid hN'; have HO := Lib.hid hO'
  clear hv hN' hO'
  have HKEEP : Hid (v ≠ 0 → ∀ {w1 : World}, Keep (fun _ => False) w w1 → Ls w1 g N' O' ∧ Keep (fun k => k = g) w w1) := Lib.hid fun hne w1 hk => by
    have h0 : ¬ pushV N O s = 0 := by rw [← HV.out]; exact hne
    refine ⟨?_, hk.mono (fun _ h => h.elim)⟩
    rw [HN.out, HO.out]
    unfold pushN pushO
    simp only [h0, false_and, if_false]
    exact H.out.keep hk id
  clear h
  by_cases h1 : s < 0
  · obtain rfl : v = 8 := by rw [HV.out]; unfold pushV; rw [if_pos (.inl h1)]
    go_enter Try.func49, Try.ntmps49
    go_wp2
    go_ret
    exact ⟨rfl, HKEEP.out (by decide) (Keep.refl _ _)⟩
  by_cases h2 : 8 ≤ s
  · obtain rfl : v = 8 := by rw [HV.out]; unfold pushV; rw [if_pos (.inr h2)]
    go_enter Try.func49, Try.ntmps49
    go_wp2
    go_ret
    exact ⟨rfl, HKEEP.out (by decide) (Keep.refl _ _)⟩
  have HP : Hid (v = if placeV N O s = 0 then 0 else 6) := Lib.hid (by
    rw [HV.out]; unfold pushV placeV
    rw [if_neg (by omega)]
    by_cases a : s ∈ N <;> by_cases b : s ∈ O <;> simp [a, b])
  have hs : 0 ≤ s ∧ s < 8 := by omega
  obtain ⟨q, hq⟩ : ∃ q, q = placeV N O s := ⟨_, rfl⟩
  have HQ := Lib.hid hq; clear hq
  have hlt : s < 8 := hs.2
  go_enter Try.func49, Try.ntmps49
  go_wp2_with fail
  refine (place_any _ N O s w H.out.at_.is HOK.out.len1 HOK.out.len2).mono ?_
  rintro e w1 ⟨rfl, k1⟩
  rw [← HQ.out]
  have K1 := Lib.hid k1; have H1 := Lib.hid (H.out.keep k1 id)
  clear k1
  by_cases hq0 : q = 0
  · subst hq0
    have hn : s ∉ N ++ O := placeV_eq.1 HQ.out.symm
    have hrm := (HOK.out.room hs hn).2
    obtain rfl : v = 0 := by rw [HP.out, ← HQ.out]; rfl
    obtain ⟨⟨cs, hw, hc⟩, _⟩ := H1.out
    have HC := Lib.hid hc; have HW := Lib.hid hw
    have hNe : N' = if f = true then N ++ [s] else N := by rw [HN.out]; unfold pushN; simp [← HV.out]
    have hOe : O' = if f = false then O ++ [s] else O := by rw [HO.out]; unfold pushO; simp [← HV.out]
    have HNN := Lib.hid hn; have HNe := Lib.hid hNe; have HOe := Lib.hid hOe
    clear hc hw hn hNe hOe
    cases f with
    | true =>
      go_wp2_with fail
      refine (lpush_any g 0 cs N s w1 HW.out HC.out.new (by omega)).mono ?_
      rintro e w2 ⟨⟨v2, rfl⟩, cs2, h2, l2, e2, k2⟩
      have X := Lib.hid (⟨h2, l2, e2, k2⟩ : _ ∧ _ ∧ _ ∧ _)
      clear h2 l2 e2 k2
      go_wp2
      go_ret
      obtain ⟨h2, l2, e2, k2⟩ := X.out
      refine ⟨rfl, ?_, (K1.out.mono (fun _ h => h.elim)).trans k2⟩
      rw [HNe.out, HOe.out]
      exact ⟨⟨cs2, h2, HC.out.setNew l2 e2⟩, HOK.out.pushNew hs HNN.out⟩
    | false =>
      go_wp2_with fail
      refine (lpush_any g 9 cs O s w1 HW.out HC.out.old (by omega)).mono ?_
      rintro e w2 ⟨⟨v2, rfl⟩, cs2, h2, l2, e2, k2⟩
      have X := Lib.hid (⟨h2, l2, e2, k2⟩ : _ ∧ _ ∧ _ ∧ _)
      clear h2 l2 e2 k2
      go_wp2
      go_ret
      obtain ⟨h2, l2, e2, k2⟩ := X.out
      refine ⟨rfl, ?_, (K1.out.mono (fun _ h => h.elim)).trans k2⟩
      rw [HNe.out, HOe.out]
      exact ⟨⟨cs2, h2, HC.out.setOld l2 e2⟩, HOK.out.pushOld hs HNN.out⟩
  · have hqb : (q == 0) = false := by simpa using hq0
    obtain rfl : v = 6 := by rw [HP.out, ← HQ.out, if_neg hq0]
    clear hq0
    go_wp2
    go_ret
    exact ⟨rfl, HKEEP.out (by decide) K1.out⟩

/-! ### Drop, Back -/
theorem lsdrop_nil (w : World) : Calls Try.prog 35 #[.pointer none] w fun e w' => e = .returned (.bool false) ∧ Keep (fun _ => False) w w' := by
  go_enter Try.func35, Try.ntmps35
  go_wp2_with fail
  refine (head_any none [] [] w (LsIs.none w) (Nat.zero_le _) (Nat.zero_le _)).mono ?_
  rintro e w1 ⟨rfl, k1⟩
  have K1 := Lib.hid k1; clear k1
  have e1 : headB [] [] = false := rfl
  rw [e1]
  go_wp2
  go_ret
  exact ⟨rfl, K1.out⟩
theorem lsback_nil (w : World) : Calls Try.prog 33 #[.pointer none] w fun e w' => e = .returned (.bool false) ∧ Keep (fun _ => False) w w' := by
  go_enter Try.func33, Try.ntmps33
  go_wp2_with fail
  refine (head_any none [] [] w (LsIs.none w) (Nat.zero_le _) (Nat.zero_le _)).mono ?_
  rintro e w1 ⟨rfl, k1⟩
  have K1 := Lib.hid k1; clear k1
  have e1 : headB [] [] = false := rfl
  rw [e1]
  go_wp2
  go_ret
  exact ⟨rfl, K1.out⟩

theorem head_mem {N O : List Int} (h : headB N O = true) : headS N O ∈ N ∨ headS N O ∈ O := by
  cases N with
  | nil =>
    cases O with
    | nil => cases h
    | cons x r => exact .inr (List.mem_cons_self ..)
  | cons x r => exact .inl (List.mem_cons_self ..)
theorem erase_both {N O : List Int} (hok : LsOk N O) (hb : headB N O = true) : N.erase (headS N O) = dropN N ∧ O.erase (headS N O) = dropO N O := by
  refine ⟨(erase_head hok hb).1, ?_⟩
  cases N with
  | nil => exact (erase_head hok hb).2
  | cons x r =>
    have : x ∉ O := fun ho => (List.nodup_append.1 hok.once).2.2 x (List.mem_cons_self ..) x ho rfl
    exact List.erase_of_not_mem this
theorem none_left {N O : List Int} (h : headB N O = false) : N = [] ∧ O = [] := by
  unfold headB at h
  simpa using h

set_option maxHeartbeats 400000 in
theorem lsdrop_any (g : Nat) (N O : List Int) (w : World) (h : Ls w g N O) :
    Calls Try.prog 35 #[.pointer (some ⟨g, 0, none⟩)] w fun e w' => e = .returned (.bool (headB N O)) ∧ Ls w' g (dropN N) (dropO N O) ∧ Keep (fun k => k = g) w w' := by
  have H := Lib.hid h; clear h
  go_enter Try.func35, Try.ntmps35
  go_wp2_with fail
  refine (head_any _ N O w H.out.at_.is H.out.ok.len1 H.out.ok.len2).mono ?_
  rintro e w1 ⟨rfl, k1⟩
  have K1 := Lib.hid k1; have H1 := Lib.hid (H.out.keep k1 id); clear k1
  obtain ⟨s, hs⟩ : ∃ s, s = headS N O := ⟨_, rfl⟩
  obtain ⟨b, hb⟩ : ∃ b, b = headB N O := ⟨_, rfl⟩
  generalize headF N O = f
  rw [← hs, ← hb]
  have HS := Lib.hid hs; have HB := Lib.hid hb
  clear hs hb
  cases b with
  | true =>
    have HM : Hid (true = decide (s ∈ N ∨ s ∈ O)) := Lib.hid (by rw [HS.out]; simp [head_mem HB.out.symm])
    go_wp2_with fail
    refine (lsremove_any g N O s true w1 H1.out HM.out).mono ?_
    rintro e w2 ⟨rfl, h2, k2⟩
    have X := Lib.hid (⟨h2, k2⟩ : _ ∧ _)
    clear h2 k2
    go_wp2
    go_ret
    obtain ⟨h2, k2⟩ := X.out
    have e2 := erase_both H.out.ok HB.out.symm
    rw [← HS.out] at e2
    rw [e2.1, e2.2] at h2
    exact ⟨ret_b HB.out, h2, (K1.out.mono (fun _ h => h.elim)).trans k2⟩
  | false =>
    go_wp2
    go_ret
    obtain ⟨rfl, rfl⟩ := none_left HB.out.symm
    exact ⟨rfl, H1.out, K1.out.mono (fun _ h => h.elim)⟩

set_option maxHeartbeats 400000 in
theorem lsback_any (g : Nat) (N O : List Int) (w : World) (h : Ls w g N O) :
    Calls Try.prog 33 #[.pointer (some ⟨g, 0, none⟩)] w fun e w' => e = .returned (.bool (headB N O)) ∧ Ls w' g (dropN N) (backO N O) ∧ Keep (fun k => k = g) w w' := by
  have H := Lib.hid h; clear h
  go_enter Try.func33, Try.ntmps33
  go_wp2_with fail
  refine (head_any _ N O w H.out.at_.is H.out.ok.len1 H.out.ok.len2).mono ?_
  rintro e w1 ⟨rfl, k1⟩
  have K1 := Lib.hid k1; have H1 := Lib.hid (H.out.keep k1 id); clear k1
  obtain ⟨s, hs⟩ : ∃ s, s = headS N O := ⟨_, rfl⟩
  obtain ⟨b, hb⟩ : ∃ b, b = headB N O := ⟨_, rfl⟩
  generalize headF N O = f
  rw [← hs, ← hb]
  have HS := Lib.hid hs; have HB := Lib.hid hb
  clear hs hb
  cases b with
  | true =>
    have HM : Hid (true = decide (s ∈ N ∨ s ∈ O)) := Lib.hid (by rw [HS.out]; simp [head_mem HB.out.symm])
    go_wp2_with fail
    refine (lsremove_any g N O s true w1 H1.out HM.out).mono ?_
    rintro e w2 ⟨rfl, h2, k2⟩
    have e2 := erase_both H.out.ok HB.out.symm
    rw [← HS.out] at e2
    rw [e2.1, e2.2] at h2
    obtain ⟨⟨cs, hw, hc⟩, hok⟩ := h2
    have hl : (dropO N O).length < 8 := by
      have hl := H.out.ok.len
      have hB := HB.out
      cases N with
      | nil =>
        cases O with
        | nil => cases hB
        | cons x r => simp [dropO] at hl ⊢; omega
      | cons x r => simp [dropO] at hl ⊢; omega
    have HC := Lib.hid hc; have HW := Lib.hid hw; have K2 := Lib.hid ((K1.out.mono (fun _ h => h.elim)).trans k2)
    clear hc hw k2 hok e2
    go_wp2_with fail
    refine (lpush_any g 9 cs (dropO N O) s w2 HW.out HC.out.old hl).mono ?_
    rintro e w3 ⟨⟨v3, rfl⟩, cs3, h3, l3, e3, k3⟩
    have X := Lib.hid (⟨h3, l3, e3, k3⟩ : _ ∧ _ ∧ _ ∧ _)
    clear h3 l3 e3 k3
    go_wp2
    go_ret
    obtain ⟨h3, l3, e3, k3⟩ := X.out
    have hbo : dropO N O ++ [s] = backO N O := by
      have hB := HB.out
      rw [HS.out]
      cases N with
      | nil =>
        cases O with
        | nil => cases hB
        | cons x r => rfl
      | cons x r => rfl
    rw [hbo] at l3
    exact ⟨ret_b HB.out, ⟨⟨cs3, h3, HC.out.setOld l3 e3⟩, H.out.ok.back⟩, K2.out.trans k3⟩
  | false =>
    go_wp2
    go_ret
    obtain ⟨rfl, rfl⟩ := none_left HB.out.symm
    exact ⟨rfl, H1.out, K1.out.mono (fun _ h => h.elim)⟩
end Go.Proofs.Ytoekmdidonnamaa
