/-
  Package lists: Remove, Push, Drop, Back, Head, Place of lists that lie inside a block (a field of another struct). Conditions: the lists lie so, of sockets, each once.
-/
import Derived.Test.YtoekmdidonnamaaLstOps
namespace Go.Proofs.Ytoekmdidonnamaa
open Go.RowKit
set_option maxRecDepth 100000

/-- All cells but the eighteen from off on are as they were. -/
def Else18 (off : Nat) (cs cs' : Array Value) : Prop := cs'.size = cs.size ∧ ∀ j, j < off ∨ off + 18 ≤ j → cs'[j]? = cs[j]?
theorem Else18.refl (off : Nat) (cs : Array Value) : Else18 off cs cs := ⟨rfl, fun _ _ => rfl⟩
theorem Else18.trans {off : Nat} {a b c : Array Value} (h : Else18 off a b) (k : Else18 off b c) : Else18 off a c := ⟨k.1.trans h.1, fun j hj => (k.2 j hj).trans (h.2 j hj)⟩
theorem Else.new {off : Nat} {a b : Array Value} (h : Else off a b) : Else18 off a b := ⟨h.1, fun j hj => h.2 j (by omega)⟩
theorem Else.old {off : Nat} {a b : Array Value} (h : Else (off + 9) a b) : Else18 off a b := ⟨h.1, fun j hj => h.2 j (by omega)⟩
/-- Lists in block g, from cell off on: its cells are cs. -/
structure LsW (w : World) (T : TypeId) (g off : Nat) (cs : Array Value) (N O : List Int) : Prop where
  whole : Whole w g T cs
  new : LineC cs off N
  old : LineC cs (off + 9) O
  ok : LsOk N O
/-- What a call on them leaves. -/
def LsWto (w : World) (T : TypeId) (g off : Nat) (cs : Array Value) (N' O' : List Int) (w' : World) : Prop := ∃ cs', LsW w' T g off cs' N' O' ∧ Else18 off cs cs' ∧ Keep (fun k => k = g) w w'
section
variable {T : TypeId}
theorem LsW.keep {S : Nat → Prop} {w w' : World} {g off : Nat} {cs : Array Value} {N O : List Int} (h : LsW w T g off cs N O) (hk : Keep S w w') (hs : ¬ S g) : LsW w' T g off cs N O := ⟨h.whole.keep hk hs, h.new, h.old, h.ok⟩
theorem LsW.is {w : World} {g off : Nat} {cs : Array Value} {N O : List Int} (h : LsW w T g off cs N O) : LsIs w (some ⟨g, off, none⟩) N O := .inr ⟨T, g, off, cs, rfl, h.whole, h.new, h.old⟩
theorem LsW.to {w w' : World} {g off : Nat} {cs : Array Value} {N O : List Int} (h : LsW w T g off cs N O) (hk : Keep (fun _ => False) w w') : LsWto w T g off cs N O w' := ⟨cs, h.keep hk id, Else18.refl _ _, hk.mono (fun _ h => h.elim)⟩

set_option maxHeartbeats 400000 in
theorem lpremove_any (g off : Nat) (cs : Array Value) (N O : List Int) (s : Int) (b : Bool) (w : World) (h : LsW w T g off cs N O) (hb : b = decide (s ∈ N ∨ s ∈ O)) :
    Calls Try.prog 55 #[.pointer (some ⟨g, off, none⟩), .int .i64 s] w fun e w' => e = .returned (.bool b) ∧ LsWto w T g off cs (N.erase s) (O.erase s) w' := by
  obtain ⟨hw, hn0, ho0, hok⟩ := h
  have HOK := Lib.hid hok; have HN := Lib.hid hn0; have HO := Lib.hid ho0; have HW := Lib.hid hw; have HB := Lib.hid hb
  clear hok hn0 ho0 hw hb
  go_enter Try.func55, Try.ntmps55
  by_cases hs : s ∈ N
  · have HS := Lib.hid hs
    have hd : decide (s ∈ N) = true := by simpa using hs
    clear hs
    go_wp2_with fail
    refine (lremove_any g off cs N s w HW.out HN.out HOK.out.len1 true hd.symm).mono ?_
    rintro e w1 ⟨rfl, cs1, h1, l1, e1, k1⟩
    have X := Lib.hid (⟨h1, l1, e1, k1⟩ : _ ∧ _ ∧ _ ∧ _)
    clear h1 l1 e1 k1 hd
    go_wp2
    go_ret
    obtain ⟨h1, l1, e1, k1⟩ := X.out
    have hso : s ∉ O := fun ho => (List.nodup_append.1 HOK.out.once).2.2 s HS.out s ho rfl
    refine ⟨ret_b (by rw [HB.out]; simp [HS.out]), ⟨cs1, ⟨h1, l1, ?_, HOK.out.erase s⟩, e1.new, k1⟩⟩
    rw [List.erase_of_not_mem hso]
    exact HO.out.els e1 (.inr (Nat.le_refl _))
  · have HS := Lib.hid hs
    have hd : decide (s ∈ N) = false := by simpa using hs
    clear hs
    go_wp2_with fail
    refine (lremove_any g off cs N s w HW.out HN.out HOK.out.len1 false hd.symm).mono ?_
    rintro e w1 ⟨rfl, cs1, h1, l1, e1, k1⟩
    have C1 := Lib.hid l1; have C2 := Lib.hid (HO.out.els e1 (.inr (Nat.le_refl _))); have H1 := Lib.hid h1; have K1 := Lib.hid k1; have E1 := Lib.hid e1
    clear h1 l1 e1 k1 hd
    go_wp2_with fail
    refine (lremove_any g (off + 9) cs1 O s w1 H1.out C2.out HOK.out.len2 _ rfl).mono ?_
    rintro e w2 ⟨rfl, cs2, h2, l2, e2, k2⟩
    have X := Lib.hid (⟨h2, l2, e2, k2⟩ : _ ∧ _ ∧ _ ∧ _)
    clear h2 l2 e2 k2
    obtain ⟨q, hq⟩ : ∃ q, q = decide (s ∈ O) := ⟨_, rfl⟩
    rw [← hq]
    have HQ := Lib.hid hq; clear hq
    go_wp2
    go_ret
    obtain ⟨h2, l2, e2, k2⟩ := X.out
    exact ⟨ret_b (by rw [HB.out, HQ.out]; simp [HS.out]), ⟨cs2, ⟨h2, C1.out.els e2 (.inl (Nat.le_refl _)), l2, HOK.out.erase s⟩, E1.out.new.trans e2.old, K1.out.trans k2⟩⟩

set_option maxHeartbeats 1000000 in
theorem lppush_any (g off : Nat) (cs : Array Value) (N O : List Int) (s : Int) (f : Bool) (w : World) (h : LsW w T g off cs N O) :
    Calls Try.prog 49 #[.pointer (some ⟨g, off, none⟩), .int .i64 s, .bool f] w fun e w' => e = .returned (.int .i64 (pushV N O s)) ∧ LsWto w T g off cs (pushN N O s f) (pushO N O s f) w' := by
  have HOK := Lib.hid h.ok; have H := Lib.hid h
  obtain ⟨v, hv⟩ : ∃ v, v = pushV N O s := ⟨_, rfl⟩
  obtain ⟨N', hN'⟩ : ∃ N', N' = pushN N O s f := ⟨_, rfl⟩
  obtain ⟨O', hO'⟩ : ∃ O', O' = pushO N O s f := ⟨_, rfl⟩
  rw [← hv, ← hN', ← hO']
  have HV := Lib.hid hv; have HN := Lib.hid hN'; have HO := Lib.hid hO'
  clear hv hN' hO'
  have HKEEP : Hid (v ≠ 0 → ∀ {w1 : World}, Keep (fun _ => False) w w1 → LsWto w T g off cs N' O' w1) := Lib.hid fun hne w1 hk => by
    have h0 : ¬ pushV N O s = 0 := by rw [← HV.out]; exact hne
    rw [HN.out, HO.out]
    unfold pushN pushO
    simp only [h0, false_and, if_false]
    exact H.out.to hk
  clear h
  by_cases h1 : s < 0
  · obtain rfl : v = 8 := by rw [HV.out]; unfold pushV; rw [if_pos (.inl h1)]
    go_enter Try.func49, Try.ntmps49
    go_wp2
    go_ret
    exact ⟨rfl, HKEEP.out (by decide) (Keep.refl _ _)⟩
  by_cases h2 : 8 ≤ s
  · obtain rfl : v = 8 := by rw [HV.out]; unfold pushV; rw [if_pos (.inr h2)]
    go_enter Try.func49, Try.ntmps49
    go_wp2
    go_ret
    exact ⟨rfl, HKEEP.out (by decide) (Keep.refl _ _)⟩
  have HP : Hid (v = if placeV N O s = 0 then 0 else 6) := Lib.hid (by
    rw [HV.out]; unfold pushV placeV
    rw [if_neg (by omega)]
    by_cases a : s ∈ N <;> by_cases b : s ∈ O <;> simp [a, b])
  have hs : 0 ≤ s ∧ s < 8 := by omega
  obtain ⟨q, hq⟩ : ∃ q, q = placeV N O s := ⟨_, rfl⟩
  have HQ := Lib.hid hq; clear hq
  have hlt : s < 8 := hs.2
  go_enter Try.func49, Try.ntmps49
  go_wp2_with fail
  refine (place_any _ N O s w H.out.is HOK.out.len1 HOK.out.len2).mono ?_
  rintro e w1 ⟨rfl, k1⟩
  rw [← HQ.out]
  have K1 := Lib.hid k1; have H1 := Lib.hid (H.out.keep k1 id)
  clear k1
  by_cases hq0 : q = 0
  · subst hq0
    have hn : s ∉ N ++ O := placeV_eq.1 HQ.out.symm
    have hrm := (HOK.out.room hs hn).2
    obtain rfl : v = 0 := by rw [HP.out, ← HQ.out]; rfl
    obtain ⟨hw, hn0, ho0, _⟩ := H1.out
    have HC := Lib.hid hn0; have HD := Lib.hid ho0; have HW := Lib.hid hw
    have hNe : N' = if f = true then N ++ [s] else N := by rw [HN.out]; unfold pushN; simp [← HV.out]
    have hOe : O' = if f = false then O ++ [s] else O := by rw [HO.out]; unfold pushO; simp [← HV.out]
    have HNN := Lib.hid hn; have HNe := Lib.hid hNe; have HOe := Lib.hid hOe
    clear hn0 ho0 hw hn hNe hOe
    cases f with
    | true =>
      go_wp2_with fail
      refine (lpush_any g off cs N s w1 HW.out HC.out (by omega)).mono ?_
      rintro e w2 ⟨⟨v2, rfl⟩, cs2, h2, l2, e2, k2⟩
      have X := Lib.hid (⟨h2, l2, e2, k2⟩ : _ ∧ _ ∧ _ ∧ _)
      clear h2 l2 e2 k2
      go_wp2
      go_ret
      obtain ⟨h2, l2, e2, k2⟩ := X.out
      refine ⟨rfl, ?_⟩
      rw [HNe.out, HOe.out]
      exact ⟨cs2, ⟨h2, l2, HD.out.els e2 (.inr (Nat.le_refl _)), HOK.out.pushNew hs HNN.out⟩, e2.new, (K1.out.mono (fun _ h => h.elim)).trans k2⟩
    | false =>
      go_wp2_with fail
      refine (lpush_any g (off + 9) cs O s w1 HW.out HD.out (by omega)).mono ?_
      rintro e w2 ⟨⟨v2, rfl⟩, cs2, h2, l2, e2, k2⟩
      have X := Lib.hid (⟨h2, l2, e2, k2⟩ : _ ∧ _ ∧ _ ∧ _)
      clear h2 l2 e2 k2
      go_wp2
      go_ret
      obtain ⟨h2, l2, e2, k2⟩ := X.out
      refine ⟨rfl, ?_⟩
      rw [HNe.out, HOe.out]
      exact ⟨cs2, ⟨h2, HC.out.els e2 (.inl (Nat.le_refl _)), l2, HOK.out.pushOld hs HNN.out⟩, e2.old, (K1.out.mono (fun _ h => h.elim)).trans k2⟩
  · have hqb : (q == 0) = false := by simpa using hq0
    obtain rfl : v = 6 := by rw [HP.out, ← HQ.out, if_neg hq0]
    clear hq0
    go_wp2
    go_ret
    exact ⟨rfl, HKEEP.out (by decide) K1.out⟩

set_option maxHeartbeats 400000 in
theorem lpdrop_any (g off : Nat) (cs : Array Value) (N O : List Int) (w : World) (h : LsW w T g off cs N O) :
    Calls Try.prog 35 #[.pointer (some ⟨g, off, none⟩)] w fun e w' => e = .returned (.bool (headB N O)) ∧ LsWto w T g off cs (dropN N) (dropO N O) w' := by
  have H := Lib.hid h; clear h
  go_enter Try.func35, Try.ntmps35
  go_wp2_with fail
  refine (head_any _ N O w H.out.is H.out.ok.len1 H.out.ok.len2).mono ?_
  rintro e w1 ⟨rfl, k1⟩
  have K1 := Lib.hid k1; have H1 := Lib.hid (H.out.keep k1 id); clear k1
  obtain ⟨s, hs⟩ : ∃ s, s = headS N O := ⟨_, rfl⟩
  obtain ⟨b, hb⟩ : ∃ b, b = headB N O := ⟨_, rfl⟩
  generalize headF N O = f
  rw [← hs, ← hb]
  have HS := Lib.hid hs; have HB := Lib.hid hb
  clear hs hb
  cases b with
  | true =>
    have HM : Hid (true = decide (s ∈ N ∨ s ∈ O)) := Lib.hid (by rw [HS.out]; simp [head_mem HB.out.symm])
    go_wp2_with fail
    refine (lpremove_any g off cs N O s true w1 H1.out HM.out).mono ?_
    rintro e w2 ⟨rfl, h2⟩
    have X := Lib.hid h2
    clear h2
    go_wp2
    go_ret
    obtain ⟨cs2, h2, q2, k2⟩ := X.out
    have e2 := erase_both H.out.ok HB.out.symm
    rw [← HS.out] at e2
    rw [e2.1, e2.2] at h2
    exact ⟨ret_b HB.out, cs2, h2, q2, (K1.out.mono (fun _ h => h.elim)).trans k2⟩
  | false =>
    go_wp2
    go_ret
    obtain ⟨rfl, rfl⟩ := none_left HB.out.symm
    exact ⟨rfl, H.out.to K1.out⟩

set_option maxHeartbeats 400000 in
theorem lpback_any (g off : Nat) (cs : Array Value) (N O : List Int) (w : World) (h : LsW w T g off cs N O) :
    Calls Try.prog 33 #[.pointer (some ⟨g, off, none⟩)] w fun e w' => e = .returned (.bool (headB N O)) ∧ LsWto w T g off cs (dropN N) (backO N O) w' := by
  have H := Lib.hid h; clear h
  go_enter Try.func33, Try.ntmps33
  go_wp2_with fail
  refine (head_any _ N O w H.out.is H.out.ok.len1 H.out.ok.len2).mono ?_
  rintro e w1 ⟨rfl, k1⟩
  have K1 := Lib.hid k1; have H1 := Lib.hid (H.out.keep k1 id); clear k1
  obtain ⟨s, hs⟩ : ∃ s, s = headS N O := ⟨_, rfl⟩
  obtain ⟨b, hb⟩ : ∃ b, b = headB N O := ⟨_, rfl⟩
  generalize headF N O = f
  rw [← hs, ← hb]
  have HS := Lib.hid hs; have HB := Lib.hid hb
  clear hs hb
  cases b with
  | true =>
    have HM : Hid (true = decide (s ∈ N ∨ s ∈ O)) := Lib.hid (by rw [HS.out]; simp [head_mem HB.out.symm])
    go_wp2_with fail
    refine (lpremove_any g off cs N O s true w1 H1.out HM.out).mono ?_
    rintro e w2 ⟨rfl, cs2, h2, q2, k2⟩
    have e2 := erase_both H.out.ok HB.out.symm
    rw [← HS.out] at e2
    rw [e2.1, e2.2] at h2
    obtain ⟨hw, hn0, ho0, hok⟩ := h2
    have hl : (dropO N O).length < 8 := by
      have hl := H.out.ok.len
      have hB := HB.out
      cases N with
      | nil =>
        cases O with
        | nil => cases hB
        | cons x r => simp [dropO] at hl ⊢; omega
      | cons x r => simp [dropO] at hl ⊢; omega
    have HC := Lib.hid hn0; have HD := Lib.hid ho0; have Q2 := Lib.hid q2; have HW := Lib.hid hw; have K2 := Lib.hid ((K1.out.mono (fun _ h => h.elim)).trans k2)
    clear hn0 ho0 q2 hw k2 hok e2
    go_wp2_with fail
    refine (lpush_any g (off + 9) cs2 (dropO N O) s w2 HW.out HD.out hl).mono ?_
    rintro e w3 ⟨⟨v3, rfl⟩, cs3, h3, l3, e3, k3⟩
    have X := Lib.hid (⟨h3, l3, e3, k3⟩ : _ ∧ _ ∧ _ ∧ _)
    clear h3 l3 e3 k3
    go_wp2
    go_ret
    obtain ⟨h3, l3, e3, k3⟩ := X.out
    have hbo : dropO N O ++ [s] = backO N O := by
      have hB := HB.out
      rw [HS.out]
      cases N with
      | nil =>
        cases O with
        | nil => cases hB
        | cons x r => rfl
      | cons x r => rfl
    rw [hbo] at l3
    exact ⟨ret_b HB.out, ⟨cs3, ⟨h3, HC.out.els e3 (.inl (Nat.le_refl _)), l3, H.out.ok.back⟩, Q2.out.trans e3.old, K2.out.trans k3⟩⟩
  | false =>
    go_wp2
    go_ret
    obtain ⟨rfl, rfl⟩ := none_left HB.out.symm
    exact ⟨rfl, H.out.to K1.out⟩
end
end Go.Proofs.Ytoekmdidonnamaa
