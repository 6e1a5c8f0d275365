/-
  Package lists: Remove, Push, Drop, Back, Head, Place of lists that lie inside a block (a field of another struct). Conditions: the lists lie so, of sockets, each once.
  Package fq's queue in memory: its block (config, flows, lists, the tree's pointer), the tree of those that wait, a slice of segments for each flow, all apart. Conditions: none.
  Those that wait, woken by rising keys: the same as the document's. No program is spoken of. Conditions: none.
-/
import Derived.Test.YtnljjdfajmjdjaaJ17
import Derived.Test.YtnljjdfajmjdjaaJ03
import Derived.Test.YtnljjdfajmjdjaaJ14
namespace Go.Proofs.Ytnljjdfajmjdjaa
open Go.RowKit
set_option maxRecDepth 100000

/-- All cells but the eighteen from off on are as they were. -/
def Else18 (off : Nat) (cs cs' : Array Value) : Prop := cs'.size = cs.size ∧ ∀ j, j < off ∨ off + 18 ≤ j → cs'[j]? = cs[j]?
theorem Else18.refl (off : Nat) (cs : Array Value) : Else18 off cs cs := ⟨rfl, fun _ _ => rfl⟩
theorem Else18.trans {off : Nat} {a b c : Array Value} (h : Else18 off a b) (k : Else18 off b c) : Else18 off a c := ⟨k.1.trans h.1, fun j hj => (k.2 j hj).trans (h.2 j hj)⟩
theorem Else.new {off : Nat} {a b : Array Value} (h : Else off a b) : Else18 off a b := ⟨h.1, fun j hj => h.2 j (by omega)⟩
theorem Else.old {off : Nat} {a b : Array Value} (h : Else (off + 9) a b) : Else18 off a b := ⟨h.1, fun j hj => h.2 j (by omega)⟩
/-- Lists in block g, from cell off on: its cells are cs. -/
structure LsW (w : World) (T : TypeId) (g off : Nat) (cs : Array Value) (N O : List Int) : Prop where
  whole : Whole w g T cs
  new : LineC cs off N
  old : LineC cs (off + 9) O
  ok : LsOk N O
/-- What a call on them leaves. -/
def LsWto (w : World) (T : TypeId) (g off : Nat) (cs : Array Value) (N' O' : List Int) (w' : World) : Prop := ∃ cs', LsW w' T g off cs' N' O' ∧ Else18 off cs cs' ∧ Keep (fun k => k = g) w w'
section
variable {T : TypeId}
theorem LsW.keep {S : Nat → Prop} {w w' : World} {g off : Nat} {cs : Array Value} {N O : List Int} (h : LsW w T g off cs N O) (hk : Keep S w w') (hs : ¬ S g) : LsW w' T g off cs N O := ⟨h.whole.keep hk hs, h.new, h.old, h.ok⟩
theorem LsW.is {w : World} {g off : Nat} {cs : Array Value} {N O : List Int} (h : LsW w T g off cs N O) : LsIs w (some ⟨g, off, none⟩) N O := .inr ⟨T, g, off, cs, rfl, h.whole, h.new, h.old⟩
theorem LsW.to {w w' : World} {g off : Nat} {cs : Array Value} {N O : List Int} (h : LsW w T g off cs N O) (hk : Keep (fun _ => False) w w') : LsWto w T g off cs N O w' := ⟨cs, h.keep hk id, Else18.refl _ _, hk.mono (fun _ h => h.elim)⟩

set_option maxHeartbeats 400000 in
theorem lpremove_any (g off : Nat) (cs : Array Value) (N O : List Int) (s : Int) (b : Bool) (w : World) (h : LsW w T g off cs N O) (hb : b = decide (s ∈ N ∨ s ∈ O)) :
    Calls Try.prog 53 #[.pointer (some ⟨g, off, none⟩), .int .i64 s] w fun e w' => e = .returned (.bool b) ∧ LsWto w T g off cs (N.erase s) (O.erase s) w' := by
  obtain ⟨hw, hn0, ho0, hok⟩ := h
  have HOK := Lib.hid hok; have HN := Lib.hid hn0; have HO := Lib.hid ho0; have HW := Lib.hid hw; have HB := Lib.hid hb
  clear hok hn0 ho0 hw hb
  go_enter Try.func53, Try.ntmps53
  by_cases hs : s ∈ N
  · have HS := Lib.hid hs
    have hd : decide (s ∈ N) = true := by simpa using hs
    clear hs
    go_wp2_with fail
    refine (lremove_any g off cs N s w HW.out HN.out HOK.out.len1 true hd.symm).mono ?_
    rintro e w1 ⟨rfl, cs1, h1, l1, e1, k1⟩
    have X := Lib.hid (⟨h1, l1, e1, k1⟩ : _ ∧ _ ∧ _ ∧ _)
    clear h1 l1 e1 k1 hd
    go_wp2
    go_ret
    obtain ⟨h1, l1, e1, k1⟩ := X.out
    have hso : s ∉ O := fun ho => (List.nodup_append.1 HOK.out.once).2.2 s HS.out s ho rfl
    refine ⟨ret_b (by rw [HB.out]; simp [HS.out]), ⟨cs1, ⟨h1, l1, ?_, HOK.out.erase s⟩, e1.new, k1⟩⟩
    rw [List.erase_of_not_mem hso]
    exact HO.out.els e1 (.inr (Nat.le_refl _))
  · have HS := Lib.hid hs
    have hd : decide (s ∈ N) = false := by simpa using hs
    clear hs
    go_wp2_with fail
    refine (lremove_any g off cs N s w HW.out HN.out HOK.out.len1 false hd.symm).mono ?_
    rintro e w1 ⟨rfl, cs1, h1, l1, e1, k1⟩
    have C1 := Lib.hid l1; have C2 := Lib.hid (HO.out.els e1 (.inr (Nat.le_refl _))); have H1 := Lib.hid h1; have K1 := Lib.hid k1; have E1 := Lib.hid e1
    clear h1 l1 e1 k1 hd
    go_wp2_with fail
    refine (lremove_any g (off + 9) cs1 O s w1 H1.out C2.out HOK.out.len2 _ rfl).mono ?_
    rintro e w2 ⟨rfl, cs2, h2, l2, e2, k2⟩
    have X := Lib.hid (⟨h2, l2, e2, k2⟩ : _ ∧ _ ∧ _ ∧ _)
    clear h2 l2 e2 k2
    obtain ⟨q, hq⟩ : ∃ q, q = decide (s ∈ O) := ⟨_, rfl⟩
    rw [← hq]
    have HQ := Lib.hid hq; clear hq
    go_wp2
    go_ret
    obtain ⟨h2, l2, e2, k2⟩ := X.out
    exact ⟨ret_b (by rw [HB.out, HQ.out]; simp [HS.out]), ⟨cs2, ⟨h2, C1.out.els e2 (.inl (Nat.le_refl _)), l2, HOK.out.erase s⟩, E1.out.new.trans e2.old, K1.out.trans k2⟩⟩

set_option maxHeartbeats 1000000 in
theorem lppush_any (g off : Nat) (cs : Array Value) (N O : List Int) (s : Int) (f : Bool) (w : World) (h : LsW w T g off cs N O) :
    Calls Try.prog 59 #[.pointer (some ⟨g, off, none⟩), .int .i64 s, .bool f] w fun e w' => e = .returned (.int .i64 (pushV N O s)) ∧ LsWto w T g off cs (pushN N O s f) (pushO N O s f) w' := by
  have HOK := Lib.hid h.ok; have H := Lib.hid h
  obtain ⟨v, hv⟩ : ∃ v, v = pushV N O s := ⟨_, rfl⟩
  obtain ⟨N', hN'⟩ : ∃ N', N' = pushN N O s f := ⟨_, rfl⟩
  obtain ⟨O', hO'⟩ : ∃ O', O' = pushO N O s f := ⟨_, rfl⟩
  rw [← hv, ← hN', ← hO']
  have HV := Lib.hid hv; have HN := Lib.hid hN'; have HO := Lib.hid hO'
  clear hv hN' hO'
  have HKEEP : Hid (v ≠ 0 → ∀ {w1 : World}, Keep (fun _ => False) w w1 → LsWto w T g off cs N' O' w1) := Lib.hid fun hne w1 hk => by
    have h0 : ¬ pushV N O s = 0 := by rw [← HV.out]; exact hne
    rw [HN.out, HO.out]
    unfold pushN pushO
    simp only [h0, false_and, if_false]
    exact H.out.to hk
  clear h
  by_cases h1 : s < 0
  · obtain rfl : v = 8 := by rw [HV.out]; unfold pushV; rw [if_pos (.inl h1)]
    go_enter Try.func59, Try.ntmps59
    go_wp2
    go_ret
    exact ⟨rfl, HKEEP.out (by decide) (Keep.refl _ _)⟩
  by_cases h2 : 8 ≤ s
  · obtain rfl : v = 8 := by rw [HV.out]; unfold pushV; rw [if_pos (.inr h2)]
    go_enter Try.func59, Try.ntmps59
    go_wp2
    go_ret
    exact ⟨rfl, HKEEP.out (by decide) (Keep.refl _ _)⟩
  have HP : Hid (v = if placeV N O s = 0 then 0 else 6) := Lib.hid (by
    rw [HV.out]; unfold pushV placeV
    rw [if_neg (by omega)]
    by_cases a : s ∈ N <;> by_cases b : s ∈ O <;> simp [a, b])
  have hs : 0 ≤ s ∧ s < 8 := by omega
  obtain ⟨q, hq⟩ : ∃ q, q = placeV N O s := ⟨_, rfl⟩
  have HQ := Lib.hid hq; clear hq
  have hlt : s < 8 := hs.2
  go_enter Try.func59, Try.ntmps59
  go_wp2_with fail
  refine (place_any _ N O s w H.out.is HOK.out.len1 HOK.out.len2).mono ?_
  rintro e w1 ⟨rfl, k1⟩
  rw [← HQ.out]
  have K1 := Lib.hid k1; have H1 := Lib.hid (H.out.keep k1 id)
  clear k1
  by_cases hq0 : q = 0
  · subst hq0
    have hn : s ∉ N ++ O := placeV_eq.1 HQ.out.symm
    have hrm := (HOK.out.room hs hn).2
    obtain rfl : v = 0 := by rw [HP.out, ← HQ.out]; rfl
    obtain ⟨hw, hn0, ho0, _⟩ := H1.out
    have HC := Lib.hid hn0; have HD := Lib.hid ho0; have HW := Lib.hid hw
    have hNe : N' = if f = true then N ++ [s] else N := by rw [HN.out]; unfold pushN; simp [← HV.out]
    have hOe : O' = if f = false then O ++ [s] else O := by rw [HO.out]; unfold pushO; simp [← HV.out]
    have HNN := Lib.hid hn; have HNe := Lib.hid hNe; have HOe := Lib.hid hOe
    clear hn0 ho0 hw hn hNe hOe
    cases f with
    | true =>
      go_wp2_with fail
      refine (lpush_any g off cs N s w1 HW.out HC.out (by omega)).mono ?_
      rintro e w2 ⟨⟨v2, rfl⟩, cs2, h2, l2, e2, k2⟩
      have X := Lib.hid (⟨h2, l2, e2, k2⟩ : _ ∧ _ ∧ _ ∧ _)
      clear h2 l2 e2 k2
      go_wp2
      go_ret
      obtain ⟨h2, l2, e2, k2⟩ := X.out
      refine ⟨rfl, ?_⟩
      rw [HNe.out, HOe.out]
      exact ⟨cs2, ⟨h2, l2, HD.out.els e2 (.inr (Nat.le_refl _)), HOK.out.pushNew hs HNN.out⟩, e2.new, (K1.out.mono (fun _ h => h.elim)).trans k2⟩
    | false =>
      go_wp2_with fail
      refine (lpush_any g (off + 9) cs O s w1 HW.out HD.out (by omega)).mono ?_
      rintro e w2 ⟨⟨v2, rfl⟩, cs2, h2, l2, e2, k2⟩
      have X := Lib.hid (⟨h2, l2, e2, k2⟩ : _ ∧ _ ∧ _ ∧ _)
      clear h2 l2 e2 k2
      go_wp2
      go_ret
      obtain ⟨h2, l2, e2, k2⟩ := X.out
      refine ⟨rfl, ?_⟩
      rw [HNe.out, HOe.out]
      exact ⟨cs2, ⟨h2, HC.out.els e2 (.inl (Nat.le_refl _)), l2, HOK.out.pushOld hs HNN.out⟩, e2.old, (K1.out.mono (fun _ h => h.elim)).trans k2⟩
  · have hqb : (q == 0) = false := by simpa using hq0
    obtain rfl : v = 6 := by rw [HP.out, ← HQ.out, if_neg hq0]
    clear hq0
    go_wp2
    go_ret
    exact ⟨rfl, HKEEP.out (by decide) K1.out⟩

set_option maxHeartbeats 400000 in
theorem lpdrop_any (g off : Nat) (cs : Array Value) (N O : List Int) (w : World) (h : LsW w T g off cs N O) :
    Calls Try.prog 44 #[.pointer (some ⟨g, off, none⟩)] w fun e w' => e = .returned (.bool (headB N O)) ∧ LsWto w T g off cs (dropN N) (dropO N O) w' := by
  have H := Lib.hid h; clear h
  go_enter Try.func44, Try.ntmps44
  go_wp2_with fail
  refine (head_any _ N O w H.out.is H.out.ok.len1 H.out.ok.len2).mono ?_
  rintro e w1 ⟨rfl, k1⟩
  have K1 := Lib.hid k1; have H1 := Lib.hid (H.out.keep k1 id); clear k1
  obtain ⟨s, hs⟩ : ∃ s, s = headS N O := ⟨_, rfl⟩
  obtain ⟨b, hb⟩ : ∃ b, b = headB N O := ⟨_, rfl⟩
  generalize headF N O = f
  rw [← hs, ← hb]
  have HS := Lib.hid hs; have HB := Lib.hid hb
  clear hs hb
  cases b with
  | true =>
    have HM : Hid (true = decide (s ∈ N ∨ s ∈ O)) := Lib.hid (by rw [HS.out]; simp [head_mem HB.out.symm])
    go_wp2_with fail
    refine (lpremove_any g off cs N O s true w1 H1.out HM.out).mono ?_
    rintro e w2 ⟨rfl, h2⟩
    have X := Lib.hid h2
    clear h2
    go_wp2
    go_ret
    obtain ⟨cs2, h2, q2, k2⟩ := X.out
    have e2 := erase_both H.out.ok HB.out.symm
    rw [← HS.out] at e2
    rw [e2.1, e2.2] at h2
    exact ⟨ret_b HB.out, cs2, h2, q2, (K1.out.mono (fun _ h => h.elim)).trans k2⟩
  | false =>
    go_wp2
    go_ret
    obtain ⟨rfl, rfl⟩ := none_left HB.out.symm
    exact ⟨rfl, H.out.to K1.out⟩

set_option maxHeartbeats 400000 in
theorem lpback_any (g off : Nat) (cs : Array Value) (N O : List Int) (w : World) (h : LsW w T g off cs N O) :
    Calls Try.prog 42 #[.pointer (some ⟨g, off, none⟩)] w fun e w' => e = .returned (.bool (headB N O)) ∧ LsWto w T g off cs (dropN N) (backO N O) w' := by
  have H := Lib.hid h; clear h
  go_enter Try.func42, Try.ntmps42
  go_wp2_with fail
  refine (head_any _ N O w H.out.is H.out.ok.len1 H.out.ok.len2).mono ?_
  rintro e w1 ⟨rfl, k1⟩
  have K1 := Lib.hid k1; have H1 := Lib.hid (H.out.keep k1 id); clear k1
  obtain ⟨s, hs⟩ : ∃ s, s = headS N O := ⟨_, rfl⟩
  obtain ⟨b, hb⟩ : ∃ b, b = headB N O := ⟨_, rfl⟩
  generalize headF N O = f
  rw [← hs, ← hb]
  have HS := Lib.hid hs; have HB := Lib.hid hb
  clear hs hb
  cases b with
  | true =>
    have HM : Hid (true = decide (s ∈ N ∨ s ∈ O)) := Lib.hid (by rw [HS.out]; simp [head_mem HB.out.symm])
    go_wp2_with fail
    refine (lpremove_any g off cs N O s true w1 H1.out HM.out).mono ?_
    rintro e w2 ⟨rfl, cs2, h2, q2, k2⟩
    have e2 := erase_both H.out.ok HB.out.symm
    rw [← HS.out] at e2
    rw [e2.1, e2.2] at h2
    obtain ⟨hw, hn0, ho0, hok⟩ := h2
    have hl : (dropO N O).length < 8 := by
      have hl := H.out.ok.len
      have hB := HB.out
      cases N with
      | nil =>
        cases O with
        | nil => cases hB
        | cons x r => simp [dropO] at hl ⊢; omega
      | cons x r => simp [dropO] at hl ⊢; omega
    have HC := Lib.hid hn0; have HD := Lib.hid ho0; have Q2 := Lib.hid q2; have HW := Lib.hid hw; have K2 := Lib.hid ((K1.out.mono (fun _ h => h.elim)).trans k2)
    clear hn0 ho0 q2 hw k2 hok e2
    go_wp2_with fail
    refine (lpush_any g (off + 9) cs2 (dropO N O) s w2 HW.out HD.out hl).mono ?_
    rintro e w3 ⟨⟨v3, rfl⟩, cs3, h3, l3, e3, k3⟩
    have X := Lib.hid (⟨h3, l3, e3, k3⟩ : _ ∧ _ ∧ _ ∧ _)
    clear h3 l3 e3 k3
    go_wp2
    go_ret
    obtain ⟨h3, l3, e3, k3⟩ := X.out
    have hbo : dropO N O ++ [s] = backO N O := by
      have hB := HB.out
      rw [HS.out]
      cases N with
      | nil =>
        cases O with
        | nil => cases hB
        | cons x r => rfl
      | cons x r => rfl
    rw [hbo] at l3
    exact ⟨ret_b HB.out, ⟨cs3, ⟨h3, HC.out.els e3 (.inl (Nat.le_refl _)), l3, H.out.ok.back⟩, Q2.out.trans e3.old, K2.out.trans k3⟩⟩
  | false =>
    go_wp2
    go_ret
    obtain ⟨rfl, rfl⟩ := none_left HB.out.symm
    exact ⟨rfl, H.out.to K1.out⟩
end
end Go.Proofs.Ytnljjdfajmjdjaa
namespace Go.Proofs.Ytnljjdfajmjdjaa
open Go.RowKit
set_option maxRecDepth 100000

/-! ### The block's cells -/
/-- A flow's cells; v: its slice, b: whether it is there. -/
def ffV (v : Value) (b : Bool) (f : Fl) : Nat → Value
  | 0 => .bool b
  | 1 => .int .i64 f.c
  | 2 => .int .u64 f.n
  | 3 => .int .u64 f.u
  | _ => v
structure FQc (cs : Array Value) (tg : Nat) (v : Nat → Value) (x : Qm) : Prop where
  size : cs.size = 68
  c : ∀ j, j < 9 → cs[j]? = some (cfV x.c j)
  f : ∀ i, i < 8 → ∀ j, j < 5 → cs[9 + i * 5 + j]? = some (ffV (v i) (x.T i) (x.F i) j)
  new : LineC cs 49 x.N
  old : LineC cs 58 x.O
  wt : cs[67]? = some (.pointer (some ⟨tg, 0, none⟩))
/-- Two queues that lie alike in memory (places are not laid there). -/
structure Seen (x y : Qm) : Prop where
  c : y.c = x.c
  N : y.N = x.N
  O : y.O = x.O
  T : ∀ i, i < 8 → y.T i = x.T i
  k : ∀ i, i < 8 → (y.F i).c = (x.F i).c
  n : ∀ i, i < 8 → (y.F i).n = (x.F i).n
  u : ∀ i, i < 8 → (y.F i).u = (x.F i).u
  q : ∀ i, i < 8 → (y.F i).q = (x.F i).q
theorem Seen.refl (x : Qm) : Seen x x := ⟨rfl, rfl, rfl, fun _ _ => rfl, fun _ _ => rfl, fun _ _ => rfl, fun _ _ => rfl, fun _ _ => rfl⟩
section
variable {cs cs' : Array Value} {tg : Nat} {v : Nat → Value} {x y : Qm}
theorem FQc.seen (h : FQc cs tg v x) (s : Seen x y) : FQc cs tg v y where
  size := h.size
  c := by rw [s.c]; exact h.c
  f := fun i hi j hj => by
    rw [h.f i hi j hj]
    match j, hj with
    | 0, _ => show some (Value.bool _) = some (Value.bool _); rw [s.T i hi]
    | 1, _ => show some (Value.int _ _) = some (Value.int _ _); rw [s.k i hi]
    | 2, _ => show some (Value.int _ _) = some (Value.int _ _); rw [s.n i hi]
    | 3, _ => show some (Value.int _ _) = some (Value.int _ _); rw [s.u i hi]
    | 4, _ => rfl
  new := by rw [s.N]; exact h.new
  old := by rw [s.O]; exact h.old
  wt := h.wt
/-- One flow turns. -/
theorem FQc.turn (h : FQc cs tg v x) {i : Nat} (hi : i < 8) {v' : Value} {f : Fl} {b : Bool} (hsz : cs'.size = cs.size) (hf : ∀ j, j < 5 → cs'[9 + i * 5 + j]? = some (ffV v' b f j))
    (he : ∀ j, (j < 9 + i * 5 ∨ 9 + i * 5 + 5 ≤ j) → cs'[j]? = cs[j]?) : FQc cs' tg (upF v i v') { x with F := upF x.F i f, T := upF x.T i b } where
  size := hsz.trans h.size
  c := fun j hj => by rw [he j (by omega)]; exact h.c j hj
  f := fun k hk j hj => by
    dsimp only
    by_cases e : k = i
    · subst e; rw [upF_at, upF_at, upF_at]; exact hf j hj
    · rw [upF_ne _ _ e, upF_ne _ _ e, upF_ne _ _ e, he _ (by omega)]; exact h.f k hk j hj
  new := fun j hj => by rw [he _ (by omega)]; exact h.new j hj
  old := fun j hj => by rw [he _ (by omega)]; exact h.old j hj
  wt := by rw [he _ (by omega)]; exact h.wt
/-- One field of one flow turns. -/
theorem FQc.set (h : FQc cs tg v x) {i k : Nat} (hi : i < 8) (hk : k < 5) {u v' : Value} {f : Fl} {b : Bool} (hu : ffV v' b f k = u) (hels : ∀ j, j < 5 → j ≠ k → ffV v' b f j = ffV (v i) (x.T i) (x.F i) j) :
    FQc (cs.setIfInBounds (9 + i * 5 + k) u) tg (upF v i v') { x with F := upF x.F i f, T := upF x.T i b } := by
  have hs := h.size
  refine h.turn hi Array.size_setIfInBounds (fun j hj => ?_) (fun j hor => ?_)
  · by_cases e : j = k
    · subst e; rw [Array.getElem?_setIfInBounds_self_of_lt (by omega), hu]
    · rw [Array.getElem?_setIfInBounds_ne (by omega), hels j hj e]; exact h.f i hi j hj
  · rw [Array.getElem?_setIfInBounds_ne (by omega)]
theorem FQc.lists (h : FQc cs tg v x) {N' O' : List Int} (e : Else18 49 cs cs') (n : LineC cs' 49 N') (o : LineC cs' 58 O') : FQc cs' tg v { x with N := N', O := O' } :=
  ⟨e.1.trans h.size, fun j hj => by rw [e.2 j (by omega)]; exact h.c j hj, fun i hi j hj => by rw [e.2 _ (by omega)]; exact h.f i hi j hj, n, o, by rw [e.2 _ (by omega)]; exact h.wt⟩
end

theorem upF_self {α : Type} (v : Nat → α) (i : Nat) : upF v i (v i) = v := funext fun j => by
  by_cases e : j = i
  · subst e; exact upF_at _ _ _
  · exact upF_ne _ _ e

/-! ### The whole -/
structure FQw (w : World) (g tg : Nat) (S : Nat → Prop) (cs : Array Value) (v : Nat → Value) (ks : List Key) (x : Qm) : Prop where
  whole : Whole w g 83 cs
  c : FQc cs tg v x
  tree : TreeAt w S tg 8 ks
  q : ∀ i, i < 8 → SgAt w (v i) (x.F i).q
  ap : ∀ i j, i < 8 → j < 8 → i ≠ j → ∀ k, (v i).ownBlock = some k → (v j).ownBlock ≠ some k
  sa : ∀ i, i < 8 → ∀ k, (v i).ownBlock = some k → ¬ S k
  gs : ¬ S g
/-- Its own blocks. -/
def FQown (g : Nat) (S : Nat → Prop) (v : Nat → Value) (k : Nat) : Prop := k = g ∨ S k ∨ ∃ i, i < 8 ∧ (v i).ownBlock = some k
section
variable {w w' : World} {g tg : Nat} {S S' : Nat → Prop} {cs cs' : Array Value} {v : Nat → Value} {ks ks' : List Key} {x y : Qm} {R : Nat → Prop}
theorem FQw.seen (h : FQw w g tg S cs v ks x) (s : Seen x y) : FQw w g tg S cs v ks y := ⟨h.whole, h.c.seen s, h.tree, fun i hi => by rw [s.q i hi]; exact h.q i hi, h.ap, h.sa, h.gs⟩
theorem FQw.vg (h : FQw w g tg S cs v ks x) {i : Nat} (hi : i < 8) : (v i).ownBlock ≠ some g := fun e => by
  rcases h.q i hi with ⟨e', _⟩ | ⟨g', o, cap, cur, e', hg, _⟩
  · rw [e'] at e; cases e
  · rw [e'] at e
    obtain rfl : g' = g := by simpa [Value.ownBlock] using e
    have := (show w.heap[g']? = _ from h.whole).symm.trans hg
    simp at this
theorem FQw.lt (h : FQw w g tg S cs v ks x) {k : Nat} (hk : FQown g S v k) : k < w.heap.size := by
  rcases hk with rfl | e | ⟨i, hi, e⟩
  · exact h.whole.lt
  · exact h.tree.lt e
  · exact (h.q i hi).lt e
theorem FQw.keep (h : FQw w g tg S cs v ks x) (hk : Keep R w w') (hs : ∀ k, FQown g S v k → ¬ R k) : FQw w' g tg S cs v ks x :=
  ⟨h.whole.keep hk (hs g (.inl rfl)), h.c, h.tree.keep hk fun k e => hs k (.inr (.inl e)), fun i hi => (h.q i hi).keep hk fun k e => hs k (.inr (.inr ⟨i, hi, e⟩)), h.ap, h.sa, h.gs⟩
theorem FQw.kept (h : FQw w g tg S cs v ks x) (hk : Keep (fun _ => False) w w') : FQw w' g tg S cs v ks x := h.keep hk fun _ _ => id
/-- Its lists, as they lie. -/
theorem FQw.ls (h : FQw w g tg S cs v ks x) (hok : LsOk x.N x.O) : LsW w 83 g 49 cs x.N x.O := ⟨h.whole, h.c.new, h.c.old, hok⟩
/-- Its block turns, nothing else. -/
theorem FQw.block (h : FQw w g tg S cs v ks x) (hw : Whole w' g 83 cs') (hk : Keep (fun k => k = g) w w') (hc : FQc cs' tg v y) (hq : ∀ i, i < 8 → (y.F i).q = (x.F i).q) : FQw w' g tg S cs' v ks y :=
  ⟨hw, hc, h.tree.keep hk fun k e a => h.gs (a ▸ e), fun i hi => by rw [hq i hi]; exact (h.q i hi).keep hk fun k e a => h.vg hi (a ▸ e), h.ap, h.sa, h.gs⟩
/-- The lists turn. -/
theorem FQw.lists (h : FQw w g tg S cs v ks x) {N' O' : List Int} (t : LsWto w 83 g 49 cs N' O' w') :
    ∃ cs', FQw w' g tg S cs' v ks { x with N := N', O := O' } ∧ Keep (fun k => k = g) w w' := by
  obtain ⟨cs', hl, he, hk⟩ := t
  exact ⟨cs', h.block hl.whole hk (h.c.lists he hl.new hl.old) (fun _ _ => rfl), hk⟩
/-- The tree turns. -/
theorem FQw.trees (h : FQw w g tg S cs v ks x) (ht : TreeAt w' S' tg 8 ks') (st : Step S S' w w') : FQw w' g tg S' cs v ks' x :=
  ⟨h.whole.keep st.1 h.gs, h.c, ht, fun i hi => (h.q i hi).keep st.1 (h.sa i hi), h.ap, fun i hi k hk a => (st.2 k a).elim (h.sa i hi k hk) (fun e => by have := (h.q i hi).lt hk; omega), fun a => (st.2 g a).elim h.gs (fun e => by have := h.whole.lt; omega)⟩
/-- One field of one flow turns (not its segments). -/
theorem FQw.set (h : FQw w g tg S cs v ks x) {i k : Nat} (hi : i < 8) (hk : k < 5) {u : Value} {f : Fl} {b : Bool} (hu : ffV (v i) b f k = u) (hels : ∀ j, j < 5 → j ≠ k → ffV (v i) b f j = ffV (v i) (x.T i) (x.F i) j) (hq : f.q = (x.F i).q) :
    FQw (w.setCell ⟨g, 9 + i * 5 + k, none⟩ u) g tg S (cs.setIfInBounds (9 + i * 5 + k) u) v ks { x with F := upF x.F i f, T := upF x.T i b } := by
  refine h.block (h.whole.put _ u) ((Keep.refl (fun k => k = g) w).setCell (p := ⟨g, _, none⟩) (.inl rfl) u) ?_ (fun j hj => ?_)
  · have := h.c.set hi hk hu hels
    rwa [upF_self] at this
  · dsimp only
    by_cases e : j = i
    · subst e; rw [upF_at]; exact hq
    · rw [upF_ne _ _ e]
/-- A flow's segments turn. -/
theorem FQw.segs (h : FQw w g tg S cs v ks x) {i : Nat} (hi : i < 8) {v' : Value} {f : Fl} {b : Bool} (hw : Whole w' g 83 cs') (hk : Keep R w w') (hR : ∀ k, R k → k = g ∨ (v i).ownBlock = some k) (hc : FQc cs' tg (upF v i v') { x with F := upF x.F i f, T := upF x.T i b })
    (hq : SgAt w' v' f.q) (hn : ∀ k, v'.ownBlock = some k → (v i).ownBlock = some k ∨ w.heap.size ≤ k) : FQw w' g tg S cs' (upF v i v') ks { x with F := upF x.F i f, T := upF x.T i b } where
  whole := hw
  c := hc
  tree := h.tree.keep hk fun k e a => (hR k a).elim (fun e' => h.gs (e' ▸ e)) (fun e' => h.sa i hi k e' e)
  q := fun j hj => by
    dsimp only
    by_cases e : j = i
    · subst e; rw [upF_at, upF_at]; exact hq
    · rw [upF_ne _ _ e, upF_ne _ _ e]
      exact (h.q j hj).keep hk fun k e' a => (hR k a).elim (fun e2 => h.vg hj (e2 ▸ e')) (fun e2 => h.ap i j hi hj (fun e3 => e e3.symm) k e2 e')
  ap := fun a b' ha hb hab k hk' => by
    by_cases e : a = i
    · subst e
      rw [upF_at] at hk'
      rw [upF_ne _ _ (fun e => hab e.symm)]
      rcases hn k hk' with h1 | h1
      · exact h.ap a b' ha hb hab k h1
      · exact fun h2 => by have := (h.q b' hb).lt h2; omega
    · rw [upF_ne _ _ e] at hk'
      by_cases e2 : b' = i
      · subst e2
        rw [upF_at]
        intro h2
        rcases hn k h2 with h1 | h1
        · exact h.ap a b' ha hb hab k hk' h1
        · have := (h.q a ha).lt hk'; omega
      · rw [upF_ne _ _ e2]; exact h.ap a b' ha hb hab k hk'
  sa := fun j hj k hk' => by
    by_cases e : j = i
    · subst e
      rw [upF_at] at hk'
      rcases hn k hk' with h1 | h1
      · exact h.sa j hj k h1
      · exact fun h2 => by have := h.tree.lt h2; omega
    · rw [upF_ne _ _ e] at hk'; exact h.sa j hj k hk'
  gs := h.gs

/-! ### Cells to be read -/
theorem FQw.cf (h : FQw w g tg S cs v ks x) {j : Nat} (hj : j < 9) : w.cell? ⟨g, j, none⟩ = some (cfV x.c j) := (h.whole.cell j).trans (h.c.c j hj)
theorem FQw.there (h : FQw w g tg S cs v ks x) {i : Nat} (hi : i < 8) : w.cell? ⟨g, 9 + i * 5, none⟩ = some (.bool (x.T i)) := (h.whole.cell _).trans (h.c.f i hi 0 (by omega))
theorem FQw.credit (h : FQw w g tg S cs v ks x) {i : Nat} (hi : i < 8) : w.cell? ⟨g, 9 + i * 5 + 1, none⟩ = some (.int .i64 (x.F i).c) := (h.whole.cell _).trans (h.c.f i hi 1 (by omega))
theorem FQw.next (h : FQw w g tg S cs v ks x) {i : Nat} (hi : i < 8) : w.cell? ⟨g, 9 + i * 5 + 2, none⟩ = some (.int .u64 (x.F i).n) := (h.whole.cell _).trans (h.c.f i hi 2 (by omega))
theorem FQw.since (h : FQw w g tg S cs v ks x) {i : Nat} (hi : i < 8) : w.cell? ⟨g, 9 + i * 5 + 3, none⟩ = some (.int .u64 (x.F i).u) := (h.whole.cell _).trans (h.c.f i hi 3 (by omega))
theorem FQw.seg (h : FQw w g tg S cs v ks x) {i : Nat} (hi : i < 8) : w.cell? ⟨g, 9 + i * 5 + 4, none⟩ = some (v i) := (h.whole.cell _).trans (h.c.f i hi 4 (by omega))
theorem FQw.wait (h : FQw w g tg S cs v ks x) : w.cell? ⟨g, 67, none⟩ = some (.pointer (some ⟨tg, 0, none⟩)) := (h.whole.cell _).trans h.c.wt

end

/-! ### What it is: a queue of the document's -/
def keyF (x : Qm) (i : Nat) : Key := ⟨timeF (x.F i), (i : Int)⟩
/-- The keys of the tree: of those that wait, by their times. -/
def KsOf (x : Qm) (ks : List Key) : Prop := ∀ k, k ∈ ks ↔ ∃ i : Nat, i < 8 ∧ x.T i = true ∧ (x.F i).p = 3 ∧ k = keyF x i
theorem KsOf.at {x : Qm} {ks : List Key} (h : KsOf x ks) {i : Nat} (hi : i < 8) : keyF x i ∈ ks ↔ x.T i = true ∧ (x.F i).p = 3 := by
  rw [h]
  constructor
  · rintro ⟨j, hj, h1, h2, e⟩
    have : (i : Int) = (j : Int) := congrArg Key.b e
    obtain rfl : i = j := by omega
    exact ⟨h1, h2⟩
  · exact fun e => ⟨i, hi, e.1, e.2, rfl⟩
/-- Where a socket's flow is, as the program finds it. -/
def placeK (x : Qm) (ks : List Key) (i : Nat) : Int := if keyF x i ∈ ks then 3 else placeV x.N x.O (i : Int)
theorem placeK_is {x : Qm} {ks : List Key} (h : x.Ok) (hk : KsOf x ks) {i : Nat} (hi : i < 8) : placeK x ks i = if x.T i = true then (x.F i).p else 0 := by
  unfold placeK placeV
  by_cases ht : x.T i = true
  · rw [if_pos ht]
    have hp := (h.is i hi ht).hp
    by_cases h3 : (x.F i).p = 3
    · rw [if_pos ((hk.at hi).2 ⟨ht, h3⟩), h3]
    · rw [if_neg fun e => h3 ((hk.at hi).1 e).2]
      by_cases h1 : (x.F i).p = 1
      · rw [if_pos ((h.new i hi).2 ⟨ht, h1⟩), h1]
      · rw [if_neg fun e => h1 ((h.new i hi).1 e).2]
        by_cases h2 : (x.F i).p = 2
        · rw [if_pos ((h.old i hi).2 ⟨ht, h2⟩), h2]
        · rw [if_neg fun e => h2 ((h.old i hi).1 e).2]; omega
  · rw [if_neg ht, if_neg fun e => ht ((hk.at hi).1 e).1, if_neg fun e => ht ((h.new i hi).1 e).1, if_neg fun e => ht ((h.old i hi).1 e).1]
/-- The queue at g is x. -/
structure FQat (w : World) (g tg : Nat) (S : Nat → Prop) (cs : Array Value) (v : Nat → Value) (ks : List Key) (x : Qm) : Prop where
  w : FQw w g tg S cs v ks x
  ok : x.Ok
  ks : KsOf x ks
def FQ (w : World) (g : Nat) (own : Nat → Prop) (x : Qm) : Prop := ∃ tg S cs v ks, FQat w g tg S cs v ks x ∧ ∀ k, own k ↔ FQown g S v k
/-- What a call leaves. -/
def FQto (w : World) (g : Nat) (own : Nat → Prop) (x' : Qm) (w' : World) : Prop := ∃ own', FQ w' g own' x' ∧ Keep own w w' ∧ ∀ k, own' k → own k ∨ w.heap.size ≤ k
section
variable {w w' : World} {g : Nat} {own : Nat → Prop} {x : Qm} {R : Nat → Prop}
theorem FQ.ok (h : FQ w g own x) : x.Ok := by obtain ⟨_, _, _, _, _, h, _⟩ := h; exact h.ok
theorem FQ.lt (h : FQ w g own x) {k : Nat} (hk : own k) : k < w.heap.size := by obtain ⟨_, _, _, _, _, h, ho⟩ := h; exact h.w.lt ((ho k).1 hk)
theorem FQ.keep (h : FQ w g own x) (hk : Keep R w w') (hs : ∀ k, own k → ¬ R k) : FQ w' g own x := by
  obtain ⟨tg, S, cs, v, ks, h, ho⟩ := h
  exact ⟨tg, S, cs, v, ks, ⟨h.w.keep hk fun k e => hs k ((ho k).2 e), h.ok, h.ks⟩, ho⟩
theorem FQ.kept (h : FQ w g own x) (hk : Keep (fun _ => False) w w') : FQ w' g own x := h.keep hk fun _ _ => id
theorem FQ.to (h : FQ w g own x) (hk : Keep (fun _ => False) w w') : FQto w g own x w' := ⟨own, h.kept hk, hk.mono (fun _ h => h.elim), fun _ h => .inl h⟩
/-- The queue as a thing. -/
def fqT (g : Nat) (own : Nat → Prop) (x : Qm) : Thing := ⟨fun w => FQ w g own x, own, fun h hk hs => h.keep hk hs, fun h e => h.lt e⟩
end
end Go.Proofs.Ytnljjdfajmjdjaa
namespace Go.Proofs.Ytnljjdfajmjdjaa
open Go.RowKit
set_option maxRecDepth 100000

def wakeL (x : Qm) (l : List Key) : Qm := l.foldl (fun x k => putQ x k.b.toNat 2) x
theorem wakeL_snoc (x : Qm) (l : List Key) (k : Key) : wakeL x (l ++ [k]) = putQ (wakeL x l) k.b.toNat 2 := by simp [wakeL]
theorem keyF_put (x : Qm) (i j : Nat) (p : Int) : keyF (putQ x i p) j = keyF x j := by
  unfold keyF timeF
  by_cases e : j = i
  · subst e; rw [putQ_F]
  · rw [putQ_ne x p e]
/-- The first of those that wait goes behind the old ones. -/
theorem wake_one {x : Qm} {k : Key} {r : List Key} (hx : x.Ok) (hk : KsOf x (k :: r)) (hs : (k :: r).Pairwise KLt) :
    ∃ i : Nat, i < 8 ∧ k = keyF x i ∧ x.T i = true ∧ (x.F i).p = 3 ∧ (putQ x i 2).Ok ∧ KsOf (putQ x i 2) r ∧ (i : Int) ∉ x.N ∧ (i : Int) ∉ x.O := by
  obtain ⟨i, hi, ht, hp, e⟩ := (hk k).1 (List.mem_cons_self ..)
  have hN : (i : Int) ∉ x.N := fun h => by have := ((hx.new i hi).1 h).2; omega
  have hO : (i : Int) ∉ x.O := fun h => by have := ((hx.old i hi).1 h).2; omega
  have hf := hx.is i hi ht
  refine ⟨i, hi, e, ht, hp, ?_, ?_, hN, hO⟩
  · refine hx.put hi (fun j hj => putQ_ne x 2 hj) (fun _ => rfl) rfl ht ?_ ?_ ?_ ?_
    · rw [putQ_F]
      exact ⟨hf.hs, hf.hc, by dsimp only; omega, hf.hn, hf.hu, fun _ => hf.no (by omega), fun e => (by cases e), fun e => (by cases e), hf.hq⟩
    · rw [putQ_F]; rfl
    · rw [putQ_F]; rfl
    · rw [putQ_F]; exact Nat.le_refl _
  · have hne : ∀ u ∈ r, u ≠ k := fun u hu => by
      have := (List.pairwise_cons.1 hs).1 u hu
      intro e'; subst e'
      unfold KLt at this; omega
    intro u
    constructor
    · intro hu
      obtain ⟨j, hj, h1, h2, h3⟩ := (hk u).1 (List.mem_cons_of_mem _ hu)
      have hji : j ≠ i := fun e' => by subst e'; exact hne u hu (h3.trans e.symm)
      exact ⟨j, hj, h1, by rw [putQ_ne x 2 hji]; exact h2, by rw [keyF_put]; exact h3⟩
    · rintro ⟨j, hj, h1, h2, h3⟩
      rw [keyF_put] at h3
      have hji : j ≠ i := fun e' => by subst e'; rw [putQ_F] at h2; cases h2
      rw [putQ_ne x 2 hji] at h2
      rcases List.mem_cons.1 ((hk u).2 ⟨j, hj, h1, h2, h3⟩) with h4 | h4
      · exfalso
        have : (j : Int) = (i : Int) := by have := h3.symm.trans (h4.trans e); exact congrArg Key.b this
        omega
      · exact h4
theorem wakes_none {x : Qm} : ∀ (k : Nat), (∀ i : Nat, i < k → ¬ (x.T i = true ∧ (x.F i).p = 3)) → firstN x k = none
  | 0, _ => rfl
  | k + 1, h => by
    unfold firstN
    rw [wakes_none k (fun i hi => h i (by omega))]
    simp only
    rw [if_neg (h k (by omega))]
theorem wake_keys {now : Int} : ∀ (m : Nat) {x : Qm} {ks : List Key}, x.Ok → KsOf x ks → ks.Pairwise KLt → ks.length ≤ m → wakeN now m x = wakeL x (ks.takeWhile fun k => decide (k.a ≤ now))
  | 0, x, ks, _, _, _, hl => by
    obtain rfl : ks = [] := List.eq_nil_of_length_eq_zero (by omega)
    rfl
  | m + 1, x, [], _, hk, _, _ => by
    have h0 : firstQ x = none := wakes_none 8 fun i hi h => by
      have := (hk (keyF x i)).2 ⟨i, hi, h.1, h.2, rfl⟩
      cases this
    unfold wakeN
    rw [h0]; rfl
  | m + 1, x, k :: r, hx, hk, hs, hl => by
    obtain ⟨i, hi, e, ht, hp, hok, hkr, _, _⟩ := wake_one hx hk hs
    cases hf : firstQ x with
    | none => exact absurd ⟨ht, hp⟩ (firstN_none hf i hi)
    | some b =>
      obtain ⟨hb, tb, pb⟩ := firstN_some hf
      have hle := firstN_least hf i hi ht hp
      obtain rfl : b = i := by
        have hm := (hk (keyF x b)).2 ⟨b, hb, tb, pb, rfl⟩
        rcases List.mem_cons.1 hm with h | h
        · have : (b : Int) = (i : Int) := by have := h.trans e; exact congrArg Key.b this
          omega
        · have h2 := (List.pairwise_cons.1 hs).1 _ h
          rw [e] at h2
          unfold KLt keyF at h2
          dsimp only at h2
          have h3 := hle.1
          rcases h2 with h2 | ⟨h2, h4⟩
          · omega
          · have := hle.2 h2; omega
      unfold wakeN
      rw [hf]
      dsimp only
      have hka : k.a = timeF (x.F b) := by rw [e]; rfl
      have hkb : k.b.toNat = b := by rw [e]; exact Int.toNat_natCast b
      by_cases hn : timeF (x.F b) ≤ now
      · rw [if_pos hn, List.takeWhile_cons_of_pos (by rw [hka]; simpa using hn)]
        rw [wake_keys m hok hkr (List.pairwise_cons.1 hs).2 (by simp at hl; omega)]
        show _ = wakeL (putQ x k.b.toNat 2) _
        rw [hkb]
      · rw [if_neg hn, List.takeWhile_cons_of_neg (by rw [hka]; simpa using hn)]
        rfl
/-- Some steps of it. -/
theorem wake_some {x : Qm} {ks : List Key} (hx : x.Ok) (hk : KsOf x ks) (hs : ks.Pairwise KLt) : ∀ (j : Nat), j ≤ ks.length → (wakeL x (ks.take j)).Ok ∧ KsOf (wakeL x (ks.take j)) (ks.drop j)
  | 0, _ => ⟨hx, hk⟩
  | j + 1, hj => by
    obtain ⟨h1, h2⟩ := wake_some hx hk hs j (by omega)
    have hd : ks.drop j = ks[j] :: ks.drop (j + 1) := List.drop_eq_getElem_cons (by omega)
    rw [hd] at h2
    have hs2 : (ks[j] :: ks.drop (j + 1)).Pairwise KLt := by rw [← hd]; exact hs.sublist (List.drop_sublist _ _)
    obtain ⟨i, hi, e, _, _, h3, h4, _, _⟩ := wake_one h1 h2 hs2
    rw [List.take_succ_eq_append_getElem (by omega), wakeL_snoc]
    have : (ks[j]).b.toNat = i := by rw [e]; exact Int.toNat_natCast i
    rw [this]
    exact ⟨h3, h4⟩
theorem pushV_no {N O : List Int} {i : Nat} (hi : i < 8) (hN : (i : Int) ∉ N) (hO : (i : Int) ∉ O) : pushV N O (i : Int) = 0 := by
  unfold pushV
  rw [if_neg (by omega), if_neg (fun h => h.elim hN hO)]
theorem seen_put (x : Qm) {i : Nat} (p : Int) {N O : List Int} (hN : (putQ x i p).N = N) (hO : (putQ x i p).O = O) : Seen { x with N := N, O := O } (putQ x i p) where
  c := rfl
  N := hN
  O := hO
  T := fun _ _ => rfl
  k := fun j _ => by
    by_cases e : j = i
    · subst e; rw [putQ_F]
    · rw [putQ_ne x p e]
  n := fun j _ => by
    by_cases e : j = i
    · subst e; rw [putQ_F]
    · rw [putQ_ne x p e]
  u := fun j _ => by
    by_cases e : j = i
    · subst e; rw [putQ_F]
    · rw [putQ_ne x p e]
  q := fun j _ => by
    by_cases e : j = i
    · subst e; rw [putQ_F]
    · rw [putQ_ne x p e]
/-- One that waits pushed behind the old ones. -/
theorem seen_wake {x : Qm} {i : Nat} (hi : i < 8) (hN : (i : Int) ∉ x.N) (hO : (i : Int) ∉ x.O) : Seen { x with N := pushN x.N x.O (i : Int) false, O := pushO x.N x.O (i : Int) false } (putQ x i 2) := by
  refine seen_put x 2 ?_ ?_
  · show x.N.erase (i : Int) = _
    unfold pushN
    rw [List.erase_of_not_mem hN]; simp
  · show x.O.erase (i : Int) ++ [(i : Int)] = _
    unfold pushO
    rw [List.erase_of_not_mem hO, pushV_no hi hN hO]; simp
theorem del_head {k : Key} {r : List Key} (hs : (k :: r).Pairwise KLt) : delS (k :: r) k = r := by
  have := del_split (A := []) (k := k) (B := r) hs
  simpa using this
end Go.Proofs.Ytnljjdfajmjdjaa
