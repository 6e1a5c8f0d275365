/-
  The calls of package rbtree that ask: Has, Min, Next, Len, Height. Conditions: the tree lies in memory.
  Package lists: Remove, Push, Drop, Back, Head, Place of lists that lie inside a block (a field of another struct). Conditions: the lists lie so, of sockets, each once.
-/
import Derived.Test.YtnljjdfajmjdjaaGreatJ23
import Derived.Test.YtnljjdfajmjdjaaGreatJ07
namespace Go.Proofs.YtnljjdfajmjdjaaGreat
open Go.RowKit
set_option maxRecDepth 100000
set_option linter.unusedSimpArgs false

def hdK (ks : List Key) : Key := match ks with | [] => ⟨0, 0⟩ | k :: _ => k
def hdB (ks : List Key) : Bool := match ks with | [] => false | _ :: _ => true
def above (ks : List Key) (k : Key) : List Key := ks.filter (fun x => decide (KLt k x))

theorem Sub.keyAt {m : Nat → Nd} : ∀ {t : T} {p : Nat}, Sub m p t → ∀ x ∈ t.its, (m x.1).k = x.2
  | .nil, _, _, x, hx => by simp [T.its] at hx
  | .nd i k c l r, p, h, x, hx => by
    simp only [T.its, List.mem_append, List.mem_cons] at hx
    rcases hx with hx | rfl | hx
    · exact h.2.1.keyAt x hx
    · rw [h.1]
    · exact h.2.2.keyAt x hx
theorem RepB.keyAt {m : Nat → Nd} {n tp : Nat} {z : Z} {t : T} {L : List (Nat × Key)} (h : RepB m n tp z t L) : ∀ x ∈ L, (m x.1).k = x.2 ∧ 0 < x.1 ∧ x.1 < n := by
  obtain ⟨t', ht'⟩ := h.top
  intro x hx
  have e : L = t'.its := by rw [← ht'.rep.its]; simp [Z.zl, Z.zr]
  exact ⟨ht'.rep.sub.keyAt x (e ▸ hx), ht'.rep.pos x.1 (List.mem_map.2 ⟨x, hx, rfl⟩)⟩
/-- The first one of what is left of the keys: its node, and its key. -/
theorem RepB.hdAt {m : Nat → Nd} {n tp : Nat} {z : Z} {t : T} {L A B : List (Nat × Key)} (h : RepB m n tp z t L) (e : L = A ++ B) (hn : 0 < n) :
    hd B < n ∧ (m (hd B)).k = hdK (B.map (·.2)) ∧ decide (hd B ≠ 0) = hdB (B.map (·.2)) := by
  cases B with
  | nil => refine ⟨hn, ?_, rfl⟩; show (m 0).k = _; rw [h.rep.m0]; rfl
  | cons x B =>
    have := h.keyAt x (by rw [e]; simp)
    exact ⟨this.2.2, this.1, by have := this.2.1; show decide (x.1 ≠ 0) = true; simp; omega⟩
theorem above_split {k : Key} {A B : List Key} (hA : ∀ x ∈ A, ¬ KLt k x) (hB : ∀ x ∈ B, KLt k x) : above (A ++ B) k = B := by
  unfold above
  rw [List.filter_append, List.filter_eq_nil_iff.2 (fun x hx => by simpa using hA x hx), List.filter_eq_self.2 (fun x hx => by simpa using hB x hx), List.nil_append]

section
variable {w : World} {S : Nat → Prop} {g N : Nat} {ks : List Key}
theorem tlen_nil (w : World) : Calls Tryz.prog 107 #[.pointer none] w fun e w' => e = .returned (.int .i64 0) ∧ w' = w := by
  go_enter Tryz.func107, Tryz.ntmps107
  go_wp2
  go_ret
  exact ⟨rfl, rfl⟩
theorem thas_nil (k : Key) (w : World) : Calls Tryz.prog 98 #[.pointer none, kv k] w fun e w' => e = .returned (.bool false) ∧ Keep (fun _ => False) w w' := by
  unfold kv
  go_enter Tryz.func98, Tryz.ntmps98
  go_wp2
  go_ret
  exact ⟨rfl, (Keep.refl _ _).alloc _⟩
theorem tmin_nil (w : World) : Calls Tryz.prog 85 #[.pointer none] w fun e w' => e = .returned (.tuple #[kv ⟨0, 0⟩, .bool false]) ∧ Keep (fun _ => False) w w' := by
  unfold kv
  go_enter Tryz.func85, Tryz.ntmps85
  go_wp2
  (try simp only [Exit.inBlock, Exit.then])
  refine bodyPost_ret (v := .tuple #[.agg #[.int .u64 0, .int .u64 0], .bool false]) ?_ rfl ⟨rfl, ?_⟩
  · rw [results_cell_tmp rfl]
    go_simp
  · exact (Keep.refl _ _).alloc _

set_option maxHeartbeats 400000 in
theorem tlen_any (w : World) (h : TreeAt w S g N ks) : Calls Tryz.prog 107 #[.pointer (some ⟨g, 0, none⟩)] w fun e w' => e = .returned (.int .i64 (ks.length : Int)) ∧ ∃ k, w' = w.drewN k := by
  obtain ⟨ga, b, cap, n, tp, m, L, s, Sa, h, hks, hN⟩ := h
  have HE : Hid (((s.out.count true : Nat) : Int) = ks.length) := Lib.hid (by rw [← hks, List.length_map, h.cnt])
  have c0 := h.tr.st.cell 0
  have HH := Lib.hid h; clear h hks hN
  go_enter Tryz.func107, Tryz.ntmps107
  go_wp2_with fail
  refine (used_any Sa ga s w HH.out.ar).mono ?_
  rintro e w1 ⟨rfl, k1, hw1⟩
  have HW := Lib.hid hw1; clear hw1
  go_wp2
  go_ret
  exact ⟨ret_i HE.out, k1, HW.out⟩

theorem T.height_le : ∀ t : T, t.height ≤ t.its.length
  | .nil => by simp [T.height]
  | .nd i k c l r => by have := l.height_le; have := r.height_le; simp [T.height, T.its]; omega


set_option maxHeartbeats 400000 in
theorem thas_any (k : Key) (w : World) (h : TreeAt w S g N ks) : Calls Tryz.prog 98 #[.pointer (some ⟨g, 0, none⟩), kv k] w fun e w' => e = .returned (.bool (decide (k ∈ ks))) ∧ Keep (fun _ => False) w w' := by
  obtain ⟨ga, b, cap, n, tp, m, L, s, Sa, h, hks, hN⟩ := h
  subst hks
  obtain ⟨t0, hrep⟩ := h.rep
  have HF := Lib.hid (fun w' (t' : Tr w' g b cap (.pointer (some ⟨ga, 0, none⟩)) n tp m) => find_any k w' t' hrep h.sorted)
  have hkeq : kv k = .agg #[.int .u64 k.a, .int .u64 k.b] := rfl
  obtain ⟨ka, kb⟩ := k
  rw [hkeq] at HF
  rw [hkeq]
  dsimp only at HF ⊢
  clear hkeq
  have T1 := Lib.hid (h.tr.alloc (.cells #[.int .u64 ka, .int .u64 kb] 82))
  have K1 : Hid (Keep (fun _ => False) w (w.alloc (.cells #[.int .u64 ka, .int .u64 kb] 82))) := Lib.hid ((Keep.refl _ w).alloc _)
  clear h hrep
  go_enter Tryz.func98, Tryz.ntmps98
  go_wp2_with fail
  refine (HF.out _ T1.out).mono ?_
  rintro e w2 ⟨z, t, rfl, ⟨hfr, hfound⟩, k2⟩
  have K2 := Lib.hid (K1.out.trans k2); clear k2
  rcases hfound with ⟨rfl, hl, hg⟩ | ⟨i, c, l, r, rfl⟩
  · have HE : Hid (decide ((⟨ka, kb⟩ : Key) ∈ L.map (·.2)) = false) := Lib.hid (by simpa using (Found.gone hfr hl hg).1)
    clear hfr hl hg
    simp only [T.root]
    go_wp2
    go_ret
    exact ⟨ret_b HE.out.symm, K2.out⟩
  · have HE : Hid (decide ((⟨ka, kb⟩ : Key) ∈ L.map (·.2)) = true) := Lib.hid (decide_eq_true (Found.here hfr))
    obtain ⟨_, hi0, _⟩ := hfr.rep.node
    have hi' : ((i : Int) == 0) = false := by rw [beq_eq_false_iff_ne]; omega
    have hi2 : ((i : Int) != 0) = true := by rw [bne_iff_ne]; omega
    clear hfr
    simp only [T.root]
    go_wp2
    go_ret
    exact ⟨ret_b HE.out.symm, K2.out⟩

theorem ret_kb {k k' : Key} {c c' : Bool} (h : k = k') (h' : c = c') : (Value.tuple #[kv k, .bool c]) = .tuple #[kv k', .bool c'] := by rw [h, h']

set_option maxHeartbeats 1000000 in
set_option maxRecDepth 100000 in
theorem tmin_any (w : World) (h : TreeAt w S g N ks) : Calls Tryz.prog 85 #[.pointer (some ⟨g, 0, none⟩)] w fun e w' => e = .returned (.tuple #[kv (hdK ks), .bool (hdB ks)]) ∧ Keep (fun _ => False) w w' := by
  obtain ⟨ga, b, cap, n, tp, m, L, s, Sa, h, hks, hN⟩ := h
  obtain ⟨t, ht⟩ := h.rep
  have hn : 0 < n := by have := h.len; omega
  have e : L = t.its := by rw [← ht.rep.its]; simp [Z.zl, Z.zr]
  obtain ⟨q1, q2, q3⟩ := ht.hdAt (A := []) (B := t.its) (by rw [e]; rfl) hn
  rw [← e, hks] at q2 q3
  rw [← e] at q1
  have HTP : Hid (tp = t.root) := Lib.hid ht.rep.up
  have HT := Lib.hid ht.rep
  have HM0 := Lib.hid ht.rep.m0
  have HEL := Lib.hid e
  have T1 := Lib.hid (h.tr.alloc (.cells #[.int .u64 0, .int .u64 0] 82))
  have KB : Hid (Keep (fun _ => False) w (w.alloc (.cells #[.int .u64 0, .int .u64 0] 82))) := Lib.hid ((Keep.refl _ w).alloc _)
  have WB := Lib.hid (Whole.new w 82 #[.int .u64 0, .int .u64 0])
  have HBB : Hid (w.heap.size ≤ w.heap.size) := Lib.hid (Nat.le_refl _)
  have c2 := T1.out.st.cell 2
  have HKEY := Lib.hid (fun w' (t' : Tr w' g b cap (.pointer (some ⟨ga, 0, none⟩)) n tp m) => key_any (hd L) w' t' q1 HM0.out)
  rw [q2, q3] at HKEY
  obtain ⟨⟨ra, rb⟩, hr⟩ : ∃ r, r = hdK ks := ⟨_, rfl⟩
  obtain ⟨fl, hfl⟩ : ∃ fl, fl = hdB ks := ⟨_, rfl⟩
  rw [← hr, ← hfl] at HKEY
  have HV : Hid ((Value.tuple #[kv (hdK ks), .bool (hdB ks)]) = .tuple #[kv ⟨ra, rb⟩, .bool fl]) := Lib.hid (ret_kb hr.symm hfl.symm)
  clear h hks hN ht q1 q2 q3 e hr hfl
  go_enter Tryz.func85, Tryz.ntmps85
  go_wp2_with fail
  generalize w.alloc (.cells #[.int .u64 0, .int .u64 0] 82) = w1 at *
  rw [HTP.out]
  refine (least_any w1 T1.out HT.out).mono ?_
  rintro e w2 ⟨rfl, rfl⟩
  rw [← HEL.out]
  go_wp2_with fail
  refine (HKEY.out _ T1.out).mono ?_
  rintro e wk ⟨rfl, kk⟩
  have KK := Lib.hid (KB.out.trans kk)
  have WK := WB.out.keep kk (fun h => h)
  have WK1 := WK.put 0 (.int .u64 ra)
  have WK2 := WK1.put 1 (.int .u64 rb)
  have e0 := WK.cell 0; have f0 := WK.free 0
  have e1 := WK1.cell 1; have f1 := WK1.free 1
  have d0 := WK2.cell 0; have d1 := WK2.cell 1
  simp only [List.setIfInBounds_toArray, List.set_cons_zero, List.set_cons_succ, List.getElem?_toArray, List.getElem?_cons_zero, List.getElem?_cons_succ] at e0 e1 d0 d1
  clear kk
  simp only [kv]
  go_wp2
  (try simp only [Exit.inBlock, Exit.then])
  refine bodyPost_ret (v := .tuple #[.agg #[.int .u64 ra, .int .u64 rb], .bool fl]) ?_ rfl ⟨?_, ?_⟩
  · rw [results_cell_tmp rfl]
    go_simp
  · rw [HV.out]; rfl
  · exact (KK.out.setCell (.inr HBB.out) _).setCell (.inr HBB.out) _

end
end Go.Proofs.YtnljjdfajmjdjaaGreat
namespace Go.Proofs.YtnljjdfajmjdjaaGreat
open Go.RowKit
set_option maxRecDepth 100000

/-- All cells but the eighteen from off on are as they were. -/
def Else18 (off : Nat) (cs cs' : Array Value) : Prop := cs'.size = cs.size ∧ ∀ j, j < off ∨ off + 18 ≤ j → cs'[j]? = cs[j]?
theorem Else18.refl (off : Nat) (cs : Array Value) : Else18 off cs cs := ⟨rfl, fun _ _ => rfl⟩
theorem Else18.trans {off : Nat} {a b c : Array Value} (h : Else18 off a b) (k : Else18 off b c) : Else18 off a c := ⟨k.1.trans h.1, fun j hj => (k.2 j hj).trans (h.2 j hj)⟩
theorem Else.new {off : Nat} {a b : Array Value} (h : Else off a b) : Else18 off a b := ⟨h.1, fun j hj => h.2 j (by omega)⟩
theorem Else.old {off : Nat} {a b : Array Value} (h : Else (off + 9) a b) : Else18 off a b := ⟨h.1, fun j hj => h.2 j (by omega)⟩
/-- Lists in block g, from cell off on: its cells are cs. -/
structure LsW (w : World) (T : TypeId) (g off : Nat) (cs : Array Value) (N O : List Int) : Prop where
  whole : Whole w g T cs
  new : LineC cs off N
  old : LineC cs (off + 9) O
  ok : LsOk N O
/-- What a call on them leaves. -/
def LsWto (w : World) (T : TypeId) (g off : Nat) (cs : Array Value) (N' O' : List Int) (w' : World) : Prop := ∃ cs', LsW w' T g off cs' N' O' ∧ Else18 off cs cs' ∧ Keep (fun k => k = g) w w'
section
variable {T : TypeId}
theorem LsW.keep {S : Nat → Prop} {w w' : World} {g off : Nat} {cs : Array Value} {N O : List Int} (h : LsW w T g off cs N O) (hk : Keep S w w') (hs : ¬ S g) : LsW w' T g off cs N O := ⟨h.whole.keep hk hs, h.new, h.old, h.ok⟩
theorem LsW.is {w : World} {g off : Nat} {cs : Array Value} {N O : List Int} (h : LsW w T g off cs N O) : LsIs w (some ⟨g, off, none⟩) N O := .inr ⟨T, g, off, cs, rfl, h.whole, h.new, h.old⟩
theorem LsW.to {w w' : World} {g off : Nat} {cs : Array Value} {N O : List Int} (h : LsW w T g off cs N O) (hk : Keep (fun _ => False) w w') : LsWto w T g off cs N O w' := ⟨cs, h.keep hk id, Else18.refl _ _, hk.mono (fun _ h => h.elim)⟩

set_option maxHeartbeats 400000 in
theorem lpremove_any (g off : Nat) (cs : Array Value) (N O : List Int) (s : Int) (b : Bool) (w : World) (h : LsW w T g off cs N O) (hb : b = decide (s ∈ N ∨ s ∈ O)) :
    Calls Tryz.prog 47 #[.pointer (some ⟨g, off, none⟩), .int .i64 s] w fun e w' => e = .returned (.bool b) ∧ LsWto w T g off cs (N.erase s) (O.erase s) w' := by
  obtain ⟨hw, hn0, ho0, hok⟩ := h
  have HOK := Lib.hid hok; have HN := Lib.hid hn0; have HO := Lib.hid ho0; have HW := Lib.hid hw; have HB := Lib.hid hb
  clear hok hn0 ho0 hw hb
  go_enter Tryz.func47, Tryz.ntmps47
  by_cases hs : s ∈ N
  · have HS := Lib.hid hs
    have hd : decide (s ∈ N) = true := by simpa using hs
    clear hs
    go_wp2_with fail
    refine (lremove_any g off cs N s w HW.out HN.out HOK.out.len1 true hd.symm).mono ?_
    rintro e w1 ⟨rfl, cs1, h1, l1, e1, k1⟩
    have X := Lib.hid (⟨h1, l1, e1, k1⟩ : _ ∧ _ ∧ _ ∧ _)
    clear h1 l1 e1 k1 hd
    go_wp2
    go_ret
    obtain ⟨h1, l1, e1, k1⟩ := X.out
    have hso : s ∉ O := fun ho => (List.nodup_append.1 HOK.out.once).2.2 s HS.out s ho rfl
    refine ⟨ret_b (by rw [HB.out]; simp [HS.out]), ⟨cs1, ⟨h1, l1, ?_, HOK.out.erase s⟩, e1.new, k1⟩⟩
    rw [List.erase_of_not_mem hso]
    exact HO.out.els e1 (.inr (Nat.le_refl _))
  · have HS := Lib.hid hs
    have hd : decide (s ∈ N) = false := by simpa using hs
    clear hs
    go_wp2_with fail
    refine (lremove_any g off cs N s w HW.out HN.out HOK.out.len1 false hd.symm).mono ?_
    rintro e w1 ⟨rfl, cs1, h1, l1, e1, k1⟩
    have C1 := Lib.hid l1; have C2 := Lib.hid (HO.out.els e1 (.inr (Nat.le_refl _))); have H1 := Lib.hid h1; have K1 := Lib.hid k1; have E1 := Lib.hid e1
    clear h1 l1 e1 k1 hd
    go_wp2_with fail
    refine (lremove_any g (off + 9) cs1 O s w1 H1.out C2.out HOK.out.len2 _ rfl).mono ?_
    rintro e w2 ⟨rfl, cs2, h2, l2, e2, k2⟩
    have X := Lib.hid (⟨h2, l2, e2, k2⟩ : _ ∧ _ ∧ _ ∧ _)
    clear h2 l2 e2 k2
    obtain ⟨q, hq⟩ : ∃ q, q = decide (s ∈ O) := ⟨_, rfl⟩
    rw [← hq]
    have HQ := Lib.hid hq; clear hq
    go_wp2
    go_ret
    obtain ⟨h2, l2, e2, k2⟩ := X.out
    exact ⟨ret_b (by rw [HB.out, HQ.out]; simp [HS.out]), ⟨cs2, ⟨h2, C1.out.els e2 (.inl (Nat.le_refl _)), l2, HOK.out.erase s⟩, E1.out.new.trans e2.old, K1.out.trans k2⟩⟩

set_option maxHeartbeats 1000000 in
theorem lppush_any (g off : Nat) (cs : Array Value) (N O : List Int) (s : Int) (f : Bool) (w : World) (h : LsW w T g off cs N O) :
    Calls Tryz.prog 62 #[.pointer (some ⟨g, off, none⟩), .int .i64 s, .bool f] w fun e w' => e = .returned (.int .i64 (pushV N O s)) ∧ LsWto w T g off cs (pushN N O s f) (pushO N O s f) w' := by
  have HOK := Lib.hid h.ok; have H := Lib.hid h
  obtain ⟨v, hv⟩ : ∃ v, v = pushV N O s := ⟨_, rfl⟩
  obtain ⟨N', hN'⟩ : ∃ N', N' = pushN N O s f := ⟨_, rfl⟩
  obtain ⟨O', hO'⟩ : ∃ O', O' = pushO N O s f := ⟨_, rfl⟩
  rw [← hv, ← hN', ← hO']
  have HV := Lib.hid hv; have HN := Lib.hid hN'; have HO := Lib.hid hO'
  clear hv hN' hO'
  have HKEEP : Hid (v ≠ 0 → ∀ {w1 : World}, Keep (fun _ => False) w w1 → LsWto w T g off cs N' O' w1) := Lib.hid fun hne w1 hk => by
    have h0 : ¬ pushV N O s = 0 := by rw [← HV.out]; exact hne
    rw [HN.out, HO.out]
    unfold pushN pushO
    simp only [h0, false_and, if_false]
    exact H.out.to hk
  clear h
  by_cases h1 : s < 0
  · obtain rfl : v = 8 := by rw [HV.out]; unfold pushV; rw [if_pos (.inl h1)]
    go_enter Tryz.func62, Tryz.ntmps62
    go_wp2
    go_ret
    exact ⟨rfl, HKEEP.out (by decide) (Keep.refl _ _)⟩
  by_cases h2 : 8 ≤ s
  · obtain rfl : v = 8 := by rw [HV.out]; unfold pushV; rw [if_pos (.inr h2)]
    go_enter Tryz.func62, Tryz.ntmps62
    go_wp2
    go_ret
    exact ⟨rfl, HKEEP.out (by decide) (Keep.refl _ _)⟩
  have HP : Hid (v = if placeV N O s = 0 then 0 else 6) := Lib.hid (by
    rw [HV.out]; unfold pushV placeV
    rw [if_neg (by omega)]
    by_cases a : s ∈ N <;> by_cases b : s ∈ O <;> simp [a, b])
  have hs : 0 ≤ s ∧ s < 8 := by omega
  obtain ⟨q, hq⟩ : ∃ q, q = placeV N O s := ⟨_, rfl⟩
  have HQ := Lib.hid hq; clear hq
  have hlt : s < 8 := hs.2
  go_enter Tryz.func62, Tryz.ntmps62
  go_wp2_with fail
  refine (place_any _ N O s w H.out.is HOK.out.len1 HOK.out.len2).mono ?_
  rintro e w1 ⟨rfl, k1⟩
  rw [← HQ.out]
  have K1 := Lib.hid k1; have H1 := Lib.hid (H.out.keep k1 id)
  clear k1
  by_cases hq0 : q = 0
  · subst hq0
    have hn : s ∉ N ++ O := placeV_eq.1 HQ.out.symm
    have hrm := (HOK.out.room hs hn).2
    obtain rfl : v = 0 := by rw [HP.out, ← HQ.out]; rfl
    obtain ⟨hw, hn0, ho0, _⟩ := H1.out
    have HC := Lib.hid hn0; have HD := Lib.hid ho0; have HW := Lib.hid hw
    have hNe : N' = if f = true then N ++ [s] else N := by rw [HN.out]; unfold pushN; simp [← HV.out]
    have hOe : O' = if f = false then O ++ [s] else O := by rw [HO.out]; unfold pushO; simp [← HV.out]
    have HNN := Lib.hid hn; have HNe := Lib.hid hNe; have HOe := Lib.hid hOe
    clear hn0 ho0 hw hn hNe hOe
    cases f with
    | true =>
      go_wp2_with fail
      refine (lpush_any g off cs N s w1 HW.out HC.out (by omega)).mono ?_
      rintro e w2 ⟨⟨v2, rfl⟩, cs2, h2, l2, e2, k2⟩
      have X := Lib.hid (⟨h2, l2, e2, k2⟩ : _ ∧ _ ∧ _ ∧ _)
      clear h2 l2 e2 k2
      go_wp2
      go_ret
      obtain ⟨h2, l2, e2, k2⟩ := X.out
      refine ⟨rfl, ?_⟩
      rw [HNe.out, HOe.out]
      exact ⟨cs2, ⟨h2, l2, HD.out.els e2 (.inr (Nat.le_refl _)), HOK.out.pushNew hs HNN.out⟩, e2.new, (K1.out.mono (fun _ h => h.elim)).trans k2⟩
    | false =>
      go_wp2_with fail
      refine (lpush_any g (off + 9) cs O s w1 HW.out HD.out (by omega)).mono ?_
      rintro e w2 ⟨⟨v2, rfl⟩, cs2, h2, l2, e2, k2⟩
      have X := Lib.hid (⟨h2, l2, e2, k2⟩ : _ ∧ _ ∧ _ ∧ _)
      clear h2 l2 e2 k2
      go_wp2
      go_ret
      obtain ⟨h2, l2, e2, k2⟩ := X.out
      refine ⟨rfl, ?_⟩
      rw [HNe.out, HOe.out]
      exact ⟨cs2, ⟨h2, HC.out.els e2 (.inl (Nat.le_refl _)), l2, HOK.out.pushOld hs HNN.out⟩, e2.old, (K1.out.mono (fun _ h => h.elim)).trans k2⟩
  · have hqb : (q == 0) = false := by simpa using hq0
    obtain rfl : v = 6 := by rw [HP.out, ← HQ.out, if_neg hq0]
    clear hq0
    go_wp2
    go_ret
    exact ⟨rfl, HKEEP.out (by decide) K1.out⟩

set_option maxHeartbeats 400000 in
theorem lpdrop_any (g off : Nat) (cs : Array Value) (N O : List Int) (w : World) (h : LsW w T g off cs N O) :
    Calls Tryz.prog 28 #[.pointer (some ⟨g, off, none⟩)] w fun e w' => e = .returned (.bool (headB N O)) ∧ LsWto w T g off cs (dropN N) (dropO N O) w' := by
  have H := Lib.hid h; clear h
  go_enter Tryz.func28, Tryz.ntmps28
  go_wp2_with fail
  refine (head_any _ N O w H.out.is H.out.ok.len1 H.out.ok.len2).mono ?_
  rintro e w1 ⟨rfl, k1⟩
  have K1 := Lib.hid k1; have H1 := Lib.hid (H.out.keep k1 id); clear k1
  obtain ⟨s, hs⟩ : ∃ s, s = headS N O := ⟨_, rfl⟩
  obtain ⟨b, hb⟩ : ∃ b, b = headB N O := ⟨_, rfl⟩
  generalize headF N O = f
  rw [← hs, ← hb]
  have HS := Lib.hid hs; have HB := Lib.hid hb
  clear hs hb
  cases b with
  | true =>
    have HM : Hid (true = decide (s ∈ N ∨ s ∈ O)) := Lib.hid (by rw [HS.out]; simp [head_mem HB.out.symm])
    go_wp2_with fail
    refine (lpremove_any g off cs N O s true w1 H1.out HM.out).mono ?_
    rintro e w2 ⟨rfl, h2⟩
    have X := Lib.hid h2
    clear h2
    go_wp2
    go_ret
    obtain ⟨cs2, h2, q2, k2⟩ := X.out
    have e2 := erase_both H.out.ok HB.out.symm
    rw [← HS.out] at e2
    rw [e2.1, e2.2] at h2
    exact ⟨ret_b HB.out, cs2, h2, q2, (K1.out.mono (fun _ h => h.elim)).trans k2⟩
  | false =>
    go_wp2
    go_ret
    obtain ⟨rfl, rfl⟩ := none_left HB.out.symm
    exact ⟨rfl, H.out.to K1.out⟩

set_option maxHeartbeats 400000 in
theorem lpback_any (g off : Nat) (cs : Array Value) (N O : List Int) (w : World) (h : LsW w T g off cs N O) :
    Calls Tryz.prog 26 #[.pointer (some ⟨g, off, none⟩)] w fun e w' => e = .returned (.bool (headB N O)) ∧ LsWto w T g off cs (dropN N) (backO N O) w' := by
  have H := Lib.hid h; clear h
  go_enter Tryz.func26, Tryz.ntmps26
  go_wp2_with fail
  refine (head_any _ N O w H.out.is H.out.ok.len1 H.out.ok.len2).mono ?_
  rintro e w1 ⟨rfl, k1⟩
  have K1 := Lib.hid k1; have H1 := Lib.hid (H.out.keep k1 id); clear k1
  obtain ⟨s, hs⟩ : ∃ s, s = headS N O := ⟨_, rfl⟩
  obtain ⟨b, hb⟩ : ∃ b, b = headB N O := ⟨_, rfl⟩
  generalize headF N O = f
  rw [← hs, ← hb]
  have HS := Lib.hid hs; have HB := Lib.hid hb
  clear hs hb
  cases b with
  | true =>
    have HM : Hid (true = decide (s ∈ N ∨ s ∈ O)) := Lib.hid (by rw [HS.out]; simp [head_mem HB.out.symm])
    go_wp2_with fail
    refine (lpremove_any g off cs N O s true w1 H1.out HM.out).mono ?_
    rintro e w2 ⟨rfl, cs2, h2, q2, k2⟩
    have e2 := erase_both H.out.ok HB.out.symm
    rw [← HS.out] at e2
    rw [e2.1, e2.2] at h2
    obtain ⟨hw, hn0, ho0, hok⟩ := h2
    have hl : (dropO N O).length < 8 := by
      have hl := H.out.ok.len
      have hB := HB.out
      cases N with
      | nil =>
        cases O with
        | nil => cases hB
        | cons x r => simp [dropO] at hl ⊢; omega
      | cons x r => simp [dropO] at hl ⊢; omega
    have HC := Lib.hid hn0; have HD := Lib.hid ho0; have Q2 := Lib.hid q2; have HW := Lib.hid hw; have K2 := Lib.hid ((K1.out.mono (fun _ h => h.elim)).trans k2)
    clear hn0 ho0 q2 hw k2 hok e2
    go_wp2_with fail
    refine (lpush_any g (off + 9) cs2 (dropO N O) s w2 HW.out HD.out hl).mono ?_
    rintro e w3 ⟨⟨v3, rfl⟩, cs3, h3, l3, e3, k3⟩
    have X := Lib.hid (⟨h3, l3, e3, k3⟩ : _ ∧ _ ∧ _ ∧ _)
    clear h3 l3 e3 k3
    go_wp2
    go_ret
    obtain ⟨h3, l3, e3, k3⟩ := X.out
    have hbo : dropO N O ++ [s] = backO N O := by
      have hB := HB.out
      rw [HS.out]
      cases N with
      | nil =>
        cases O with
        | nil => cases hB
        | cons x r => rfl
      | cons x r => rfl
    rw [hbo] at l3
    exact ⟨ret_b HB.out, ⟨cs3, ⟨h3, HC.out.els e3 (.inl (Nat.le_refl _)), l3, H.out.ok.back⟩, Q2.out.trans e3.old, K2.out.trans k3⟩⟩
  | false =>
    go_wp2
    go_ret
    obtain ⟨rfl, rfl⟩ := none_left HB.out.symm
    exact ⟨rfl, H.out.to K1.out⟩
end
end Go.Proofs.YtnljjdfajmjdjaaGreat
