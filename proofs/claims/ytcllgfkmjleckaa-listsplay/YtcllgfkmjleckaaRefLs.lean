/-
  The document's own lists (canterref04.Lists), wherever they lie in a block: two slices, each with a row of its own. Conditions: they lie so.
-/
import Derived.Test.YtcllgfkmjleckaaAwakeLs
import Derived.Test.YtcllgfkmjleckaaInI
import Derived.Test.YtcllgfkmjleckaaSchedL
namespace Go.Proofs.Ytcllgfkmjleckaa
open Go.RowKit

/-- The two lists lie in block g, from cell off on: its cells are cs, v1 and v2 are the slices. -/
structure RLat (w : World) (T : TypeId) (g off : Nat) (cs : Array Value) (v1 v2 : Value) (N O : List Int) : Prop where
  whole : Whole w g T cs
  c1 : cs[off]? = some v1
  c2 : cs[off + 1]? = some v2
  o1 : Owns w 3 v1 (iv N)
  o2 : Owns w 3 v2 (iv O)
  ap : ∀ k, v1.ownBlock = some k → v2.ownBlock ≠ some k
  ne : T ≠ 3
def RLto (w : World) (T : TypeId) (g off : Nat) (cs : Array Value) (v1 v2 : Value) (N' O' : List Int) (w' : World) : Prop :=
  ∃ v1' v2', RLat w' T g off ((cs.setIfInBounds off v1').setIfInBounds (off + 1) v2') v1' v2' N' O' ∧ Keep (fun k => k = g ∨ v1.ownBlock = some k ∨ v2.ownBlock = some k) w w' ∧
    (∀ k, v1'.ownBlock = some k → v1.ownBlock = some k ∨ w.heap.size ≤ k) ∧ (∀ k, v2'.ownBlock = some k → v2.ownBlock = some k ∨ w.heap.size ≤ k)
section
variable {w w' : World} {T : TypeId} {g off : Nat} {cs : Array Value} {v1 v2 : Value} {N O : List Int}
theorem RLat.lt1 (h : RLat w T g off cs v1 v2 N O) : off < cs.size := (Array.getElem?_eq_some_iff.1 h.c1).1
theorem RLat.lt2 (h : RLat w T g off cs v1 v2 N O) : off + 1 < cs.size := (Array.getElem?_eq_some_iff.1 h.c2).1
theorem RLat.kept (h : RLat w T g off cs v1 v2 N O) (hk : Keep (fun _ => False) w w') : RLat w' T g off cs v1 v2 N O := ⟨h.whole.keep hk id, h.c1, h.c2, h.o1.keep hk (fun _ _ => id), h.o2.keep hk (fun _ _ => id), h.ap, h.ne⟩
theorem RLat.n1 (h : RLat w T g off cs v1 v2 N O) : v1.ownBlock ≠ some g := h.o1.ne h.whole h.ne
theorem RLat.n2 (h : RLat w T g off cs v1 v2 N O) : v2.ownBlock ≠ some g := h.o2.ne h.whole h.ne
theorem set_same {cs : Array Value} {i : Nat} {v : Value} (h : cs[i]? = some v) : cs.setIfInBounds i v = cs := by
  apply Array.ext_getElem?
  intro j
  by_cases e : j = i
  · subst e; rw [Array.getElem?_setIfInBounds_self_of_lt (Array.getElem?_eq_some_iff.1 h).1, h]
  · rw [Array.getElem?_setIfInBounds_ne (by omega)]
/-- Nothing turned. -/
theorem RLat.to (h : RLat w T g off cs v1 v2 N O) (hk : Keep (fun _ => False) w w') : RLto w T g off cs v1 v2 N O w' := by
  refine ⟨v1, v2, ?_, hk.mono (fun _ h => h.elim), fun k e => .inl e, fun k e => .inl e⟩
  rw [set_same h.c1, set_same h.c2]
  exact h.kept hk
/-- One step behind another. -/
theorem RLto.trans {w1 w2 : World} {u1 u2 : Value} {N'' O'' : List Int} (hk : Keep (fun k => k = g ∨ v1.ownBlock = some k ∨ v2.ownBlock = some k) w w1)
    (n1 : ∀ k, u1.ownBlock = some k → v1.ownBlock = some k ∨ w.heap.size ≤ k) (n2 : ∀ k, u2.ownBlock = some k → v2.ownBlock = some k ∨ w.heap.size ≤ k)
    (t : RLto w1 T g off ((cs.setIfInBounds off u1).setIfInBounds (off + 1) u2) u1 u2 N'' O'' w2) : RLto w T g off cs v1 v2 N'' O'' w2 := by
  obtain ⟨x1, x2, hx, hkx, m1, m2⟩ := t
  have hs := hk.size
  refine ⟨x1, x2, ?_, hk.then hkx (fun i hi hlt => ?_), fun k e => ?_, fun k e => ?_⟩
  · have e : (((cs.setIfInBounds off u1).setIfInBounds (off + 1) u2).setIfInBounds off x1).setIfInBounds (off + 1) x2 = (cs.setIfInBounds off x1).setIfInBounds (off + 1) x2 := by
      apply Array.ext_getElem?
      intro j
      simp only [Array.getElem?_setIfInBounds, Array.size_setIfInBounds]
      by_cases e1 : off + 1 = j
      · rw [if_pos e1, if_pos e1]
      · rw [if_neg e1, if_neg e1]
        by_cases e2 : off = j
        · rw [if_pos e2, if_pos e2, if_neg e1]
        · rw [if_neg e2, if_neg e2, if_neg e1, if_neg e2]
    rw [e] at hx; exact hx
  · rcases hi with h | h | h
    · exact .inl h
    · rcases n1 i h with h | h
      · exact .inr (.inl h)
      · omega
    · rcases n2 i h with h | h
      · exact .inr (.inr h)
      · omega
  · rcases m1 k e with h | h
    · exact n1 k h
    · exact .inr (by omega)
  · rcases m2 k e with h | h
    · exact n2 k h
    · exact .inr (by omega)
end

theorem rplace_any (T : TypeId) (g off : Nat) (cs : Array Value) (v1 v2 : Value) (N O : List Int) (s : Int) (w : World) (h : RLat w T g off cs v1 v2 N O) (hN : N.length ≤ 8) (hO : O.length ≤ 8) :
    Calls Try.prog 21 #[.pointer (some ⟨g, off, none⟩), .int .i64 s] w fun e w' => e = .returned (.int .i64 (placeV N O s)) ∧ w = w' := by
  obtain ⟨a1, c1, hv1, _⟩ := h.o1.shape
  obtain ⟨a2, c2, hv2, _⟩ := h.o2.shape
  rw [len_iv] at hv1 hv2
  subst hv1 hv2
  have d1 := (h.whole.cell off).trans h.c1
  have d2 := (h.whole.cell (off + 1)).trans h.c2
  have R1 := Lib.hid h.o1.rdi; have R2 := Lib.hid h.o2.rdi
  clear h
  go_enter Try.func21, Try.ntmps21
  go_wp2_with fail
  refine (in_int a1 c1 N s _ w (by omega) R1.out rfl).mono ?_
  rintro e w' ⟨rfl, rfl⟩
  by_cases hs : s ∈ N
  · have HS := Lib.hid hs
    have hd : decide (s ∈ N) = true := by simpa using hs
    rw [hd]
    clear hs hd
    go_wp2
    go_ret
    exact ⟨ret_i (by unfold placeV; rw [if_pos HS.out]), rfl⟩
  · have HS := Lib.hid hs
    have hd : decide (s ∈ N) = false := by simpa using hs
    rw [hd]
    clear hs hd
    go_wp2_with fail
    refine (in_int a2 c2 O s _ w (by omega) R2.out rfl).mono ?_
    rintro e w' ⟨rfl, rfl⟩
    by_cases hs : s ∈ O
    · have HO := Lib.hid hs
      have hd : decide (s ∈ O) = true := by simpa using hs
      rw [hd]
      clear hs hd
      go_wp2
      go_ret
      exact ⟨ret_i (by unfold placeV; rw [if_neg HS.out, if_pos HO.out]), rfl⟩
    · have HO := Lib.hid hs
      have hd : decide (s ∈ O) = false := by simpa using hs
      rw [hd]
      clear hs hd
      go_wp2
      go_ret
      exact ⟨ret_i (by unfold placeV; rw [if_neg HS.out, if_neg HO.out]), rfl⟩

theorem rhead_any (T : TypeId) (g off : Nat) (cs : Array Value) (v1 v2 : Value) (N O : List Int) (w : World) (h : RLat w T g off cs v1 v2 N O) :
    Calls Try.prog 18 #[.pointer (some ⟨g, off, none⟩)] w fun e w' => e = .returned (.tuple #[.int .i64 (headS N O), .bool (headF N O), .bool (headB N O)]) ∧ w = w' := by
  obtain ⟨a1, c1, hv1, _⟩ := h.o1.shape
  obtain ⟨a2, c2, hv2, _⟩ := h.o2.shape
  rw [len_iv] at hv1 hv2
  subst hv1 hv2
  have d1 := (h.whole.cell off).trans h.c1
  have d2 := (h.whole.cell (off + 1)).trans h.c2
  cases N with
  | cons x r =>
    obtain ⟨b, o, rfl, _, cx⟩ := h.o1.rdi 0 (by simp)
    have cx' : w.cell? ⟨b, o, none⟩ = some (.int .i64 x) := by simpa using cx
    have hl : (0 : Int) < (((x :: r).length : Nat) : Int) := by simp
    generalize (x :: r).length = n at *
    clear h cx
    go_enter Try.func18, Try.ntmps18
    go_wp2
    go_ret3
    exact ⟨rfl, rfl⟩
  | nil =>
    cases O with
    | cons x r =>
      obtain ⟨b, o, rfl, _, cx⟩ := h.o2.rdi 0 (by simp)
      have cx' : w.cell? ⟨b, o, none⟩ = some (.int .i64 x) := by simpa using cx
      have hl : (0 : Int) < (((x :: r).length : Nat) : Int) := by simp
      generalize (x :: r).length = n at *
      simp only [List.length_nil] at *
      clear h cx
      go_enter Try.func18, Try.ntmps18
      go_wp2
      go_ret3
      exact ⟨rfl, rfl⟩
    | nil =>
      simp only [List.length_nil] at *
      clear h
      go_enter Try.func18, Try.ntmps18
      go_wp2
      go_ret3
      exact ⟨rfl, rfl⟩

theorem take_flt' (l : List Int) (q : Int) {k : Nat} (h : k < l.length) : (l.take (k + 1)).filter (fun x => x != q) = (l.take k).filter (fun x => x != q) ++ if (l.getD k 0 == q) = true then [] else [l.getD k 0] := by
  rw [take_more l h, List.filter_append]
  congr 1
  generalize l.getD k 0 = x
  cases hb : x == q
  · have hn : (x != q) = true := by simp [bne, hb]
    simp only [List.filter_cons, hn, if_true, List.filter_nil, Bool.false_eq_true, if_false]
  · have hn : (x != q) = false := by simp [bne, hb]
    simp only [List.filter_cons, hn, if_true, List.filter_nil, Bool.false_eq_true, if_false]

set_option maxHeartbeats 1000000 in
theorem without_any (a : Option Addr) (c : Nat) (l : List Int) (q : Int) (w : World) (h : Owns w 3 (.slice a l.length c) (iv l)) (h8 : l.length ≤ 4096) :
    Calls Try.prog 25 #[.slice a l.length c, .int .i64 q] w fun e w' => ∃ v', e = .returned v' ∧ Owns w' 3 v' (iv (l.filter (fun x => x != q))) ∧ (∀ k, v'.ownBlock = some k → w.heap.size ≤ k) ∧ Keep (fun _ => False) w w' := by
  have H := Lib.hid h.rdi
  clear h
  obtain ⟨i0, hi, hz0, hz1, hz2⟩ := info_parts Try.infoLs
  have HI := Lib.hid hi; have HZ0 := Lib.hid hz0; have HZ1 := Lib.hid hz1; have HZ2 := Lib.hid hz2; clear hi hz0 hz1 hz2
  obtain ⟨n, hn⟩ : ∃ n, n = l.length := ⟨_, rfl⟩
  have HN := Lib.hid hn
  rw [← hn] at h8 ⊢
  clear hn
  go_enter Try.func25, Try.ntmps25
  go_wp2
  go_loopw [5, 6] (fun s5 i wr => ∃ (j : Nat) (v : Value), j ≤ n ∧ i = .int .i64 j ∧ s5 = v ∧ Owns wr 3 v (iv ((l.take j).filter (fun x => x != q))) ∧ (∀ k, v.ownBlock = some k → w.heap.size ≤ k) ∧ Keep (fun _ => False) w wr) (fun _ i _ => n - (intOf i).toNat)
  case atStart => exact ⟨0, _, by omega, rfl, rfl, Owns.nil _ _, fun k e => (by cases e), Keep.refl _ _⟩
  case round =>
    obtain ⟨j, v, hj, rfl, hv, ho, hnew, hk⟩ := hrel
    obtain ⟨pv, cv, hsv, _⟩ := ho.shape
    have HO := Lib.hid ho; have HW := Lib.hid hnew; have HK := Lib.hid hk
    clear ho hnew hk
    rw [hsv] at hv HO HW
    subst hv
    clear hsv
    by_cases hlt : j < n
    · have hi1 : (j : Int) < (n : Int) := by omega
      obtain ⟨pb, po, rfl, _, cj⟩ := (H.out.keep HK.out) j (by rw [← HN.out]; exact hlt)
      have HTK := Lib.hid (take_flt' l q (k := j) (by rw [← HN.out]; exact hlt))
      obtain ⟨x, hx⟩ : ∃ x, x = l.getD j 0 := ⟨_, rfl⟩
      rw [← hx] at cj HTK
      obtain ⟨m, hm⟩ : ∃ m, m = (l.take j).filter (fun x => x != q) := ⟨_, rfl⟩
      rw [← hm] at HTK HO HW
      rw [← hm]
      have hll : m.length ≤ 4096 := by
        have h1 := List.length_filter_le (fun x => x != q) (l.take j)
        rw [← hm, List.length_take] at h1
        omega
      rw [len_iv] at HO HW ⊢
      clear hx hm
      cases hxq : (x == q) with
      | true =>
        have hxn : (x != q) = false := by simp [bne, hxq]
        rw [hxq] at HTK
        simp only [if_true, List.append_nil] at HTK
        clear hxq
        go_wp2
        go_roundw
        case rel => exact ⟨j + 1, _, by omega, by go_num, rfl, by rw [HTK.out]; exact HO.out, HW.out, HK.out⟩
        case measure => simp [intOf]; omega
      | false =>
        have hxn : (x != q) = true := by simp [bne, hxq]
        rw [hxq] at HTK
        simp only [Bool.false_eq_true, if_false] at HTK
        clear hxq
        go_wp2_with (at_builtin; refine wpList_append_owns rfl _ _ 26 rfl 3 i0 (.int .i64 0) 8 Try.underlying26 HI.out HZ0.out HZ1.out HZ2.out rfl (.slice pv m.length cv) (iv m) rfl (HO.out.alloc _) (some ⟨wr.heap.size, 0, none⟩) 1 1 [.int .i64 x] rfl rfl (fun h => (by cases h)) (one_news wr _ _) (one_iv [x]) (by unfold maxLen; rw [len_iv]; omega) (by rw [len_iv]; omega) ?_; intro v' w6 hown hk6 hnew6 _; rw [app_iv] at hown; have X6 := Lib.hid (⟨hown, hk6, hnew6⟩ : _ ∧ _ ∧ _); clear hown hk6 hnew6)
        go_roundw
        case rel =>
          obtain ⟨x1, x2, x3⟩ := X6.out
          exact ⟨j + 1, _, by omega, by go_num, rfl, by rw [HTK.out]; exact x1, fun k e => by
            rcases x3 k e with h | h
            · exact HW.out k h
            · have := HK.out.size; simp at h; omega, (HK.out.alloc _).then x2 (fun i e hlt => by have := HW.out i e; omega)⟩
        case measure => simp [intOf]; omega
    · obtain rfl : j = n := by omega
      have hall : (l.take j) = l := List.take_of_length_le (by rw [← HN.out]; omega)
      rw [hall] at HO HW ⊢
      clear hlt hj hall
      go_wp2
      go_ret
      exact ⟨_, rfl, HO.out, HW.out, HK.out⟩
end Go.Proofs.Ytcllgfkmjleckaa
