/-
  A line of sockets: what is in it, one more behind all, one taken out. slices.Index, slices.Delete at []int. Conditions: the line lies in memory as a line does.
  A range over a function whose own body ranges over another function: the iterator lays and turns records of its own. What it asks of a round, and the law for the caller. No program is spoken of. Conditions: none.
-/
import Derived.Test.YtnljjdfajmjdjaaJ02
import Derived.Test.YtnljjdfajmjdjaaJ01
import Derived.WalkSpells
import Derived.WalkLawsBesides
import Derived.LoopTactic
import Derived.OwnWalk
import Derived.Deep.QuietTactic
import Derived.BigQuiet
import Derived.BigRegion
import Derived.Deep.RegionLaw
import Derived.Deep.Draws
import Derived.RangeFuncNested
import Derived.RangeFuncBound
import Derived.RangeFuncLeaves
import Derived.Shelf.Abstract
namespace Go.Proofs.Ytnljjdfajmjdjaa
open Go.RowKit
set_option maxRecDepth 100000

theorem Try.infoLs : (Try.prog.info? 3).map (fun i => (i.zero, i.size, i.bytes)) = some (some (.int .i64 0), 1, 8) := by kernel_rfl
theorem Try.partsLs : ∃ i : TypeInfo, Try.prog.info? 3 = some i ∧ i.zero = some (.int .i64 0) ∧ i.size = 1 ∧ i.bytes = 8 := by
  have h := Try.infoLs
  cases hi : Try.prog.info? 3 with
  | none => rw [hi] at h; cases h
  | some i =>
    rw [hi] at h
    simp at h
    exact ⟨i, rfl, h.1, h.2.1, h.2.2⟩

theorem in_any {Tb : TypeId} (g off : Nat) (cs : Array Value) (N : List Int) (w : World) (h : Whole w g Tb cs) (hl : LineC cs off N) (hn : N.length ≤ 8) :
    Calls Try.prog 84 #[.pointer (some ⟨g, off, none⟩)] w fun e w' => e = .returned (.slice (some ⟨g, off, none⟩) N.length 8) ∧ ∃ n, w' = w.drewN n := by
  have c8 := (h.cell (off + 8)).trans hl.count
  have hn' : (N.length : Int) ≤ 8 := by omega
  clear h hl
  go_enter Try.func84, Try.ntmps84
  go_wp2
  go_quiet (fail)
  go_wp2
  go_ret
  exact ⟨rfl, _, rfl⟩

set_option maxHeartbeats 400000 in
theorem lpush_any {Tb : TypeId} (g off : Nat) (cs : Array Value) (N : List Int) (x : Int) (w : World) (h : Whole w g Tb cs) (hl : LineC cs off N) (hn : N.length < 8) :
    Calls Try.prog 64 #[.pointer (some ⟨g, off, none⟩), .int .i64 x] w fun e w' => (∃ v, e = .returned v) ∧ ∃ cs', Whole w' g Tb cs' ∧ LineC cs' off (N ++ [x]) ∧ Else off cs cs' ∧ Keep (fun k => k = g) w w' := by
  have hr := hl.room
  obtain ⟨k, hk⟩ : ∃ k, k = N.length := ⟨_, rfl⟩
  have c8 : w.cell? ⟨g, off + 8, none⟩ = some (.int .i64 (k : Int)) := (h.cell (off + 8)).trans (by rw [hk]; exact hl.count)
  have ck := (h.cell (off + k)).trans (hl.cell (j := k) (by omega))
  have fk := h.free (off + k)
  have f8 := h.free (off + 8)
  have h1 := h.put (off + k) (.int .i64 x)
  have c8' := (h1.cell (off + 8)).trans ((Array.getElem?_setIfInBounds_ne (by omega)).trans (by rw [hl.count, ← hk]))
  have f8' := h1.free (off + 8)
  have hk8 : (k : Int) < 8 := by omega
  have hw : IntKind.i64.wrap ((k : Int) + 1) = (k : Int) + 1 := by rw [IntKind.wrap_i64]; omega
  have H := Lib.hid h; have HL := Lib.hid hl; have H1 := Lib.hid h1; have HK := Lib.hid hk; have HN := Lib.hid hn
  clear h hl h1 hk hn
  go_enter Try.func64, Try.ntmps64
  go_wp2
  go_region
  go_wp2
  go_end0
  have hk := HK.out
  refine ⟨⟨_, rfl⟩, _, (H1.out.put (off + 8) (.int .i64 ((k : Int) + 1))).drew, ?_, ?_, ?_⟩
  · refine LineC.of (fun j hj => ?_) ?_
    · rw [Array.getElem?_setIfInBounds_ne (by omega)]
      by_cases e : j = k
      · subst e
        rw [Array.getElem?_setIfInBounds_self_of_lt (by omega)]
        simp [hk]
      · rw [Array.getElem?_setIfInBounds_ne (by omega), HL.out.cell hj]
        by_cases e2 : j < N.length
        · simp [e2, List.getElem?_append_left]
        · rw [List.getD_eq_getElem?_getD, List.getD_eq_getElem?_getD, List.getElem?_eq_none (by omega), List.getElem?_eq_none (by simp; omega)]
    · rw [Array.getElem?_setIfInBounds_self_of_lt (by simp; omega)]
      simp [hk]
  · exact ⟨by simp, fun j hj => by rw [Array.getElem?_setIfInBounds_ne (by omega), Array.getElem?_setIfInBounds_ne (by omega)]⟩
  · exact (((Keep.refl (fun k => k = g) w).setCell (p := ⟨g, off + k, none⟩) (.inl rfl) _).setCell (p := ⟨g, off + 8, none⟩) (.inl rfl) _).drew

/-! ### slices.Index -/
set_option maxHeartbeats 400000 in
theorem index_any {Tb : TypeId} (g off : Nat) (cs : Array Value) (N : List Int) (x : Int) (w : World) (h : Whole w g Tb cs) (hl : LineC cs off N) (hn : N.length ≤ 8) (r : Int) (hr : r = if x ∈ N then (N.idxOf x : Int) else -1) :
    Calls Try.prog 89 #[.slice (some ⟨g, off, none⟩) N.length 8, .int .i64 x] w fun e w' => e = .returned (.int .i64 r) ∧ w = w' := by
  have HC : Hid (∀ j, j < N.length → w.cell? ⟨g, off + j, none⟩ = some (.int .i64 (N.getD j 0))) := Lib.hid fun j hj => (h.cell (off + j)).trans (hl.cell (by omega))
  have HR := Lib.hid hr
  clear h hl hr
  go_enter Try.func89, Try.ntmps89
  go_wp2
  go_loop [8] (fun i => ∃ k : Nat, k ≤ N.length ∧ i = .int .i64 k ∧ x ∉ N.take k) (fun i => N.length - (intOf i).toNat)
  case atStart => exact ⟨0, Nat.zero_le _, rfl, by simp⟩
  case round =>
    obtain ⟨k, hk, rfl, hnot⟩ := hrel
    by_cases hlt : k < N.length
    · have c1 := HC.out k hlt
      have hi1 : (k : Int) < (N.length : Int) := by omega
      have hg : N.getD k 0 = N[k] := by simp [hlt]
      have htk : N.take (k + 1) = N.take k ++ [N.getD k 0] := by rw [hg, List.take_succ_eq_append_getElem hlt]
      by_cases e : N.getD k 0 = x
      · have HE : Hid (r = (k : Int)) := Lib.hid (by
          have hmem : x ∈ N := by rw [← e, hg]; exact List.getElem_mem _
          have hi : N.idxOf x = k := by
            have hsplit : N = N.take k ++ x :: N.drop (k + 1) := by
              conv => lhs; rw [← List.take_append_drop (k + 1) N]
              rw [htk, e]; simp
            rw [hsplit, List.idxOf_append, if_neg hnot]
            simp; omega
          rw [HR.out, if_pos hmem, hi])
        have hq : (x == N.getD k 0) = true := by rw [e]; simp
        clear HC HR htk hnot hg e
        generalize N.getD k 0 = y at *
        go_wp2
        try rw [Exit.noGoto_ret]
        go_ret
        exact ⟨ret_i HE.out.symm, rfl⟩
      · have HN : Hid (x ∉ N.take (k + 1)) := Lib.hid (by rw [htk]; simp; exact ⟨hnot, fun h => e (by rw [h]; simp)⟩)
        have hq : (x == N.getD k 0) = false := by simpa using fun h => e h.symm
        clear HC HR htk hnot hg e
        generalize N.getD k 0 = y at *
        go_wp2
        go_round
        case rel => exact ⟨k + 1, by omega, by go_num, HN.out⟩
        case measure => simp [intOf]; omega
    · have hk' : N.take k = N := List.take_of_length_le (by omega)
      have HE : Hid (r = -1) := Lib.hid (by rw [hk'] at hnot; rw [HR.out, if_neg hnot])
      clear HC HR hnot hk'
      go_wp2
      go_ret
      exact ⟨ret_i HE.out.symm, rfl⟩

/-! ### slices.Delete of one -/
set_option maxHeartbeats 2000000 in
set_option maxRecDepth 100000 in
theorem delete_any {Tb : TypeId} (g off n i : Nat) (cs : Array Value) (N : List Int) (w : World) (h : Whole w g Tb cs) (hl : LineC cs off N) (hn : n = N.length) (hn8 : n ≤ 8) (hi : i < n) :
    Calls Try.prog 90 #[.slice (some ⟨g, off, none⟩) n 8, .int .i64 i, .int .i64 ((i : Int) + 1)] w fun e w' => e = .returned (.slice (some ⟨g, off, none⟩) (n - 1) 8) ∧
      ∃ cs', Whole w' g Tb cs' ∧ (∀ j, j < 8 → cs'[off + j]? = some (.int .i64 ((N.eraseIdx i).getD j 0))) ∧ cs'.size = cs.size ∧ (∀ j, j < off ∨ off + 8 ≤ j → cs'[j]? = cs[j]?) ∧ Keep (fun k => k = g) w w' := by
  have hr := hl.room
  obtain ⟨i0, hi0, hz0, hz1, hz2⟩ := Try.partsLs
  have HI := Lib.hid hi0; have HZ1 := Lib.hid hz1; clear hi0 hz0 hz1 hz2
  have hz3 : ∀ W, (zeroValue 3).run Try.prog W = .ok (.int .i64 0) W := Try.zeroValue3
  -- the cells that are moved to the left
  obtain ⟨news, hnews⟩ : ∃ news : List Value, news = (N.drop (i + 1)).map (fun z => Value.int .i64 z) := ⟨_, rfl⟩
  have hlen : news.length = n - (i + 1) := by rw [hnews, hn]; simp
  have hget : ∀ t, t < n - (i + 1) → news[t]? = some (.int .i64 (N.getD (i + 1 + t) 0)) := fun t ht => by
    rw [hnews, List.getElem?_map, List.getElem?_drop, List.getElem?_eq_getElem (by omega)]
    simp; rw [List.getElem?_eq_getElem (by omega)]; rfl
  obtain ⟨A, hA, hsrc⟩ : ∃ A : Addr, (if 8 = i + 1 then some (⟨g, off, none⟩ : Addr) else some ⟨g, off + (i + 1), none⟩) = some A ∧ Hid (∀ t u, news[t]? = some u → w.drew.cell? (A.add t) = some u) := by
    by_cases h8 : 8 = i + 1
    · refine ⟨⟨g, off, none⟩, by simp [h8], Lib.hid fun t u hu => ?_⟩
      have h0 : news.length = 0 := by rw [hlen]; omega
      rw [List.length_eq_zero_iff.1 h0] at hu
      simp at hu
    · refine ⟨⟨g, off + (i + 1), none⟩, by simp [h8], Lib.hid fun t u hu => ?_⟩
      have ht : t < n - (i + 1) := by
        have := (List.getElem?_eq_some_iff.1 hu).1
        rwa [hlen] at this
      rw [hget t ht] at hu
      rw [Addr.add_lit, show off + (i + 1) + t = off + (i + 1 + t) by omega]
      exact ((h.cell (off + (i + 1 + t))).trans (hl.cell (by omega))).trans hu
  have s1 : Hid (news.length = (n - (i + 1)) * 1) := Lib.hid (by rw [Nat.mul_one]; exact hlen)
  have s2 : Hid (∀ u ∈ news, u.oneCell' = true) := Lib.hid fun u hu => by
    rw [hnews] at hu
    obtain ⟨x, _, rfl⟩ := List.mem_map.1 hu
    rfl
  have s3 : Hid (∀ t, t < news.length → (w.drew.cell? ⟨g, off + i * 1 + t, none⟩).isSome = true ∧ w.drew.frozen? ⟨g, off + i * 1 + t, none⟩ = false) := Lib.hid fun t ht => by
    rw [hlen] at ht
    rw [Nat.mul_one, Nat.add_assoc]
    exact ⟨by show (w.cell? _).isSome = true; rw [(h.cell (off + (i + t))).trans (hl.cell (by omega))]; rfl, h.free _⟩
  obtain ⟨W1, hW1⟩ : ∃ W1, W1 = w.drew.setCells g (off + i * 1) news := ⟨_, rfl⟩
  have hw1 : Whole W1 g Tb (Lib.lay cs (off + i) news) := by rw [hW1, Nat.mul_one]; exact h.drew.puts news (off + i)
  have hk1 : Keep (fun k => k = g) w W1 := by rw [hW1]; exact Keep.setCells (S := fun k => k = g) (g := g) rfl news _ (Keep.refl _ w).drew
  have hcs1 : ∀ t, t < cs.size → (W1.cell? ⟨g, t, none⟩).isSome = true := fun t ht => by
    rw [hw1.cell, Array.getElem?_eq_getElem (by rw [Lib.lay_size]; omega)]; rfl
  have hcl : ∀ ty, (Builtin.clear_ #[55] ty #[.slice (some ⟨g, off + (i + (n - (i + 1))), none⟩) (n - (i + (n - (i + 1)))) (8 - (i + (n - (i + 1))))]).run Try.prog W1 = .ok (.tuple #[]) (W1.setCells g (off + (i + (n - (i + 1)))) (List.replicate (n - (i + (n - (i + 1)))) (.int .i64 0))) :=
    fun ty => Lib.run_clear_slice W1 _ _ ty _ Try.underlying55 hz3 rfl rfl g (off + (i + (n - (i + 1)))) _ _ (by omega) (fun t ht => hcs1 _ (by omega)) (fun t ht => hw1.free _)
  have HW1 := Lib.hid hw1; have HK1 := Lib.hid hk1; have HL := Lib.hid hl; have HLEN := Lib.hid hlen; have HGET := Lib.hid hget; have HNN := Lib.hid hn
  have hW : Hid (W1 = w.drew.setCells g (off + i * 1) news) := Lib.hid hW1
  have hic : i ≤ 8 := by omega
  have hii : (i : Int) ≤ 8 := by omega
  have hin : (i : Int) ≤ (n : Int) := by omega
  have hni : (n : Int) ≤ 8 := by omega
  have hw0 : ((i : Int) + 1) = ((i + 1 : Nat) : Int) := by omega
  rw [hw0]
  clear hW1 hw1 hk1 hcs1 h hl hget hnews hlen hw0 hn
  obtain ⟨j, hj⟩ : ∃ j, j = i + 1 := ⟨_, rfl⟩
  rw [← hj] at hA hcl s1 ⊢
  have hne : ((i : Int) == (j : Int)) = false := by simp; omega
  have hjj : (j : Int) ≤ 8 := by omega
  have hjn : (j : Int) ≤ (n : Int) := by omega
  have hij : (i : Int) ≤ (j : Int) := by omega
  have hjc : j ≤ 8 := by omega
  have hij' : i ≤ j := by omega
  have hjn' : j ≤ n := by omega
  have hx1 : ¬ (8 = i + (n - j)) := by omega
  have hx2 : ¬ (i + (n - j) = 8) := by omega
  have HJ := Lib.hid hj
  clear hj
  go_enter Try.func90, Try.ntmps90
  go_wp2_with fail
  go_region_law (refine step_append_room rfl (.tmp 22) (.tmp 25) 55 rfl 3 i0 1 Try.underlying55 HI.out HZ1.out g off i 8 (by simp [Act.eval, Act.put]) A (n - j) (8 - j) news (by simp [Act.eval, Act.put]) s1.out hsrc.out s2.out (by omega) s3.out ?_; rw [← hW.out])
  go_wp2
  go_ret
  have hj := HJ.out; have hn := HNN.out; have hlen := HLEN.out
  refine ⟨by rw [show i + (n - j) = n - 1 by omega]; rfl, _, HW1.out.puts _ _, fun t ht => ?_, by rw [Lib.lay_size, Lib.lay_size], fun t ht => ?_, Keep.setCells (S := fun k => k = g) rfl _ _ HK1.out⟩
  · have hE : (N.eraseIdx i).getD t 0 = if t < i then N.getD t 0 else N.getD (t + 1) 0 := by
      rw [List.getD_eq_getElem?_getD, List.getElem?_eraseIdx]
      split <;> rw [List.getD_eq_getElem?_getD]
    rw [lay_at _ _ _ _ (by rw [Lib.lay_size, List.length_replicate]; omega), lay_at _ _ _ _ (by rw [hlen]; omega), hE, List.length_replicate, hlen]
    by_cases c1 : t = n - 1
    · rw [if_pos (by omega), if_neg (by omega), List.getElem?_replicate, if_pos (by omega), List.getD_eq_getElem?_getD, List.getElem?_eq_none (by omega)]
      rfl
    · rw [if_neg (by omega)]
      by_cases c2 : t < i
      · rw [if_neg (by omega), if_pos c2, HL.out.cell ht]
      · rw [if_neg c2]
        by_cases c3 : t < n - 1
        · rw [if_pos (by omega), HGET.out _ (by omega), show i + 1 + (off + t - (off + i)) = t + 1 by omega]
        · rw [if_neg (by omega), HL.out.cell ht, List.getD_eq_getElem?_getD, List.getD_eq_getElem?_getD, List.getElem?_eq_none (by omega), List.getElem?_eq_none (by omega)]
  · rw [lay_at _ _ _ _ (by rw [Lib.lay_size, List.length_replicate]; omega), lay_at _ _ _ _ (by rw [hlen]; omega), List.length_replicate, hlen, if_neg (by omega), if_neg (by omega)]

/-! ### One taken out -/
theorem erase_eq (N : List Int) (x : Int) : N.erase x = N.eraseIdx (N.idxOf x) := by rw [List.erase_eq_eraseIdx_of_idxOf]; rfl

set_option maxHeartbeats 400000 in
theorem lremove_any {Tb : TypeId} (g off : Nat) (cs : Array Value) (N : List Int) (x : Int) (w : World) (h : Whole w g Tb cs) (hl : LineC cs off N) (hn : N.length ≤ 8) (b : Bool) (hb : b = decide (x ∈ N)) :
    Calls Try.prog 76 #[.pointer (some ⟨g, off, none⟩), .int .i64 x] w fun e w' => e = .returned (.bool b) ∧ ∃ cs', Whole w' g Tb cs' ∧ LineC cs' off (N.erase x) ∧ Else off cs cs' ∧ Keep (fun k => k = g) w w' := by
  have H := Lib.hid h; have HL := Lib.hid hl; have HN := Lib.hid hn; have HB := Lib.hid hb; have hr := hl.room
  clear h hl hn hb
  obtain ⟨r, hr0⟩ : ∃ r : Int, r = if x ∈ N then (N.idxOf x : Int) else -1 := ⟨_, rfl⟩
  have HR := Lib.hid hr0; clear hr0
  go_enter Try.func76, Try.ntmps76
  go_wp2_with fail
  refine (in_any g off cs N _ H.out HL.out HN.out).mono ?_
  rintro e w1 ⟨rfl, n1, hw1⟩
  have H1 : Hid (Whole w1 g Tb cs) := Lib.hid (by rw [hw1]; exact H.out.drewN n1)
  have K1 : Hid (Keep (fun k => k = g) w w1) := Lib.hid (by rw [hw1]; exact (Keep.refl _ w).drewN n1)
  clear hw1
  go_wp2_with fail
  refine (index_any g off cs N x w1 H1.out HL.out HN.out r HR.out).mono ?_
  rintro e w1' ⟨rfl, rfl⟩
  by_cases hx : x ∈ N
  · obtain ⟨i, hi⟩ : ∃ i, i = N.idxOf x := ⟨_, rfl⟩
    have hri : r = (i : Int) := by rw [HR.out, if_pos hx, hi]
    have hil : i < N.length := by rw [hi]; exact List.idxOf_lt_length_of_mem hx
    subst hri
    have hge : ¬ ((i : Int) < 0) := by omega
    have hge' : decide ((i : Int) < 0) = false := by simp
    have hw : IntKind.i64.wrap ((i : Int) + 1) = (i : Int) + 1 := by rw [IntKind.wrap_i64]; have := HN.out; omega
    have HX := Lib.hid hx; have HII := Lib.hid hi; clear hx hi HR
    obtain ⟨n, hn⟩ : ∃ n, n = N.length := ⟨_, rfl⟩
    have HNL := Lib.hid hn
    have hn8 : n ≤ 8 := by have := HN.out; omega
    have hi8 : i < n := by omega
    rw [← hn]
    clear hn
    go_wp2_with fail
    refine (in_any g off cs N _ H1.out HL.out HN.out).mono ?_
    rintro e w2 ⟨rfl, n2, hw2⟩
    have H2 : Hid (Whole w2 g Tb cs) := Lib.hid (by rw [hw2]; exact H1.out.drewN n2)
    have K2 : Hid (Keep (fun k => k = g) w w2) := Lib.hid (by rw [hw2]; exact K1.out.drewN n2)
    clear hw2
    rw [← HNL.out]
    go_wp2_with fail
    refine (delete_any g off n i cs N w2 H2.out HL.out HNL.out hn8 hi8).mono ?_
    rintro e w3 ⟨rfl, cs', h3, hc3, hs3, he3, k3⟩
    have f8 := h3.free (off + 8)
    have c8 := (h3.cell (off + 8)).trans ((he3 _ (by omega)).trans HL.out.count)
    have X3 := Lib.hid h3; have C3 := Lib.hid hc3; have S3 := Lib.hid hs3; have E3 := Lib.hid he3; have K3 := Lib.hid (K2.out.trans k3)
    clear h3 hc3 hs3 he3 k3
    have hcast : ((n - 1 : Nat) : Int) = ((n - 1 : Nat) : Int) := rfl
    go_wp2
    go_ret
    have hn := HNL.out
    have hE : N.erase x = N.eraseIdx i := by rw [HII.out]; exact erase_eq N x
    refine ⟨ret_b (by rw [HB.out]; simp [HX.out]), _, X3.out.put (off + 8) (.int .i64 ((n - 1 : Nat) : Int)), ?_, ?_, K3.out.setCell (p := ⟨g, off + 8, none⟩) (.inl rfl) _⟩
    · refine LineC.of (fun j hj => ?_) ?_
      · rw [Array.getElem?_setIfInBounds_ne (by omega), C3.out j hj, hE]
      · rw [Array.getElem?_setIfInBounds_self_of_lt (by rw [S3.out]; omega), hE, List.length_eraseIdx, if_pos (by omega), hn]
    · exact ⟨by rw [Array.size_setIfInBounds, S3.out], fun j hj => by rw [Array.getElem?_setIfInBounds_ne (by omega), E3.out j (by omega)]⟩
  · obtain rfl : r = -1 := by rw [HR.out, if_neg hx]
    have HX := Lib.hid hx; clear hx HR
    go_wp2
    go_ret
    refine ⟨ret_b (by rw [HB.out]; simp [HX.out]), cs, H1.out, by rw [List.erase_of_not_mem HX.out]; exact HL.out, Else.refl _ _, K1.out⟩
end Go.Proofs.Ytnljjdfajmjdjaa
namespace Go.Proofs.Ytnljjdfajmjdjaa
open Go.RowKit Go.Shelf
set_option maxRecDepth 100000
variable {F : Fence} {n : Nat} {P : Program}

theorem RoundIn.anyRoom {F : Fence} (hd : F.depth = none) {m m' : Nat} {P : Program} {l : Nat} {f : FuncId} {tmps : Array Value} {assign body : Code} {w : World} {R : Ending → World → Prop}
    (h : RoundIn F m P l f tmps assign body w R) : RoundIn F m' P l f tmps assign body w R := ⟨h.1, fun c cs _ => h.2 c cs (fun _ e => by rw [hd] at e; cases e)⟩
theorem YieldAt.anyRoom {F : Fence} (hd : F.depth = none) {m : Nat} (m' : Nat) {P : Program} {l : Nat} {args : Array Value} {W : World} {R : Ending → World → Prop} (h : YieldAt F m P l args W R) : YieldAt F m' P l args W R := by
  obtain ⟨fn, tmps, assign, body, hy, hR⟩ := h
  exact ⟨fn, tmps, assign, body, hy, RoundIn.anyRoom hd hR⟩

/-- What a round says to such an iterator, which began where the heap had B blocks: it goes on (and has turned no block that was there but those of R), or it ends; no record from B on has turned. -/
def Rounds {α : Type} (F : Fence) (m : Nat) (P : Program) (l : Nat) (encs : α → Array Value) (R : Nat → Prop) (N B : Nat) (J Jx : List α → World → Prop) : Prop :=
  ∀ pre x W, J pre W → pre.length < N → YieldAt F m P l (encs x) W fun e W' => KeepsFrom B W W' ∧
    ((e = .returned (.bool true) ∧ J (pre ++ [x]) W' ∧ Keep R W W') ∨ (e = .returned (.bool false) ∧ Jx (pre ++ [x]) W'))
/-- What such an iterator does: all of S, in order, or a part, of Sp. -/
def Gives {α : Type} (F : Fence) (m : Nat) (P : Program) (g : Nat) (lb : Array Value) (encs : α → Array Value) (R : Nat → Prop) (S Sp : List α → Prop) (N : Nat) (w : World) : Prop :=
  ∀ (l : Nat) (J Jx : List α → World → Prop) (W : World), Below w.heap.size w W → OwnFrom W.heap.size J → OwnFrom W.heap.size Jx → Rounds F (m - 1) P l encs R N W.heap.size J Jx → J [] W →
    CallsIn F m P g (#[.func (.yield l) #[] #[]] ++ lb) W fun e W' => (∃ v, e = .returned v) ∧ ((∃ xs, S xs ∧ J xs W') ∨ (∃ pre, Sp pre ∧ Jx pre W'))

theorem grown_far {W W' : World} {row : Option Nat} {B k : Nat} {o : Obj} (hg : W.grownBy W' row) (hr : ∀ r, row = some r → B ≤ r ∧ ∃ o : Obj, W.heap[r]? = some o ∧ o.isCells = false) (hk : k < B) (h : W.heap[k]? = some o) : W'.heap[k]? = some o :=
  (hg.block k (Array.getElem?_eq_some_iff.1 h).1 (fun e => by have := (hr k e.symm).1; omega)).trans h

/-- Turned, and turned back. -/
theorem keep_back {R : Nat → Prop} {W W3 : World} {l : Nat} {o o' : Obj} (hl : W.heap[l]? = some o) (h : Keep R (W.putObj l o') W3) : Keep R W (W3.putObj l o) := by
  have hs : W.heap.size ≤ W3.heap.size := by have := h.size; simpa [World.putObj] using this
  refine ⟨h.os, h.tape, h.output, by simpa [World.putObj] using hs, fun k hk hR => ?_⟩
  have hlt := (Array.getElem?_eq_some_iff.1 hl).1
  by_cases e : k = l
  · subst e
    rw [World.putObj_heap_same (Nat.lt_of_lt_of_le hlt hs), hl]
  · rw [World.putObj_heap_other e, h.block k (by simpa [World.putObj] using hk) hR, World.putObj_heap_other e]

theorem range_law {α : Type} {g : Operand} {ps : Array Tmp} {assign body : Code} {Q : Exit → Act → World → Prop} {a : Act} {w : World}
    (hro : F.round = none) (h1 : 1 ≤ n) {gf : Nat} {lb : Array Value} (hg : a.eval g = .func (.func gf) #[] lb) (hFg : F.fn gf) (eg : ∀ args w, (callFunc gf args).run P w = .ok (.enter gf args) w)
    {encs : α → Array Value} {R : Nat → Prop} {S Sp : List α → Prop} {N : Nat} {w0 : World} (hseq : Gives F (n - 1) P gf lb encs R S Sp N w0) (hb0 : Below w0.heap.size w0 w) (hps : ∀ x, (encs x).size = ps.size)
    (I : List α → World → Prop) (Ix : Code → List α → World → Prop) (hI : OwnFrom w.heap.size I) (hIx : ∀ c, OwnFrom w.heap.size (Ix c)) (h0 : I [] w) (a₁ : α → Act)
    (hassign : ∀ (l : Nat) (x : α) (W : World) (K : Act → World → Prop), K (a₁ x) W →
      assign.wpIn (F.inRound l) (n - 1 - 1) P (Exit.then K (fun _ _ _ => False)) { tmps := (ps.zip (encs x)).foldl (fun t (p, v) => t.setIfInBounds p v) a.tmps, defers := [] } W)
    (hbody : ∀ (l : Nat) (pre : List α) (x : α) (W : World), I pre W → pre.length < N → body.wpIn (F.inRound l) (n - 1 - 1) P (ownPostG w.heap.size (Keep R) I Ix (pre ++ [x]) W) (a₁ x) W)
    (hdone : ∀ (D : Nat) (xs : List α) (W : World), w.heap.size ≤ D → S xs → I xs W → W.heap[D]? = some (.deferred (some [])) → Q .normal { a with defers := { target := .collected D, args := #[] } :: a.defers } W)
    (hstop : ∀ (D : Nat) (c : Code) (pre : List α) (W : World), w.heap.size ≤ D → Sp pre → Ix c pre W → W.heap[D]? = some (.deferred (some [])) → c.wpIn F n P Q { a with defers := { target := .collected D, args := #[] } :: a.defers } W) :
    (Code.rangeFunc g ps assign body).wpIn F n P Q a w := by
  refine wpIn_rangeFunc fun fn hfn => ?_
  rw [hro]
  obtain ⟨rc, hrc⟩ : ∃ rc : LoopState → Option Code → Obj, rc = fun st pe => .loop { state := st, pending := pe, fn, tmps := a.tmps, params := ps, assign, body, defers := w.heap.size } := ⟨_, rfl⟩
  obtain ⟨d, hd⟩ : ∃ d, d = w.heap.size := ⟨_, rfl⟩
  obtain ⟨l, hl⟩ : ∃ l, l = d + 1 := ⟨_, rfl⟩
  obtain ⟨W1, hW1⟩ : ∃ W1, W1 = (w.alloc (.deferred (some []))).alloc (rc .ready none) := ⟨_, rfl⟩
  have hs1 : W1.heap.size = d + 2 := by rw [hW1, hd]; simp
  have hL1 : W1.heap[l]? = some (rc .ready none) := by
    have := World.alloc_heap_new (w.alloc (.deferred (some []))) (rc .ready none)
    rw [World.size_alloc] at this
    rw [hW1, hl, hd]; exact this
  have hD1 : W1.heap[d]? = some (.deferred (some [])) := by
    rw [hW1, hd]; exact (Below.heap_alloc _ _ _ (by simp)).trans (World.alloc_heap_new w _)
  have hI1 : I [] W1 := by rw [hW1]; exact hI.alloc _ (hI.alloc _ h0)
  have hb1 : Below w0.heap.size w0 W1 := by
    rw [hW1]; exact hb0.trans ((((Below.refl _ w).alloc (Nat.le_refl _) _).alloc (by simp) _).mono hb0.size)
  have hcall := hseq l
    (fun pre W => I pre W ∧ W.heap[l]? = some (rc .ready none) ∧ W.heap[d]? = some (.deferred (some [])))
    (fun pre W => ∃ c, Ix c pre W ∧ W.heap[l]? = some (rc .done (some c)) ∧ W.heap[d]? = some (.deferred (some [])))
    W1 hb1
    (fun s A B row hs hgr hr => ⟨hI s A B row hs.1 hgr (fun r e => ⟨by have := (hr r e).1; omega, (hr r e).2⟩), grown_far hgr hr (by omega) hs.2.1, grown_far hgr hr (by omega) hs.2.2⟩)
    (fun s A B row hs hgr hr => by
      obtain ⟨c, hc, hcl, hcd⟩ := hs
      exact ⟨c, hIx c s A B row hc hgr (fun r e => ⟨by have := (hr r e).1; omega, (hr r e).2⟩), grown_far hgr hr (by omega) hcl, grown_far hgr hr (by omega) hcd⟩)
    (by
      rintro pre x W ⟨hi, hlp, hdf⟩ hlen
      have hlt : l < W.heap.size := (Array.getElem?_eq_some_iff.1 hlp).1
      have hlp' := hlp
      rw [hrc] at hlp'
      obtain ⟨ob, hob⟩ : ∃ ob : Obj, ob = rc .busy none := ⟨_, rfl⟩
      have hob' := hob
      rw [hrc] at hob'
      have hbr : (Instr.beginRound l).run P W = .ok () (W.putObj l ob) := by rw [hob']; exact run_beginRound hlp' rfl
      refine ⟨fn, _, assign, body, run_yield (P := P) (args := encs x) hlp' (hps x), roundIn_of_wpIn hfn (hassign _ x W _ ⟨_, hbr, ?_⟩)⟩
      have hbz : (W.putObj l ob).heap[l]? = some ob := World.putObj_heap_same hlt
      have hbd : (W.putObj l ob).heap[d]? = some (.deferred (some [])) := (World.putObj_heap_other (by omega)).trans hdf
      have hnc : ob.isCells = false := by rw [hob']; rfl
      refine wpIn_mono (hbody _ pre x _ (hI.putObj _ hi (by omega) hlp (by rw [hrc]; rfl)) hlen) ?_
      have fin : ∀ (jump : Option Code) (W3 : World), KeepsFrom w.heap.size (W.putObj l ob) W3 → ∃ o3 : Obj, o3 = rc (if jump.isNone then .ready else .done) jump ∧
          (Instr.endRound l jump).run P W3 = .ok (.bool jump.isNone) (W3.putObj l o3) ∧ W3.heap[l]? = some ob ∧ (W3.putObj l o3).heap[l]? = some o3 ∧ (W3.putObj l o3).heap[d]? = some (.deferred (some [])) ∧ KeepsFrom W1.heap.size W (W3.putObj l o3) := fun jump W3 hk3 => by
        have hl3 := hk3.same l ob (by omega) hbz hnc
        have hd3 := hk3.same d _ (by omega) hbd rfl
        have hl3' := hl3
        rw [hob'] at hl3'
        refine ⟨_, rfl, ?_, hl3, World.putObj_heap_same (Array.getElem?_eq_some_iff.1 hl3).1, (World.putObj_heap_other (by omega)).trans hd3, ?_, fun k o hk hko ho => ?_⟩
        · rw [hrc]; exact run_endRound (P := P) jump hl3'
        · have := hk3.size
          simpa [World.putObj] using this
        · exact (World.putObj_heap_other (by omega)).trans (hk3.same k o (by omega) ((World.putObj_heap_other (by omega)).trans hko) ho)
      rintro e a3 W3 hp
      cases e with
      | normal =>
        obtain ⟨hk3, hkp3, hi3⟩ := hp
        obtain ⟨o3, ho3, hr3, hl3, hl4, hd4, hk4⟩ := fin none W3 hk3
        refine ⟨_, _, hr3, hk4, .inl ⟨rfl, ⟨hI.putObj _ hi3 (by omega) hl3 hnc, by rw [hl4, ho3]; rfl, hd4⟩, ?_⟩⟩
        rw [show o3 = rc .ready none from ho3]
        exact keep_back hlp hkp3
      | ret =>
        obtain ⟨hk3, hi3⟩ := hp
        obtain ⟨o3, ho3, hr3, hl3, hl4, hd4, hk4⟩ := fin (some .ret) W3 hk3
        exact ⟨_, _, hr3, hk4, .inr ⟨rfl, .ret, (hIx _).putObj _ hi3 (by omega) hl3 hnc, by rw [hl4, ho3]; rfl, hd4⟩⟩
      | exit id =>
        obtain ⟨hk3, hi3⟩ := hp
        obtain ⟨o3, ho3, hr3, hl3, hl4, hd4, hk4⟩ := fin (some (.exit id)) W3 hk3
        exact ⟨_, _, hr3, hk4, .inr ⟨rfl, .exit id, (hIx _).putObj _ hi3 (by omega) hl3 hnc, by rw [hl4, ho3]; rfl, hd4⟩⟩
      | goto t =>
        obtain ⟨hk3, hi3⟩ := hp
        obtain ⟨o3, ho3, hr3, hl3, hl4, hd4, hk4⟩ := fin (some (.goto t)) W3 hk3
        exact ⟨_, _, hr3, hk4, .inr ⟨rfl, .goto t, (hIx _).putObj _ hi3 (by omega) hl3 hnc, by rw [hl4, ho3]; rfl, hd4⟩⟩
      | panic ch => exact hp.elim
      | outgrown => exact hp.elim)
    ⟨hI1, hL1, hD1⟩
  have hend : ∀ (st : LoopState) (pe : Option Code) (W2 : World), st ≠ .busy → W2.heap[l]? = some (rc st pe) → ∃ o4 : Obj, (Instr.endLoop l).run P W2 = .ok pe (W2.putObj l o4) := fun st pe W2 hst h => by
    rw [hrc] at h
    exact ⟨_, run_endLoop (P := P) h hst⟩
  have hent : (Instr.enterLoop fn a.tmps ps assign body none).run P w = .ok (l, [{ target := .collected d, args := #[] }]) W1 := by
    rw [hW1, hl, hd, hrc]; exact run_enterLoop_outer _ _ _ _ _
  refine ⟨l, [{ target := .collected d, args := #[] }], W1, { target := .fn (.func gf) lb, args := #[.func (.yield l) #[] #[]] }, W1, gf, #[.func (.yield l) #[] #[]] ++ lb, W1, hent, ?_, ?_, ?_, fun _ => h1, ?_⟩
  · clear hcall hend hseq
    simp only [resolve, hg]
    simp [go_sem]
  · intro f' hf'; simp [Target.leads] at hf'; subst hf'; exact hFg
  · clear hcall hend hseq
    simp [invoke, go_sem, eg]
  · refine CallsIn.mono hcall ?_
    rintro e W2 ⟨⟨v, rfl⟩, (⟨xs, hS, hi, hlp, hdf⟩ | ⟨pre, hSp, c, hi, hlp, hdf⟩)⟩
    · obtain ⟨o4, h4⟩ := hend .ready none W2 (by simp) hlp
      exact ⟨none, _, h4, hdone d xs _ (by omega) hS (hI.putObj _ hi (by omega) hlp (by rw [hrc]; rfl)) ((World.putObj_heap_other (by omega)).trans hdf)⟩
    · obtain ⟨o4, h4⟩ := hend .done (some c) W2 (by simp) hlp
      exact ⟨some c, _, h4, hstop d c pre _ (by omega) hSp ((hIx c).putObj _ hi (by omega) hlp (by rw [hrc]; rfl)) ((World.putObj_heap_other (by omega)).trans hdf)⟩
end Go.Proofs.Ytnljjdfajmjdjaa
