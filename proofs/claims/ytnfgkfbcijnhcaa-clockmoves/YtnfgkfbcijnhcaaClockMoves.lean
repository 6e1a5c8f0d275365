/-
  Proved: canterlaw03.ClockMoves answers true at every time and all lists of times, and leaves its arguments as they were. Conditions: none.
-/
import Derived.Test.YtnfgkfbcijnhcaaRows
import Derived.WalkKit
import Derived.ProofKit
import Derived.OpenShut
import Derived.ShutString
import Derived.ChangeOld
import Derived.Below
import Derived.Test.YtnfgkfbcijnhcaaAwakeC
import Derived.Test.YtnfgkfbcijnhcaaRefA
import Derived.Test.YtnfgkfbcijnhcaaSched
import Derived.Deep.DeepCutAuto
import Derived.Deep.CutBlock
import Derived.Deep.LoopGhost
namespace Go.Proofs.Ytnfgkfbcijnhcaa.clockMoves
open Go.ChangeShapes Go.WideShapes Go.ChangeAt Go.RowKit
open Go.ChangeMaps (open_string shut_string)
set_option linter.unusedVariables false

theorem own : ownKnob Try.prog.godebug = none := by kernel_rfl
theorem laidOut : laidOutB Try.prog = true := by kernel_rfl

def IsRow (k : IntKind) (w : World) (a : Option Addr) (len cap : Nat) (zs : List Int) : Prop :=
  (a = none ∧ len = 0 ∧ cap = 0 ∧ zs = []) ∨
  ∃ x, a = some x ∧ len ≤ cap ∧ cap ≤ maxLen ∧ zs.length = cap ∧ (∀ i, i < zs.length → w.cell? (x.add i) = some (.int k (zs.getD i 0))) ∧ ∀ n ∈ zs, (Lit.int k n).wf = true

theorem rd_of_row {w : World} {a : Option Addr} {len cap : Nat} {z : List Int} (h : IsRow .u64 w a len cap z) :
    (z.take len).length = len ∧ len ≤ 9223372036854775807 ∧ Rd .u64 w a (z.take len) ∧ ∀ k, k < (z.take len).length → 0 ≤ (z.take len).getD k 0 ∧ (z.take len).getD k 0 ≤ 18446744073709551615 := by
  rcases h with ⟨rfl, rfl, rfl, rfl⟩ | ⟨x, rfl, hl, hm, hz, hc, hw⟩
  · exact ⟨rfl, by omega, fun i hi => by simp at hi, fun k hk => by simp at hk⟩
  · have hlen : (z.take len).length = len := by simp; omega
    have eg : ∀ i, i < len → (z.take len).getD i 0 = z.getD i 0 := fun i hi => by simp [List.getD_eq_getElem?_getD, hi]
    refine ⟨hlen, by unfold maxLen at hm; omega, fun i hi => ?_, fun k hk => ?_⟩
    · rw [hlen] at hi
      obtain ⟨b, off, e, hat⟩ := ints_at hc (by omega)
      subst e
      have hcell := hat i (by omega)
      exact ⟨b, off, rfl, lt_of_cell hcell, by rw [eg i hi]; exact hcell⟩
    · rw [hlen] at hk
      rw [eg k hk, List.getD_eq_getElem?_getD, List.getElem?_eq_getElem (by omega)]
      exact bounds_u64 (hw _ (List.getElem_mem _))


theorem move_on (g : Nat) (n t : Int) (w : World) (h : ClockAt w g n) (hn : n ≤ t) (ht : t ≤ 4611686018427387904) :
    Calls Try.prog 8 #[.pointer (some ⟨g, 0, none⟩), .int .u64 t] w fun e w' => e = .returned (.int .i64 0) ∧ ClockAt w' g t ∧ Keep (· = g) w w' := by
  have e1 : moveE n t = 0 := by unfold moveE; rw [if_neg (by omega), if_neg (by omega)]
  have e2 : moveN n t = t := by unfold moveN; rw [if_neg (by omega), if_neg (by omega)]
  have := move_any g n t w h (by have := h.2; omega) (by omega)
  unfold Moved at this
  rwa [e1, e2] at this
theorem move_back (g : Nat) (n t : Int) (w : World) (h : ClockAt w g n) (hn : t < n) (hm : t ≤ 4611686018427387904) (ht : 0 ≤ t) :
    Calls Try.prog 8 #[.pointer (some ⟨g, 0, none⟩), .int .u64 t] w fun e w' => e = .returned (.int .i64 4) ∧ ClockAt w' g n ∧ Keep (· = g) w w' := by
  have hb := h.2
  have e1 : moveE n t = 4 := by unfold moveE; rw [if_neg (by omega), if_pos hn]
  have e2 : moveN n t = n := by unfold moveN; rw [if_neg (by omega), if_pos hn]
  have := move_any g n t w h (by omega) (by omega)
  unfold Moved at this
  rwa [e1, e2] at this
theorem move_over (g : Nat) (n t : Int) (w : World) (h : ClockAt w g n) (hn : 4611686018427387904 < t) (ht : t ≤ 18446744073709551615) :
    Calls Try.prog 8 #[.pointer (some ⟨g, 0, none⟩), .int .u64 t] w fun e w' => e = .returned (.int .i64 3) ∧ ClockAt w' g n ∧ Keep (· = g) w w' := by
  have e1 : moveE n t = 3 := if_pos hn
  have e2 : moveN n t = n := if_pos hn
  have := move_any g n t w h (by omega) (by omega)
  unfold Moved at this
  rwa [e1, e2] at this

theorem after_lt {n d : Int} (h : satAdd n d < 4611686018427387904) : afterV n d = satAdd n d := by
  unfold satAdd at *; unfold afterV; split at h <;> rename_i h' <;> simp only [h', if_true, if_false] <;> (try split) <;> omega
theorem after_ge {n d : Int} (h : 4611686018427387904 ≤ satAdd n d) : afterV n d = 4611686018427387904 := by
  unfold satAdd at h; unfold afterV; split at h <;> split <;> omega
theorem after_is (g : Nat) (n d v : Int) (hd0 : 0 ≤ d) (hd1 : d ≤ 18446744073709551615) (e : afterV n d = v) (w : World) (h : ClockAt w g n) :
    Calls Try.prog 10 #[.pointer (some ⟨g, 0, none⟩), .int .u64 d] w fun e w' => e = .returned (.int .u64 v) ∧ w = w' := by
  have := after_any g n d w h hd0 hd1
  rwa [e] at this
theorem radd_is (n d v : Int) (n0 : 0 ≤ n) (n1 : n ≤ 4611686018427387904) (hd0 : 0 ≤ d) (hd1 : d ≤ 18446744073709551615) (e : satAdd n d = v) (w : World) :
    Calls Try.prog 11 #[.int .u64 n, .int .u64 d] w fun e w' => e = .returned (.int .u64 v) ∧ w = w' := by
  have := radd_any n d n0 (by omega) hd0 hd1 w
  rwa [e] at this

set_option maxHeartbeats 1000000 in
set_option maxRecDepth 100000 in
theorem walk (a0 : Int) (a1 : Option Addr) (len1 cap1 : Nat) (z1 : List Int) (a2 : Option Addr) (len2 cap2 : Nat) (z2 : List Int) (w : World) (w0 : (Lit.int .u64 a0).wf = true) (w1 : IsRow .u64 w a1 len1 cap1 z1) (w2 : IsRow .u64 w a2 len2 cap2 z2) :
    Calls Try.prog 3 #[.int .u64 a0, .slice a1 len1 cap1, .slice a2 len2 cap2] w fun e w' => e = .returned (.bool true) ∧ Below w.heap.size w w' := by
  obtain ⟨a0l, a0h⟩ := bounds_u64 w0
  obtain ⟨hlen1, hmax1, hrd1, hbd1⟩ := rd_of_row w1
  obtain ⟨hlen2, hmax2, hrd2, hbd2⟩ := rd_of_row w2
  clear w0 w1 w2
  generalize z1.take len1 = ts at *
  generalize z2.take len2 = ds at *
  subst hlen1 hlen2
  have HT := Lib.hid hrd1; have HTB := Lib.hid hbd1; have HD := Lib.hid hrd2; have HDB := Lib.hid hbd2; clear hrd1 hbd1 hrd2 hbd2
  have HST : Hid (∀ w2, ClockAt w2 w.heap.size (capT a0) → ∀ A, capT a0 = A → ClockAt w2 w.heap.size A) := Lib.hid (fun w2 h A e => e ▸ h)
  go_enter Try.func3, Try.ntmps3
  go_wp2_with fail
  refine (cnew_any _ (by omega) (by omega) _).mono ?_
  rintro e w1 ⟨rfl, h1, k1⟩
  have H1 := Lib.hid h1; have K1 := Lib.hid k1; clear h1 k1
  go_wp2_with fail
  refine (awakec_any _).mono ?_
  rintro e w2 ⟨rfl, k2⟩
  have H2 := Lib.hid (H1.out.keep k2 (fun h => h)); have K2 := Lib.hid ((K1.out.trans k2).below (Nat.le_refl _) (fun _ h => h.elim)); clear k2 H1 K1
  go_upto_region 4 with fail
  go_cut [8] (fun s8 wx => ∃ A : Int, s8 = .int .u64 A ∧ ClockAt wx w.heap.size A ∧ Below w.heap.size w wx)
  case first =>
    rcases Int.lt_trichotomy a0 4611686018427387904 with h | h | h
    · have HS := Lib.hid (HST.out _ H2.out a0 (if_pos (by omega)))
      go_wp2_with fail
      go_meet
      exact ⟨_, rfl, HS.out, K2.out⟩
    · subst h
      have HS := Lib.hid (HST.out _ H2.out 4611686018427387904 (if_pos (by omega)))
      go_wp2_with fail
      go_meet
      exact ⟨_, rfl, HS.out, K2.out⟩
    · have HS := Lib.hid (HST.out _ H2.out 4611686018427387904 (if_neg (by omega)))
      go_wp2_with fail
      go_meet
      exact ⟨_, rfl, HS.out, K2.out⟩
  case rest =>
    obtain ⟨A, rfl, hcl, hbel⟩ := hcut
    have HC := Lib.hid hcl; have HBEL := Lib.hid hbel; clear hcl hbel H2 K2 HST
    go_wp2
    go_loopg [8, 9] 60 (fun j s i wr => ∃ (k : Nat) (n : Int), k + j = 60 ∧ i = .int .i64 k ∧ s = .int .u64 n ∧ ClockAt wr w.heap.size n ∧ Below w.heap.size w wr)
    case atStart => exact ⟨0, A, by omega, rfl, rfl, HC.out, HBEL.out⟩
    case round =>
      obtain ⟨k, n, hk, rfl, rfl, hcl, hbel⟩ := hrel
      clear HC HBEL
      have n0 := hcl.2.1
      have n1 := hcl.2.2
      have HC := Lib.hid hcl; have HBEL := Lib.hid hbel; clear hcl hbel
      by_cases hin : k < ts.length ∧ k < 60
      · obtain ⟨hin1, hin2⟩ := hin
        obtain ⟨b1, o1, rfl, hb1, hc1⟩ := HT.out k hin1
        obtain ⟨t0, t1⟩ := HTB.out k hin1
        have hcell : wr.cell? ⟨b1, o1 + k, none⟩ = some (.int .u64 (ts.getD k 0)) := (HBEL.out.cell (p := ⟨b1, o1 + k, none⟩) hb1).trans hc1
        generalize ts.getD k 0 = t at *
        clear hc1 HT HTB
        go_upto_block 2 with fail
        go_cut [8, 10] (fun s8 s10 wx => s8 = .int .u64 (moveN n t) ∧ s10 = .int .i64 (moveE n t) ∧ wr = wx)
        case first =>
          by_cases hA : 4611686018427387904 < t
          · have E1 : Hid (moveN n t = n) := Lib.hid (if_pos hA)
            have E2 : Hid (moveE n t = 3) := Lib.hid (if_pos hA)
            go_wp2_with fail
            go_meet
            exact ⟨by rw [E1.out], by rw [E2.out], rfl⟩
          · by_cases hB : t < n
            · have E1 : Hid (moveN n t = n) := Lib.hid (by unfold moveN; rw [if_neg (by omega), if_pos hB])
              have E2 : Hid (moveE n t = 4) := Lib.hid (by unfold moveE; rw [if_neg (by omega), if_pos hB])
              go_wp2_with fail
              go_meet
              exact ⟨by rw [E1.out], by rw [E2.out], rfl⟩
            · have E1 : Hid (moveN n t = t) := Lib.hid (by unfold moveN; rw [if_neg (by omega), if_neg (by omega)])
              have E2 : Hid (moveE n t = 0) := Lib.hid (by unfold moveE; rw [if_neg (by omega), if_neg (by omega)])
              go_wp2_with fail
              go_meet
              exact ⟨by rw [E1.out], by rw [E2.out], rfl⟩
        case rest =>
          obtain ⟨rfl, rfl, rfl⟩ := hcut
          have f1 : (moveE n t != moveE n t) = false := by simp
          have f2 : (moveN n t != moveN n t) = false := by simp
          obtain ⟨N0, N1⟩ := moveN_bd n0 n1 t0
          have HM := Lib.hid (fun (W : World) (h : ClockAt W w.heap.size n) => move_any w.heap.size n t W h (by omega) (by omega))
          go_upto_region 14 with fail
          go_cut [83] (fun s83 wx => s83 = .bool false ∧ ClockAt wx w.heap.size (moveN n t) ∧ Below w.heap.size w wx)
          case first =>
            have i0 : (0 : Int) ≤ (k : Int) := by omega
            have i1 : (k : Int) < (ts.length : Int) := by omega
            have c1 : wr.drew.cell? ⟨b1, o1 + k, none⟩ = some (.int .u64 t) := hcell
            by_cases hd : k < ds.length
            · have fd : decide (k < ds.length) = true := by simpa using hd
              have fd' : decide ((k : Int) < (ds.length : Int)) = true := by simpa using hd
              have i2 : (k : Int) < (ds.length : Int) := by omega
              obtain ⟨b2, o2, rfl, hb2, hc2⟩ := HD.out k hd
              obtain ⟨d0, d1⟩ := HDB.out k hd
              have hcell2 : wr.cell? ⟨b2, o2 + k, none⟩ = some (.int .u64 (ds.getD k 0)) := (HBEL.out.cell (p := ⟨b2, o2 + k, none⟩) hb2).trans hc2
              generalize ds.getD k 0 = d at *
              clear hc2 HD HDB hd
              have c2 : wr.drew.cell? ⟨b2, o2 + k, none⟩ = some (.int .u64 d) := hcell2
              have s0 : 0 ≤ satAdd (moveN n t) d := by unfold satAdd; split <;> omega
              have s1 : satAdd (moveN n t) d ≤ 18446744073709551615 := by unfold satAdd; split <;> omega
              have f3 : (satAdd (moveN n t) d != satAdd (moveN n t) d) = false := by simp
              rcases Int.lt_trichotomy (satAdd (moveN n t) d) 4611686018427387904 with h | h | h
              · have HA := Lib.hid (fun W h' => after_is w.heap.size (moveN n t) d (satAdd (moveN n t) d) d0 d1 (after_lt h) W h')
                have HR := Lib.hid (fun W => radd_is (moveN n t) d (satAdd (moveN n t) d) N0 N1 d0 d1 rfl W)
                generalize satAdd (moveN n t) d = V at *
                refine wp_region_sch (fun w' => w'.cell? ⟨b1, o1 + k, none⟩ = some (.int .u64 t) ∧ w'.cell? ⟨b2, o2 + k, none⟩ = some (.int .u64 d)) [(true, 0), (true, 1), (true, 2), (true, 3), (true, 4), (true, 6), (false, 5), (true, 7), (true, 8), (true, 9), (true, 11), (false, 10), (true, 12), (true, 13), (true, 14), (true, 15), (true, 16), (true, 17), (true, 18), (true, 19), (true, 20), (true, 21), (true, 22), (true, 23), (true, 24), (true, 26), (true, 27), (true, 28), (true, 29), (true, 30), (false, 25), (false, 31), (true, 32), (true, 33), (true, 34), (true, 35)] (by kernel_rfl) (by kernel_rfl) (by kernel_rfl) (by kernel_rfl) ⟨c1, c2⟩ ?_
                (repeat (first
  | (refine wpSch_yes (v := ?_) rfl (fun _ _ _ h => h) (by rfl) ?_ ?_; rotate_left; (next => (intro w hSw; (try dsimp only at hSw); go_simp; (try with_reducible rfl))); (try simp only [Act.put, List.setIfInBounds_toArray, List.set_cons_zero, List.set_cons_succ]))
  | (refine wpSch_no rfl (fun _ _ _ h => h) (by rfl) ?_; (try simp only [Act.put, List.setIfInBounds_toArray, List.set_cons_zero, List.set_cons_succ]))
  | (refine wpSch_not rfl (by rfl) (by assumption) ?_; (try simp only [Act.put, List.setIfInBounds_toArray, List.set_cons_zero, List.set_cons_succ]))))
                refine wpSch_call rfl (by rfl) (fun K hK => ?_); go_simp
                refine (HM.out _ HC.out.drew).mono ?_
                rintro e w3 ⟨rfl, h3, k3⟩
                have H3 := Lib.hid h3; have K3 := Lib.hid k3
                have c3 : w3.cell? ⟨b1, o1 + k, none⟩ = some (.int .u64 t) ∧ w3.cell? ⟨b2, o2 + k, none⟩ = some (.int .u64 d) := ⟨(k3.cell (p := ⟨b1, o1 + k, none⟩) (Nat.lt_of_lt_of_le hb1 HBEL.out.size) (Nat.ne_of_lt hb1)).trans hcell, (k3.cell (p := ⟨b2, o2 + k, none⟩) (Nat.lt_of_lt_of_le hb2 HBEL.out.size) (Nat.ne_of_lt hb2)).trans hcell2⟩
                clear h3 k3
                refine hK.out _ _ ?_ (fun hHeld => ?_)
                · exact c3
                clear hK K
                (try simp only [Act.put, List.setIfInBounds_toArray, List.set_cons_zero, List.set_cons_succ])
                (repeat (first
  | (refine wpSch_yes (v := ?_) rfl (fun _ _ _ h => h) (by rfl) ?_ ?_; rotate_left; (next => (intro w hSw; (try dsimp only at hSw); go_simp; (try with_reducible rfl))); (try simp only [Act.put, List.setIfInBounds_toArray, List.set_cons_zero, List.set_cons_succ]))
  | (refine wpSch_no rfl (fun _ _ _ h => h) (by rfl) ?_; (try simp only [Act.put, List.setIfInBounds_toArray, List.set_cons_zero, List.set_cons_succ]))
  | (refine wpSch_not rfl (by rfl) (by assumption) ?_; (try simp only [Act.put, List.setIfInBounds_toArray, List.set_cons_zero, List.set_cons_succ]))))
                refine wpSch_call rfl (by rfl) (fun K hK => ?_); go_simp
                refine (now_any _ _ _ H3.out).mono ?_
                rintro e w' ⟨rfl, rfl⟩
                refine hK.out _ _ ?_ (fun hHeld => ?_)
                · exact c3
                clear hK K
                (try simp only [Act.put, List.setIfInBounds_toArray, List.set_cons_zero, List.set_cons_succ])
                (repeat (first
  | (refine wpSch_yes (v := ?_) rfl (fun _ _ _ h => h) (by rfl) ?_ ?_; rotate_left; (next => (intro w hSw; (try dsimp only at hSw); go_simp; (try with_reducible rfl))); (try simp only [Act.put, List.setIfInBounds_toArray, List.set_cons_zero, List.set_cons_succ]))
  | (refine wpSch_no rfl (fun _ _ _ h => h) (by rfl) ?_; (try simp only [Act.put, List.setIfInBounds_toArray, List.set_cons_zero, List.set_cons_succ]))
  | (refine wpSch_not rfl (by rfl) (by assumption) ?_; (try simp only [Act.put, List.setIfInBounds_toArray, List.set_cons_zero, List.set_cons_succ]))))
                refine wpSch_call rfl (by rfl) (fun K hK => ?_); go_simp
                refine (HA.out _ H3.out).mono ?_
                rintro e w' ⟨rfl, rfl⟩
                refine hK.out _ _ ?_ (fun hHeld => ?_)
                · exact c3
                clear hK K
                (try simp only [Act.put, List.setIfInBounds_toArray, List.set_cons_zero, List.set_cons_succ])
                refine wpSch_call rfl (by rfl) (fun K hK => ?_); go_simp
                refine (HR.out _).mono ?_
                rintro e w' ⟨rfl, rfl⟩
                refine hK.out _ _ ?_ (fun hHeld => ?_)
                · exact c3
                clear hK K
                (try simp only [Act.put, List.setIfInBounds_toArray, List.set_cons_zero, List.set_cons_succ])
                (repeat (first
  | (refine wpSch_yes (v := ?_) rfl (fun _ _ _ h => h) (by rfl) ?_ ?_; rotate_left; (next => (intro w hSw; (try dsimp only at hSw); go_simp; (try with_reducible rfl))); (try simp only [Act.put, List.setIfInBounds_toArray, List.set_cons_zero, List.set_cons_succ]))
  | (refine wpSch_no rfl (fun _ _ _ h => h) (by rfl) ?_; (try simp only [Act.put, List.setIfInBounds_toArray, List.set_cons_zero, List.set_cons_succ]))
  | (refine wpSch_not rfl (by rfl) (by assumption) ?_; (try simp only [Act.put, List.setIfInBounds_toArray, List.set_cons_zero, List.set_cons_succ]))))
                refine wpSch_nil ?_
                go_wp2_with fail
                go_meet
                exact ⟨rfl, H3.out, HBEL.out.drew.trans (K3.out.below HBEL.out.size (fun i e => by omega))⟩
              · have HA := Lib.hid (fun W h' => after_is w.heap.size (moveN n t) d 4611686018427387904 d0 d1 (after_ge (by omega)) W h')
                have HR := Lib.hid (fun W => radd_is (moveN n t) d 4611686018427387904 N0 N1 d0 d1 h W)
                clear h s0 s1 f3
                refine wp_region_sch (fun w' => w'.cell? ⟨b1, o1 + k, none⟩ = some (.int .u64 t) ∧ w'.cell? ⟨b2, o2 + k, none⟩ = some (.int .u64 d)) [(true, 0), (true, 1), (true, 2), (true, 3), (true, 4), (true, 6), (false, 5), (true, 7), (true, 8), (true, 9), (true, 11), (false, 10), (true, 12), (true, 13), (true, 14), (true, 15), (true, 16), (true, 17), (true, 18), (true, 19), (true, 20), (true, 21), (true, 22), (true, 23), (true, 24), (true, 26), (true, 27), (true, 28), (true, 29), (true, 30), (false, 25), (false, 31), (true, 32), (true, 33), (true, 34), (true, 35)] (by kernel_rfl) (by kernel_rfl) (by kernel_rfl) (by kernel_rfl) ⟨c1, c2⟩ ?_
                (repeat (first
  | (refine wpSch_yes (v := ?_) rfl (fun _ _ _ h => h) (by rfl) ?_ ?_; rotate_left; (next => (intro w hSw; (try dsimp only at hSw); go_simp; (try with_reducible rfl))); (try simp only [Act.put, List.setIfInBounds_toArray, List.set_cons_zero, List.set_cons_succ]))
  | (refine wpSch_no rfl (fun _ _ _ h => h) (by rfl) ?_; (try simp only [Act.put, List.setIfInBounds_toArray, List.set_cons_zero, List.set_cons_succ]))
  | (refine wpSch_not rfl (by rfl) (by assumption) ?_; (try simp only [Act.put, List.setIfInBounds_toArray, List.set_cons_zero, List.set_cons_succ]))))
                refine wpSch_call rfl (by rfl) (fun K hK => ?_); go_simp
                refine (HM.out _ HC.out.drew).mono ?_
                rintro e w3 ⟨rfl, h3, k3⟩
                have H3 := Lib.hid h3; have K3 := Lib.hid k3
                have c3 : w3.cell? ⟨b1, o1 + k, none⟩ = some (.int .u64 t) ∧ w3.cell? ⟨b2, o2 + k, none⟩ = some (.int .u64 d) := ⟨(k3.cell (p := ⟨b1, o1 + k, none⟩) (Nat.lt_of_lt_of_le hb1 HBEL.out.size) (Nat.ne_of_lt hb1)).trans hcell, (k3.cell (p := ⟨b2, o2 + k, none⟩) (Nat.lt_of_lt_of_le hb2 HBEL.out.size) (Nat.ne_of_lt hb2)).trans hcell2⟩
                clear h3 k3
                refine hK.out _ _ ?_ (fun hHeld => ?_)
                · exact c3
                clear hK K
                (try simp only [Act.put, List.setIfInBounds_toArray, List.set_cons_zero, List.set_cons_succ])
                (repeat (first
  | (refine wpSch_yes (v := ?_) rfl (fun _ _ _ h => h) (by rfl) ?_ ?_; rotate_left; (next => (intro w hSw; (try dsimp only at hSw); go_simp; (try with_reducible rfl))); (try simp only [Act.put, List.setIfInBounds_toArray, List.set_cons_zero, List.set_cons_succ]))
  | (refine wpSch_no rfl (fun _ _ _ h => h) (by rfl) ?_; (try simp only [Act.put, List.setIfInBounds_toArray, List.set_cons_zero, List.set_cons_succ]))
  | (refine wpSch_not rfl (by rfl) (by assumption) ?_; (try simp only [Act.put, List.setIfInBounds_toArray, List.set_cons_zero, List.set_cons_succ]))))
                refine wpSch_call rfl (by rfl) (fun K hK => ?_); go_simp
                refine (now_any _ _ _ H3.out).mono ?_
                rintro e w' ⟨rfl, rfl⟩
                refine hK.out _ _ ?_ (fun hHeld => ?_)
                · exact c3
                clear hK K
                (try simp only [Act.put, List.setIfInBounds_toArray, List.set_cons_zero, List.set_cons_succ])
                (repeat (first
  | (refine wpSch_yes (v := ?_) rfl (fun _ _ _ h => h) (by rfl) ?_ ?_; rotate_left; (next => (intro w hSw; (try dsimp only at hSw); go_simp; (try with_reducible rfl))); (try simp only [Act.put, List.setIfInBounds_toArray, List.set_cons_zero, List.set_cons_succ]))
  | (refine wpSch_no rfl (fun _ _ _ h => h) (by rfl) ?_; (try simp only [Act.put, List.setIfInBounds_toArray, List.set_cons_zero, List.set_cons_succ]))
  | (refine wpSch_not rfl (by rfl) (by assumption) ?_; (try simp only [Act.put, List.setIfInBounds_toArray, List.set_cons_zero, List.set_cons_succ]))))
                refine wpSch_call rfl (by rfl) (fun K hK => ?_); go_simp
                refine (HA.out _ H3.out).mono ?_
                rintro e w' ⟨rfl, rfl⟩
                refine hK.out _ _ ?_ (fun hHeld => ?_)
                · exact c3
                clear hK K
                (try simp only [Act.put, List.setIfInBounds_toArray, List.set_cons_zero, List.set_cons_succ])
                refine wpSch_call rfl (by rfl) (fun K hK => ?_); go_simp
                refine (HR.out _).mono ?_
                rintro e w' ⟨rfl, rfl⟩
                refine hK.out _ _ ?_ (fun hHeld => ?_)
                · exact c3
                clear hK K
                (try simp only [Act.put, List.setIfInBounds_toArray, List.set_cons_zero, List.set_cons_succ])
                (repeat (first
  | (refine wpSch_yes (v := ?_) rfl (fun _ _ _ h => h) (by rfl) ?_ ?_; rotate_left; (next => (intro w hSw; (try dsimp only at hSw); go_simp; (try with_reducible rfl))); (try simp only [Act.put, List.setIfInBounds_toArray, List.set_cons_zero, List.set_cons_succ]))
  | (refine wpSch_no rfl (fun _ _ _ h => h) (by rfl) ?_; (try simp only [Act.put, List.setIfInBounds_toArray, List.set_cons_zero, List.set_cons_succ]))
  | (refine wpSch_not rfl (by rfl) (by assumption) ?_; (try simp only [Act.put, List.setIfInBounds_toArray, List.set_cons_zero, List.set_cons_succ]))))
                refine wpSch_nil ?_
                go_wp2_with fail
                go_meet
                exact ⟨rfl, H3.out, HBEL.out.drew.trans (K3.out.below HBEL.out.size (fun i e => by omega))⟩
              · have HA := Lib.hid (fun W h' => after_is w.heap.size (moveN n t) d 4611686018427387904 d0 d1 (after_ge (by omega)) W h')
                have HR := Lib.hid (fun W => radd_is (moveN n t) d (satAdd (moveN n t) d) N0 N1 d0 d1 rfl W)
                generalize satAdd (moveN n t) d = V at *
                refine wp_region_sch (fun w' => w'.cell? ⟨b1, o1 + k, none⟩ = some (.int .u64 t) ∧ w'.cell? ⟨b2, o2 + k, none⟩ = some (.int .u64 d)) [(true, 0), (true, 1), (true, 2), (true, 3), (true, 4), (true, 6), (false, 5), (true, 7), (true, 8), (true, 9), (true, 11), (false, 10), (true, 12), (true, 13), (true, 14), (true, 15), (true, 16), (true, 17), (true, 18), (true, 19), (true, 20), (true, 21), (true, 22), (true, 23), (true, 24), (true, 26), (true, 27), (true, 28), (true, 29), (true, 30), (false, 25), (false, 31), (true, 32), (true, 33), (true, 34), (true, 35)] (by kernel_rfl) (by kernel_rfl) (by kernel_rfl) (by kernel_rfl) ⟨c1, c2⟩ ?_
                (repeat (first
  | (refine wpSch_yes (v := ?_) rfl (fun _ _ _ h => h) (by rfl) ?_ ?_; rotate_left; (next => (intro w hSw; (try dsimp only at hSw); go_simp; (try with_reducible rfl))); (try simp only [Act.put, List.setIfInBounds_toArray, List.set_cons_zero, List.set_cons_succ]))
  | (refine wpSch_no rfl (fun _ _ _ h => h) (by rfl) ?_; (try simp only [Act.put, List.setIfInBounds_toArray, List.set_cons_zero, List.set_cons_succ]))
  | (refine wpSch_not rfl (by rfl) (by assumption) ?_; (try simp only [Act.put, List.setIfInBounds_toArray, List.set_cons_zero, List.set_cons_succ]))))
                refine wpSch_call rfl (by rfl) (fun K hK => ?_); go_simp
                refine (HM.out _ HC.out.drew).mono ?_
                rintro e w3 ⟨rfl, h3, k3⟩
                have H3 := Lib.hid h3; have K3 := Lib.hid k3
                have c3 : w3.cell? ⟨b1, o1 + k, none⟩ = some (.int .u64 t) ∧ w3.cell? ⟨b2, o2 + k, none⟩ = some (.int .u64 d) := ⟨(k3.cell (p := ⟨b1, o1 + k, none⟩) (Nat.lt_of_lt_of_le hb1 HBEL.out.size) (Nat.ne_of_lt hb1)).trans hcell, (k3.cell (p := ⟨b2, o2 + k, none⟩) (Nat.lt_of_lt_of_le hb2 HBEL.out.size) (Nat.ne_of_lt hb2)).trans hcell2⟩
                clear h3 k3
                refine hK.out _ _ ?_ (fun hHeld => ?_)
                · exact c3
                clear hK K
                (try simp only [Act.put, List.setIfInBounds_toArray, List.set_cons_zero, List.set_cons_succ])
                (repeat (first
  | (refine wpSch_yes (v := ?_) rfl (fun _ _ _ h => h) (by rfl) ?_ ?_; rotate_left; (next => (intro w hSw; (try dsimp only at hSw); go_simp; (try with_reducible rfl))); (try simp only [Act.put, List.setIfInBounds_toArray, List.set_cons_zero, List.set_cons_succ]))
  | (refine wpSch_no rfl (fun _ _ _ h => h) (by rfl) ?_; (try simp only [Act.put, List.setIfInBounds_toArray, List.set_cons_zero, List.set_cons_succ]))
  | (refine wpSch_not rfl (by rfl) (by assumption) ?_; (try simp only [Act.put, List.setIfInBounds_toArray, List.set_cons_zero, List.set_cons_succ]))))
                refine wpSch_call rfl (by rfl) (fun K hK => ?_); go_simp
                refine (now_any _ _ _ H3.out).mono ?_
                rintro e w' ⟨rfl, rfl⟩
                refine hK.out _ _ ?_ (fun hHeld => ?_)
                · exact c3
                clear hK K
                (try simp only [Act.put, List.setIfInBounds_toArray, List.set_cons_zero, List.set_cons_succ])
                (repeat (first
  | (refine wpSch_yes (v := ?_) rfl (fun _ _ _ h => h) (by rfl) ?_ ?_; rotate_left; (next => (intro w hSw; (try dsimp only at hSw); go_simp; (try with_reducible rfl))); (try simp only [Act.put, List.setIfInBounds_toArray, List.set_cons_zero, List.set_cons_succ]))
  | (refine wpSch_no rfl (fun _ _ _ h => h) (by rfl) ?_; (try simp only [Act.put, List.setIfInBounds_toArray, List.set_cons_zero, List.set_cons_succ]))
  | (refine wpSch_not rfl (by rfl) (by assumption) ?_; (try simp only [Act.put, List.setIfInBounds_toArray, List.set_cons_zero, List.set_cons_succ]))))
                refine wpSch_call rfl (by rfl) (fun K hK => ?_); go_simp
                refine (HA.out _ H3.out).mono ?_
                rintro e w' ⟨rfl, rfl⟩
                refine hK.out _ _ ?_ (fun hHeld => ?_)
                · exact c3
                clear hK K
                (try simp only [Act.put, List.setIfInBounds_toArray, List.set_cons_zero, List.set_cons_succ])
                refine wpSch_call rfl (by rfl) (fun K hK => ?_); go_simp
                refine (HR.out _).mono ?_
                rintro e w' ⟨rfl, rfl⟩
                refine hK.out _ _ ?_ (fun hHeld => ?_)
                · exact c3
                clear hK K
                (try simp only [Act.put, List.setIfInBounds_toArray, List.set_cons_zero, List.set_cons_succ])
                (repeat (first
  | (refine wpSch_yes (v := ?_) rfl (fun _ _ _ h => h) (by rfl) ?_ ?_; rotate_left; (next => (intro w hSw; (try dsimp only at hSw); go_simp; (try with_reducible rfl))); (try simp only [Act.put, List.setIfInBounds_toArray, List.set_cons_zero, List.set_cons_succ]))
  | (refine wpSch_no rfl (fun _ _ _ h => h) (by rfl) ?_; (try simp only [Act.put, List.setIfInBounds_toArray, List.set_cons_zero, List.set_cons_succ]))
  | (refine wpSch_not rfl (by rfl) (by assumption) ?_; (try simp only [Act.put, List.setIfInBounds_toArray, List.set_cons_zero, List.set_cons_succ]))))
                refine wpSch_nil ?_
                go_wp2_with fail
                go_meet
                exact ⟨rfl, H3.out, HBEL.out.drew.trans (K3.out.below HBEL.out.size (fun i e => by omega))⟩
            · have fd : decide (k < ds.length) = false := by simpa using hd
              have fd' : decide ((k : Int) < (ds.length : Int)) = false := by simpa using hd
              clear hd
              refine wp_region_sch (fun w' => w'.cell? ⟨b1, o1 + k, none⟩ = some (.int .u64 t)) [(true, 0), (true, 1), (true, 2), (true, 3), (true, 4), (true, 6), (false, 5), (true, 7), (true, 8), (true, 9), (true, 11), (false, 10), (true, 12), (true, 13), (true, 14), (true, 15), (true, 16), (true, 17), (true, 18), (true, 19), (true, 20), (true, 21), (true, 22), (true, 23), (true, 24), (true, 26), (true, 27), (true, 28), (true, 29), (true, 30), (false, 25), (false, 31), (true, 32), (true, 33), (true, 34), (true, 35)] (by kernel_rfl) (by kernel_rfl) (by kernel_rfl) (by kernel_rfl) c1 ?_
              (repeat (first
  | (refine wpSch_yes (v := ?_) rfl (fun _ _ _ h => h) (by rfl) ?_ ?_; rotate_left; (next => (intro w hSw; (try dsimp only at hSw); go_simp; (try with_reducible rfl))); (try simp only [Act.put, List.setIfInBounds_toArray, List.set_cons_zero, List.set_cons_succ]))
  | (refine wpSch_no rfl (fun _ _ _ h => h) (by rfl) ?_; (try simp only [Act.put, List.setIfInBounds_toArray, List.set_cons_zero, List.set_cons_succ]))
  | (refine wpSch_not rfl (by rfl) (by assumption) ?_; (try simp only [Act.put, List.setIfInBounds_toArray, List.set_cons_zero, List.set_cons_succ]))))
              refine wpSch_call rfl (by rfl) (fun K hK => ?_); go_simp
              refine (HM.out _ HC.out.drew).mono ?_
              rintro e w3 ⟨rfl, h3, k3⟩
              have H3 := Lib.hid h3; have K3 := Lib.hid k3
              have c3 : w3.cell? ⟨b1, o1 + k, none⟩ = some (.int .u64 t) := (k3.cell (p := ⟨b1, o1 + k, none⟩) (Nat.lt_of_lt_of_le hb1 HBEL.out.size) (Nat.ne_of_lt hb1)).trans hcell
              clear h3 k3
              refine hK.out _ _ ?_ (fun hHeld => ?_)
              · exact c3
              clear hK K
              (try simp only [Act.put, List.setIfInBounds_toArray, List.set_cons_zero, List.set_cons_succ])
              (repeat (first
  | (refine wpSch_yes (v := ?_) rfl (fun _ _ _ h => h) (by rfl) ?_ ?_; rotate_left; (next => (intro w hSw; (try dsimp only at hSw); go_simp; (try with_reducible rfl))); (try simp only [Act.put, List.setIfInBounds_toArray, List.set_cons_zero, List.set_cons_succ]))
  | (refine wpSch_no rfl (fun _ _ _ h => h) (by rfl) ?_; (try simp only [Act.put, List.setIfInBounds_toArray, List.set_cons_zero, List.set_cons_succ]))
  | (refine wpSch_not rfl (by rfl) (by assumption) ?_; (try simp only [Act.put, List.setIfInBounds_toArray, List.set_cons_zero, List.set_cons_succ]))))
              refine wpSch_call rfl (by rfl) (fun K hK => ?_); go_simp
              refine (now_any _ _ _ H3.out).mono ?_
              rintro e w' ⟨rfl, rfl⟩
              refine hK.out _ _ ?_ (fun hHeld => ?_)
              · exact c3
              clear hK K
              (try simp only [Act.put, List.setIfInBounds_toArray, List.set_cons_zero, List.set_cons_succ])
              (repeat (first
  | (refine wpSch_yes (v := ?_) rfl (fun _ _ _ h => h) (by rfl) ?_ ?_; rotate_left; (next => (intro w hSw; (try dsimp only at hSw); go_simp; (try with_reducible rfl))); (try simp only [Act.put, List.setIfInBounds_toArray, List.set_cons_zero, List.set_cons_succ]))
  | (refine wpSch_no rfl (fun _ _ _ h => h) (by rfl) ?_; (try simp only [Act.put, List.setIfInBounds_toArray, List.set_cons_zero, List.set_cons_succ]))
  | (refine wpSch_not rfl (by rfl) (by assumption) ?_; (try simp only [Act.put, List.setIfInBounds_toArray, List.set_cons_zero, List.set_cons_succ]))))
              refine wpSch_nil ?_
              go_wp2_with fail
              go_meet
              exact ⟨rfl, H3.out, HBEL.out.drew.trans (K3.out.below HBEL.out.size (fun i e => by omega))⟩
          case rest =>
            obtain ⟨rfl, hcl, hbel⟩ := hcut
            have HC' := Lib.hid hcl; have HBEL' := Lib.hid hbel; clear hcl hbel
            go_wp2
            go_roundg (gk - 1)
            case measure => omega
            case rel => exact ⟨k + 1, moveN n t, by omega, by go_num, rfl, HC'.out, HBEL'.out⟩
      · have f1 : (n == n) = true := by simp
        clear HT HTB HD HDB
        by_cases hin1 : k < ts.length
        all_goals
          go_wp2_with (go_at_call 9; (with_reducible refine (now_any _ _ _ HC.out).mono ?_); rintro e w' ⟨rfl, rfl⟩)
          go_ret
          exact ⟨rfl, HBEL.out⟩

set_option maxRecDepth 100000 in
theorem lifted (os : Os) (started : os.Started) (H : Type) (enc : TypeId × Value → H) :
    ReturnsInHanded {} Try.checked os 3 .any (Rows.clockMovesSpec.pre6 enc Try.prog Try.f3 Rows.clockMovesRow.domain false) (Rows.clockMovesSpec.post enc Try.prog Try.f3 false true false false) := by
  refine returnsInHanded_of_change (C := Try.checked) own started (by kernel_rfl) Try.func3
    (ChangeSpec.witness6 (enc := enc) (C := Try.checked) false ⟨#[], #[.int .u64 0, .slice none 0 0, .slice none 0 0], []⟩ 8 (by kernel_rfl) (by kernel_rfl) (by kernel_rfl) (by kernel_rfl)) ?_
  intro W base args ds gs before hval0 hW hcnd _
  have hval : ∀ (j : Nat) t v, Try.f3.params[j]? = some t → args[j]? = some v → Value.okWide Try.prog W .any base t v := hval0
  have hW' := hW
  obtain ⟨p, q, hA0, hV, rfl, hfz, hnd⟩ := hW
  have hA : DataW.TrodAll enc Try.prog W 0 (fun _ => true) true Try.f3.params.toList args.toList ds p := hA0
  rw [Try.params3] at hA hval
  obtain ⟨v0, vs0, d0, ds0, p0, q0, hargs, rfl, rfl, h0, r0⟩ := trodAll_cons hA
  obtain ⟨v1, vs1, d1, ds1, p1, q1, rfl, rfl, rfl, h1, r1⟩ := trodAll_cons r0
  obtain ⟨v2, vs2, d2, ds2, p2, q2, rfl, rfl, rfl, h2, r2⟩ := trodAll_cons r1
  obtain ⟨rfl, rfl, rfl⟩ := trodAll_nil r2
  obtain rfl : args = #[v0, v1, v2] := by cases args; simp_all
  obtain ⟨rfl, rfl⟩ := trodVars_none hV
  obtain ⟨a0, rfl, rfl, rfl, w0⟩ := open_int Try.underlying22 (hval 0 22 v0 rfl rfl) h0
  obtain ⟨a1, len1, cap1, rfl⟩ := okWide_slice Try.underlying23 (hval 1 23 v1 rfl rfl)
  have k1 := h1
  have lt1 : ∀ x ∈ p1, x.block < W.heap.size := by obtain ⟨m, hm⟩ := k1; exact DataW.trod_lt m _ _ _ hm
  obtain ⟨z1, w1⟩ : ∃ zs, IsRow .u64 W a1 len1 cap1 zs := by
    obtain ⟨fuel, hf⟩ := h1
    rcases open_ints Try.underlying23 Try.underlying22 (by kernel_rfl) hf with ⟨hcs, _⟩ | ⟨x, l, c, zs, hcs, _, hl, hm, hz, _, hcell, hwz⟩
    · simp [Value.cells] at hcs
      obtain ⟨rfl, rfl, rfl⟩ := hcs
      exact ⟨[], .inl ⟨rfl, rfl, rfl, rfl⟩⟩
    · simp [Value.cells] at hcs
      obtain ⟨rfl, rfl, rfl⟩ := hcs
      exact ⟨zs, .inr ⟨_, rfl, hl, hm, by simpa using hz, hcell, hwz⟩⟩
  obtain ⟨a2, len2, cap2, rfl⟩ := okWide_slice Try.underlying23 (hval 2 23 v2 rfl rfl)
  have k2 := h2
  have lt2 : ∀ x ∈ p2, x.block < W.heap.size := by obtain ⟨m, hm⟩ := k2; exact DataW.trod_lt m _ _ _ hm
  obtain ⟨z2, w2⟩ : ∃ zs, IsRow .u64 W a2 len2 cap2 zs := by
    obtain ⟨fuel, hf⟩ := h2
    rcases open_ints Try.underlying23 Try.underlying22 (by kernel_rfl) hf with ⟨hcs, _⟩ | ⟨x, l, c, zs, hcs, _, hl, hm, hz, _, hcell, hwz⟩
    · simp [Value.cells] at hcs
      obtain ⟨rfl, rfl, rfl⟩ := hcs
      exact ⟨[], .inl ⟨rfl, rfl, rfl, rfl⟩⟩
    · simp [Value.cells] at hcs
      obtain ⟨rfl, rfl, rfl⟩ := hcs
      exact ⟨zs, .inr ⟨_, rfl, hl, hm, by simpa using hz, hcell, hwz⟩⟩
  clear hA0 hval0
  refine (walk a0 a1 len1 cap1 z1 a2 len2 cap2 z2 W w0 w1 w2).mono fun e W' ⟨he, bel⟩ => ?_
  subst he
  exact ⟨_, rfl, _, _, _, [], _, [], hW', trodAll_mk1 (shut_bool Try.underlying4 _), (trodAll_cons_mk (shut_int Try.underlying22 w0) (trodAll_cons_mk (Below.trod laidOut (by kernel_rfl) (of_decide_eq_true (by kernel_rfl)) k1 bel lt1) (trodAll_cons_mk (Below.trod laidOut (by kernel_rfl) (of_decide_eq_true (by kernel_rfl)) k2 bel lt2) trodAll_mk0))), rfl, bel.frame _, fun h => by cases h⟩

theorem over : Rows.clockMovesRow.holds Try.pinned (OpenSpec.ofChange Rows.clockMovesSpec) :=
  OpenClaim.holds_of_wide 3 Try.f3 rfl rfl rfl rfl rfl rfl rfl ⟨rfl, rfl, rfl, rfl, rfl⟩ rfl rfl rfl rfl rfl (by kernel_rfl) Try.func3 (by kernel_rfl)
    (of_decide_eq_true (by kernel_rfl)) (by unfold Func.isWrapper; first | (rw [if_pos (by decide +kernel)]; kernel_rfl) | (rw [if_neg (by decide +kernel)]; exact ⟨rfl, rfl⟩))
    (fun os started H enc _ => lifted os started H enc)

theorem proved : Rows.ClockMovesSaid := over
end Go.Proofs.Ytnfgkfbcijnhcaa.clockMoves
namespace Go.Proofs.Ytnfgkfbcijnhcaa
theorem clockMoves_holds : Rows.ClockMovesSaid := clockMoves.proved
#print axioms clockMoves_holds
end Go.Proofs.Ytnfgkfbcijnhcaa
