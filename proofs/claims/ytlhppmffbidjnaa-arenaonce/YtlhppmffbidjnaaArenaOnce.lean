/-
  Proved: canterlaw04.ArenaOnce answers true at every two numbers, and leaves its arguments as they were. Conditions: none.
-/
import Derived.Test.YtlhppmffbidjnaaRows
import Derived.WalkKit
import Derived.ProofKit
import Derived.OpenShut
import Derived.ShutString
import Derived.Test.YtlhppmffbidjnaaAwakeA
namespace Go.Proofs.Ytlhppmffbidjnaa.arenaOnce
open Go.ChangeShapes Go.WideShapes Go.ChangeAt Go.RowKit
open Go.ChangeMaps (open_string shut_string)
set_option linter.unusedVariables false

theorem own : ownKnob Try.prog.godebug = none := by kernel_rfl

theorem arena_drew {w w' : World} {n : Nat} (e : w' = w.drewN n) {T : TypeId} {S : Nat → Prop} {g : Nat} {s : St} (h : ArenaAt T w S g s) : ArenaAt T w' S g s := by subst e; exact h
theorem below_drew {w0 w w' : World} {n B : Nat} (e : w' = w.drewN n) (h : Below B w0 w) : Below B w0 w' := by subst e; exact h.trans ⟨rfl, rfl, rfl, Nat.le_refl _, fun _ _ => rfl⟩
theorem all_rep (m : Nat) : allOf (List.replicate m true) = List.range m := by
  unfold allOf
  rw [List.length_replicate, List.filter_eq_self]
  intro a ha
  rw [List.mem_range] at ha
  simp [ha]
theorem told_rep {m k : Nat} (M : Int) (h : min (max 1 M.toNat) m = k) : toldOf (List.replicate m true) M = List.range k := by
  unfold toldOf; rw [all_rep, List.take_range, h]
theorem get_more' {m k : Nat} (h : k < m) : St.getV ⟨m, List.replicate k true, []⟩ = k ∧ St.getE ⟨m, List.replicate k true, []⟩ = 0 ∧ St.getS ⟨m, List.replicate k true, []⟩ = ⟨m, List.replicate (k + 1) true, []⟩ := by
  have := get_new (N := m) (out := List.replicate k true) (by simp; omega)
  rw [List.length_replicate, ← List.replicate_succ'] at this
  exact this
theorem get_full' (m : Nat) : St.getV ⟨m, List.replicate m true, []⟩ = 0 ∧ St.getE ⟨m, List.replicate m true, []⟩ = 5 ∧ St.getS ⟨m, List.replicate m true, []⟩ = ⟨m, List.replicate m true, []⟩ := get_full List.length_replicate
theorem used_rep (m : Nat) : (St.out ⟨m, List.replicate m true, []⟩).count true = m := List.count_replicate_self
theorem not_in (k : Nat) : decide ((k : Int) ∈ nums (List.range k)) = false := by
  simp [nums]
  omega
theorem in_int' (k : Nat) (a : Option Addr) (ca : Nat) (w : World) (hk : k ≤ 60) (ha : Rd .i64 w a (nums (List.range k))) :
    Calls Try.prog 21 #[.slice a k ca, .int .i64 k] w fun e w' => e = .returned (.bool false) ∧ w = w' := by
  have := in_int a ca (nums (List.range k)) k false w (by simp; omega) ha (not_in k)
  rwa [len_nums, List.length_range] at this

set_option maxHeartbeats 2000000 in
set_option maxRecDepth 100000 in
theorem walk (a0 : Int) (a1 : Int) (w0 : (Lit.int .i64 a0).wf = true) (w1 : (Lit.int .i64 a1).wf = true) (w : World) :
    Calls Try.prog 4 #[.int .i64 a0, .int .i64 a1] w fun e w' => e = .returned (.bool true) ∧ Below w.heap.size w w' := by
  clear w0 w1
  obtain ⟨u, hu⟩ : ∃ u : Nat, IntKind.u64.wrap a0 = (u : Int) := ⟨(IntKind.u64.wrap a0).toNat, by rw [IntKind.wrap_u64]; omega⟩
  obtain ⟨u', hu'⟩ : ∃ u : Nat, IntKind.u64.wrap a1 = (u : Int) := ⟨(IntKind.u64.wrap a1).toNat, by rw [IntKind.wrap_u64]; omega⟩
  go_enter Try.func4, Try.ntmps4
  go_wp2_with fail
  obtain ⟨m, hm⟩ : ∃ m : Nat, (u : Int) % 60 = (m : Int) := ⟨u % 60, by omega⟩
  obtain ⟨s, hs⟩ : ∃ s : Nat, (u' : Int) % 60 = (s : Int) := ⟨u' % 60, by omega⟩
  have hm59 : m ≤ 59 := by omega
  have hs59 : s ≤ 59 := by omega
  rw [hm, hs]
  clear hm hs hu hu'
  have HC : Hid (capN (m : Int) = m) := Lib.hid (by unfold capN; rw [if_neg (by omega), if_pos (by omega)]; simp)
  refine (anew_is HC.out _).mono ?_
  rintro e w1 ⟨rfl, h1, k1⟩
  have H1 := Lib.hid h1; have K1 := Lib.hid k1; clear h1 k1 HC
  go_wp2_with fail
  refine (awakea_any _).mono ?_
  rintro e w2 ⟨rfl, k2⟩
  have h2 := H1.out.keep k2 (fun _ _ h => h)
  have H2 := Lib.hid h2; have K2 := Lib.hid ((K1.out.trans k2).below (Nat.le_refl _) (fun _ h => h.elim)); clear k2 h2 H1 K1
  go_wp2
  go_loopw [6, 7] (fun h i wr => ∃ (k : Nat) (S : Nat → Prop), k ≤ m ∧ i = .int .i64 k ∧ Owns wr 3 h (ints (List.range k)) ∧ (∀ j, h.ownBlock = some j → w.heap.size ≤ j ∧ ¬ S j) ∧ ArenaAt 45 wr S w.heap.size ⟨m, List.replicate k true, []⟩ ∧ (∀ j, S j → w.heap.size ≤ j) ∧ Below w.heap.size w wr) (fun _ i _ => m - (intOf i).toNat)
  case atStart => exact ⟨0, _, by omega, rfl, Owns.nil _ _, fun j e => (by cases e), H2.out, fun j e => by rw [e]; exact Nat.le_refl _, K2.out⟩
  case round =>
    obtain ⟨k, S, hk, rfl, hown, hapart, har, hS, hbel⟩ := hrel
    obtain ⟨ah, ch, rfl, _⟩ := hown.shape
    rw [len_ints, List.length_range] at *
    have HO := Lib.hid hown; have HP := Lib.hid hapart; have HA := Lib.hid har; have HS := Lib.hid hS; have HBEL := Lib.hid hbel; clear hown hapart har hS hbel H2 K2
    by_cases hlt : k < m
    · have hi1 : (k : Int) < (m : Int) := by omega
      have HIN : Hid (∀ W, Keep S wr W → Rd .i64 W ah (nums (List.range k))) := Lib.hid (fun W hk => (HO.out.keep hk (fun j e => (HP.out j e).2)).rd)
      obtain ⟨i0, hi, hz0, hz1, hz2⟩ := info_parts Try.infoInt
      have HI := Lib.hid hi; have HZ0 := Lib.hid hz0; have HZ1 := Lib.hid hz1; have HZ2 := Lib.hid hz2; clear hi hz0 hz1 hz2
      go_wp2_with (first
        | (go_at_call 10; (with_reducible refine (get_is (get_more' hlt) _ _ _ HA.out).mono ?_); rintro e w5 ⟨rfl, S5, h5, t5⟩; have H5 := Lib.hid h5; have T5 := Lib.hid t5; have HRD := Lib.hid (HIN.out _ t5.1); have HO5 := Lib.hid (HO.out.keep t5.1 (fun j e => (HP.out j e).2)); have HP5 := Lib.hid (fun j (e : (Value.slice ah k ch).ownBlock = some j) => t5.apart (R := fun j => (Value.slice ah k ch).ownBlock = some j) (fun j e => HO.out.lt e) (fun j e => (HP.out j e).2) j e); clear h5 t5)
        | (go_at_call 21; (with_reducible refine (in_int' k _ _ _ (by omega) HRD.out).mono ?_); rintro e w' ⟨rfl, rfl⟩)
        | (at_builtin; refine wpList_append_owns rfl _ _ 22 rfl 3 i0 (.int .i64 0) 8 Try.underlying22 HI.out HZ0.out HZ1.out HZ2.out rfl (.slice ah k ch) (ints (List.range k)) rfl (HO5.out.alloc _) (some ⟨w5.heap.size, 0, none⟩) 1 1 [.int .i64 (k : Int)] rfl rfl (fun h => (by cases h)) (one_news _ _ _) (one_ints [k]) (by unfold maxLen; rw [len_ints, List.length_range]; omega) (by rw [len_ints, List.length_range]; omega) ?_; intro v' w6 hown hk hnew hnil; rw [app_ints, ← List.range_succ] at hown; have HO6 := Lib.hid hown; have HK6 := Lib.hid hk; have HN6 := Lib.hid hnew; clear hown hk hnew hnil))
      go_roundw
      case rel =>
        have kk : Keep (fun j => (Value.slice ah k ch).ownBlock = some j) w5 w6 := ((Keep.refl _ w5).alloc _).trans HK6.out
        have hsz : w.heap.size ≤ w5.heap.size := Nat.le_trans HBEL.out.size T5.out.1.size
        refine ⟨k + 1, S5, by omega, by go_num, HO6.out, fun j e => ?_, H5.out.keep kk (fun j hs e => HP5.out j e hs), T5.out.mine HS.out HBEL.out.size, (HBEL.out.trans (T5.out.below HS.out HBEL.out.size)).trans (kk.below hsz (fun j e => (HP.out j e).1))⟩
        rcases HN6.out j e with e | e
        · exact ⟨(HP.out j e).1, HP5.out j e⟩
        · simp at e
          exact ⟨by omega, fun hs => by have := H5.out.lt hs; omega⟩
      case measure => simp [intOf]; omega
    · obtain rfl : m = k := by omega
      clear hk hlt HO HP
      have L2 : Hid (toldOf (St.out ⟨m, List.replicate m true, []⟩) ((m : Int) + 1) = List.range m) := Lib.hid (told_rep _ (by omega))
      have f1 : ((m : Int) == (m : Int)) = true := by simp
      have HLN : Hid ((St.out ⟨m, List.replicate m true, []⟩).length ≤ 4096) := Lib.hid (by simp; omega)
      have HT : Hid (∀ (M : Int) (k : Nat), min (max 1 M.toNat) m = k → toldOf (St.out ⟨m, List.replicate m true, []⟩) M = List.range k) := Lib.hid (fun M k h => told_rep M h)
      rcases Nat.lt_trichotomy s 1 with h | h | h
      · obtain rfl : s = 0 := by omega
        clear h hs59
        rcases Nat.lt_trichotomy m 1 with h' | h' | h'
        · have L1 := Lib.hid (HT.out 1 m (by omega))
          have g1 : (m : Int) < 1 := by omega
          clear h' HT
          go_wp2_with (first
            | (go_at_call 10; (with_reducible refine (get_is (get_full' _) _ _ _ HA.out).mono ?_); rintro e w5 ⟨rfl, S5, h5, t5⟩; have H5 := Lib.hid h5; have B5 := Lib.hid (HBEL.out.trans (t5.below HS.out HBEL.out.size)); clear h5 t5 HA HS HBEL)
            | (go_at_call 20; (with_reducible refine (all_any S5 _ _ _ H5.out).mono ?_); rintro e w6 ⟨rfl, h6, k6⟩; have H6 := Lib.hid h6; have A6 := Lib.hid (H5.out.keep k6 (fun _ _ h => h)); have B6 := Lib.hid (B5.out.trans (k6.below B5.out.size (fun _ h => h.elim))); clear h6 k6 H5 B5)
            | (go_at_call 19; (with_reducible refine (hall_is _ _ _ L1.out HLN.out _ H6.out).mono ?_); rintro e w7 ⟨a7, c7, rfl, _, k7⟩; have A7 := Lib.hid (A6.out.keep k7 (fun _ _ h => h)); have B7 := Lib.hid (B6.out.trans (k7.below B6.out.size (fun _ h => h.elim))); clear k7 A6 B6 H6)
            | (go_at_call 16; (with_reducible refine (used_is (used_rep _) _ _ _ A7.out).mono ?_); rintro e w8 ⟨rfl, n8, hw8⟩; have A8 := Lib.hid (arena_drew hw8 A7.out); have B8 := Lib.hid (below_drew hw8 B7.out); clear hw8 A7 B7)
            | (go_at_call 20; (with_reducible refine (all_any S5 _ _ _ A8.out).mono ?_); rintro e w9 ⟨rfl, h9, k9⟩; have H9 := Lib.hid h9; have B9 := Lib.hid (B8.out.trans (k9.below B8.out.size (fun _ h => h.elim))); clear h9 k9 A8 B8)
            | (go_at_call 19; (with_reducible refine (hall_is _ _ _ L2.out HLN.out _ H9.out).mono ?_); rintro e w10 ⟨a10, c10, rfl, _, k10⟩; have B10 := Lib.hid (B9.out.trans (k10.below B9.out.size (fun _ h => h.elim))); clear k10 B9 H9))
          go_ret
          exact ⟨rfl, B10.out⟩
        · subst h'
          have L1 := Lib.hid (HT.out 1 1 (by omega))
          replace L2 := Lib.hid (HT.out 2 1 (by omega))
          clear HT
          go_wp2_with (first
            | (go_at_call 10; (with_reducible refine (get_is (get_full' _) _ _ _ HA.out).mono ?_); rintro e w5 ⟨rfl, S5, h5, t5⟩; have H5 := Lib.hid h5; have B5 := Lib.hid (HBEL.out.trans (t5.below HS.out HBEL.out.size)); clear h5 t5 HA HS HBEL)
            | (go_at_call 20; (with_reducible refine (all_any S5 _ _ _ H5.out).mono ?_); rintro e w6 ⟨rfl, h6, k6⟩; have H6 := Lib.hid h6; have A6 := Lib.hid (H5.out.keep k6 (fun _ _ h => h)); have B6 := Lib.hid (B5.out.trans (k6.below B5.out.size (fun _ h => h.elim))); clear h6 k6 H5 B5)
            | (go_at_call 19; (with_reducible refine (hall_is _ _ _ L1.out HLN.out _ H6.out).mono ?_); rintro e w7 ⟨a7, c7, rfl, _, k7⟩; have A7 := Lib.hid (A6.out.keep k7 (fun _ _ h => h)); have B7 := Lib.hid (B6.out.trans (k7.below B6.out.size (fun _ h => h.elim))); clear k7 A6 B6 H6)
            | (go_at_call 16; (with_reducible refine (used_is (used_rep _) _ _ _ A7.out).mono ?_); rintro e w8 ⟨rfl, n8, hw8⟩; have A8 := Lib.hid (arena_drew hw8 A7.out); have B8 := Lib.hid (below_drew hw8 B7.out); clear hw8 A7 B7)
            | (go_at_call 20; (with_reducible refine (all_any S5 _ _ _ A8.out).mono ?_); rintro e w9 ⟨rfl, h9, k9⟩; have H9 := Lib.hid h9; have B9 := Lib.hid (B8.out.trans (k9.below B8.out.size (fun _ h => h.elim))); clear h9 k9 A8 B8)
            | (go_at_call 19; (with_reducible refine (hall_is _ _ _ L2.out HLN.out _ H9.out).mono ?_); rintro e w10 ⟨a10, c10, rfl, _, k10⟩; have B10 := Lib.hid (B9.out.trans (k10.below B9.out.size (fun _ h => h.elim))); clear k10 B9 H9))
          go_ret
          exact ⟨rfl, B10.out⟩
        · have L1 := Lib.hid (HT.out 1 1 (by omega))
          have g1 : 1 < (m : Int) := by omega
          clear h' HT
          go_wp2_with (first
            | (go_at_call 10; (with_reducible refine (get_is (get_full' _) _ _ _ HA.out).mono ?_); rintro e w5 ⟨rfl, S5, h5, t5⟩; have H5 := Lib.hid h5; have B5 := Lib.hid (HBEL.out.trans (t5.below HS.out HBEL.out.size)); clear h5 t5 HA HS HBEL)
            | (go_at_call 20; (with_reducible refine (all_any S5 _ _ _ H5.out).mono ?_); rintro e w6 ⟨rfl, h6, k6⟩; have H6 := Lib.hid h6; have A6 := Lib.hid (H5.out.keep k6 (fun _ _ h => h)); have B6 := Lib.hid (B5.out.trans (k6.below B5.out.size (fun _ h => h.elim))); clear h6 k6 H5 B5)
            | (go_at_call 19; (with_reducible refine (hall_is _ _ _ L1.out HLN.out _ H6.out).mono ?_); rintro e w7 ⟨a7, c7, rfl, _, k7⟩; have A7 := Lib.hid (A6.out.keep k7 (fun _ _ h => h)); have B7 := Lib.hid (B6.out.trans (k7.below B6.out.size (fun _ h => h.elim))); clear k7 A6 B6 H6)
            | (go_at_call 16; (with_reducible refine (used_is (used_rep _) _ _ _ A7.out).mono ?_); rintro e w8 ⟨rfl, n8, hw8⟩; have A8 := Lib.hid (arena_drew hw8 A7.out); have B8 := Lib.hid (below_drew hw8 B7.out); clear hw8 A7 B7)
            | (go_at_call 20; (with_reducible refine (all_any S5 _ _ _ A8.out).mono ?_); rintro e w9 ⟨rfl, h9, k9⟩; have H9 := Lib.hid h9; have B9 := Lib.hid (B8.out.trans (k9.below B8.out.size (fun _ h => h.elim))); clear h9 k9 A8 B8)
            | (go_at_call 19; (with_reducible refine (hall_is _ _ _ L2.out HLN.out _ H9.out).mono ?_); rintro e w10 ⟨a10, c10, rfl, _, k10⟩; have B10 := Lib.hid (B9.out.trans (k10.below B9.out.size (fun _ h => h.elim))); clear k10 B9 H9))
          go_ret
          exact ⟨rfl, B10.out⟩
      · subst h
        clear hs59
        rcases Nat.lt_trichotomy m 1 with h' | h' | h'
        · have L1 := Lib.hid (HT.out 1 m (by omega))
          have g1 : (m : Int) < 1 := by omega
          clear h' HT
          go_wp2_with (first
            | (go_at_call 10; (with_reducible refine (get_is (get_full' _) _ _ _ HA.out).mono ?_); rintro e w5 ⟨rfl, S5, h5, t5⟩; have H5 := Lib.hid h5; have B5 := Lib.hid (HBEL.out.trans (t5.below HS.out HBEL.out.size)); clear h5 t5 HA HS HBEL)
            | (go_at_call 20; (with_reducible refine (all_any S5 _ _ _ H5.out).mono ?_); rintro e w6 ⟨rfl, h6, k6⟩; have H6 := Lib.hid h6; have A6 := Lib.hid (H5.out.keep k6 (fun _ _ h => h)); have B6 := Lib.hid (B5.out.trans (k6.below B5.out.size (fun _ h => h.elim))); clear h6 k6 H5 B5)
            | (go_at_call 19; (with_reducible refine (hall_is _ _ _ L1.out HLN.out _ H6.out).mono ?_); rintro e w7 ⟨a7, c7, rfl, _, k7⟩; have A7 := Lib.hid (A6.out.keep k7 (fun _ _ h => h)); have B7 := Lib.hid (B6.out.trans (k7.below B6.out.size (fun _ h => h.elim))); clear k7 A6 B6 H6)
            | (go_at_call 16; (with_reducible refine (used_is (used_rep _) _ _ _ A7.out).mono ?_); rintro e w8 ⟨rfl, n8, hw8⟩; have A8 := Lib.hid (arena_drew hw8 A7.out); have B8 := Lib.hid (below_drew hw8 B7.out); clear hw8 A7 B7)
            | (go_at_call 20; (with_reducible refine (all_any S5 _ _ _ A8.out).mono ?_); rintro e w9 ⟨rfl, h9, k9⟩; have H9 := Lib.hid h9; have B9 := Lib.hid (B8.out.trans (k9.below B8.out.size (fun _ h => h.elim))); clear h9 k9 A8 B8)
            | (go_at_call 19; (with_reducible refine (hall_is _ _ _ L2.out HLN.out _ H9.out).mono ?_); rintro e w10 ⟨a10, c10, rfl, _, k10⟩; have B10 := Lib.hid (B9.out.trans (k10.below B9.out.size (fun _ h => h.elim))); clear k10 B9 H9))
          go_ret
          exact ⟨rfl, B10.out⟩
        · subst h'
          have L1 := Lib.hid (HT.out 1 1 (by omega))
          replace L2 := Lib.hid (HT.out 2 1 (by omega))
          clear HT
          go_wp2_with (first
            | (go_at_call 10; (with_reducible refine (get_is (get_full' _) _ _ _ HA.out).mono ?_); rintro e w5 ⟨rfl, S5, h5, t5⟩; have H5 := Lib.hid h5; have B5 := Lib.hid (HBEL.out.trans (t5.below HS.out HBEL.out.size)); clear h5 t5 HA HS HBEL)
            | (go_at_call 20; (with_reducible refine (all_any S5 _ _ _ H5.out).mono ?_); rintro e w6 ⟨rfl, h6, k6⟩; have H6 := Lib.hid h6; have A6 := Lib.hid (H5.out.keep k6 (fun _ _ h => h)); have B6 := Lib.hid (B5.out.trans (k6.below B5.out.size (fun _ h => h.elim))); clear h6 k6 H5 B5)
            | (go_at_call 19; (with_reducible refine (hall_is _ _ _ L1.out HLN.out _ H6.out).mono ?_); rintro e w7 ⟨a7, c7, rfl, _, k7⟩; have A7 := Lib.hid (A6.out.keep k7 (fun _ _ h => h)); have B7 := Lib.hid (B6.out.trans (k7.below B6.out.size (fun _ h => h.elim))); clear k7 A6 B6 H6)
            | (go_at_call 16; (with_reducible refine (used_is (used_rep _) _ _ _ A7.out).mono ?_); rintro e w8 ⟨rfl, n8, hw8⟩; have A8 := Lib.hid (arena_drew hw8 A7.out); have B8 := Lib.hid (below_drew hw8 B7.out); clear hw8 A7 B7)
            | (go_at_call 20; (with_reducible refine (all_any S5 _ _ _ A8.out).mono ?_); rintro e w9 ⟨rfl, h9, k9⟩; have H9 := Lib.hid h9; have B9 := Lib.hid (B8.out.trans (k9.below B8.out.size (fun _ h => h.elim))); clear h9 k9 A8 B8)
            | (go_at_call 19; (with_reducible refine (hall_is _ _ _ L2.out HLN.out _ H9.out).mono ?_); rintro e w10 ⟨a10, c10, rfl, _, k10⟩; have B10 := Lib.hid (B9.out.trans (k10.below B9.out.size (fun _ h => h.elim))); clear k10 B9 H9))
          go_ret
          exact ⟨rfl, B10.out⟩
        · have L1 := Lib.hid (HT.out 1 1 (by omega))
          have g1 : 1 < (m : Int) := by omega
          clear h' HT
          go_wp2_with (first
            | (go_at_call 10; (with_reducible refine (get_is (get_full' _) _ _ _ HA.out).mono ?_); rintro e w5 ⟨rfl, S5, h5, t5⟩; have H5 := Lib.hid h5; have B5 := Lib.hid (HBEL.out.trans (t5.below HS.out HBEL.out.size)); clear h5 t5 HA HS HBEL)
            | (go_at_call 20; (with_reducible refine (all_any S5 _ _ _ H5.out).mono ?_); rintro e w6 ⟨rfl, h6, k6⟩; have H6 := Lib.hid h6; have A6 := Lib.hid (H5.out.keep k6 (fun _ _ h => h)); have B6 := Lib.hid (B5.out.trans (k6.below B5.out.size (fun _ h => h.elim))); clear h6 k6 H5 B5)
            | (go_at_call 19; (with_reducible refine (hall_is _ _ _ L1.out HLN.out _ H6.out).mono ?_); rintro e w7 ⟨a7, c7, rfl, _, k7⟩; have A7 := Lib.hid (A6.out.keep k7 (fun _ _ h => h)); have B7 := Lib.hid (B6.out.trans (k7.below B6.out.size (fun _ h => h.elim))); clear k7 A6 B6 H6)
            | (go_at_call 16; (with_reducible refine (used_is (used_rep _) _ _ _ A7.out).mono ?_); rintro e w8 ⟨rfl, n8, hw8⟩; have A8 := Lib.hid (arena_drew hw8 A7.out); have B8 := Lib.hid (below_drew hw8 B7.out); clear hw8 A7 B7)
            | (go_at_call 20; (with_reducible refine (all_any S5 _ _ _ A8.out).mono ?_); rintro e w9 ⟨rfl, h9, k9⟩; have H9 := Lib.hid h9; have B9 := Lib.hid (B8.out.trans (k9.below B8.out.size (fun _ h => h.elim))); clear h9 k9 A8 B8)
            | (go_at_call 19; (with_reducible refine (hall_is _ _ _ L2.out HLN.out _ H9.out).mono ?_); rintro e w10 ⟨a10, c10, rfl, _, k10⟩; have B10 := Lib.hid (B9.out.trans (k10.below B9.out.size (fun _ h => h.elim))); clear k10 B9 H9))
          go_ret
          exact ⟨rfl, B10.out⟩
      · have g0 : 1 < (s : Int) := by omega
        rcases Nat.lt_trichotomy m s with h' | h' | h'
        · have L1 := Lib.hid (HT.out s m (by omega))
          have g1 : (m : Int) < (s : Int) := by omega
          clear h h' HT
          go_wp2_with (first
            | (go_at_call 10; (with_reducible refine (get_is (get_full' _) _ _ _ HA.out).mono ?_); rintro e w5 ⟨rfl, S5, h5, t5⟩; have H5 := Lib.hid h5; have B5 := Lib.hid (HBEL.out.trans (t5.below HS.out HBEL.out.size)); clear h5 t5 HA HS HBEL)
            | (go_at_call 20; (with_reducible refine (all_any S5 _ _ _ H5.out).mono ?_); rintro e w6 ⟨rfl, h6, k6⟩; have H6 := Lib.hid h6; have A6 := Lib.hid (H5.out.keep k6 (fun _ _ h => h)); have B6 := Lib.hid (B5.out.trans (k6.below B5.out.size (fun _ h => h.elim))); clear h6 k6 H5 B5)
            | (go_at_call 19; (with_reducible refine (hall_is _ _ _ L1.out HLN.out _ H6.out).mono ?_); rintro e w7 ⟨a7, c7, rfl, _, k7⟩; have A7 := Lib.hid (A6.out.keep k7 (fun _ _ h => h)); have B7 := Lib.hid (B6.out.trans (k7.below B6.out.size (fun _ h => h.elim))); clear k7 A6 B6 H6)
            | (go_at_call 16; (with_reducible refine (used_is (used_rep _) _ _ _ A7.out).mono ?_); rintro e w8 ⟨rfl, n8, hw8⟩; have A8 := Lib.hid (arena_drew hw8 A7.out); have B8 := Lib.hid (below_drew hw8 B7.out); clear hw8 A7 B7)
            | (go_at_call 20; (with_reducible refine (all_any S5 _ _ _ A8.out).mono ?_); rintro e w9 ⟨rfl, h9, k9⟩; have H9 := Lib.hid h9; have B9 := Lib.hid (B8.out.trans (k9.below B8.out.size (fun _ h => h.elim))); clear h9 k9 A8 B8)
            | (go_at_call 19; (with_reducible refine (hall_is _ _ _ L2.out HLN.out _ H9.out).mono ?_); rintro e w10 ⟨a10, c10, rfl, _, k10⟩; have B10 := Lib.hid (B9.out.trans (k10.below B9.out.size (fun _ h => h.elim))); clear k10 B9 H9))
          go_ret
          exact ⟨rfl, B10.out⟩
        · subst h'
          have L1 := Lib.hid (HT.out m m (by omega))
          clear h HT
          go_wp2_with (first
            | (go_at_call 10; (with_reducible refine (get_is (get_full' _) _ _ _ HA.out).mono ?_); rintro e w5 ⟨rfl, S5, h5, t5⟩; have H5 := Lib.hid h5; have B5 := Lib.hid (HBEL.out.trans (t5.below HS.out HBEL.out.size)); clear h5 t5 HA HS HBEL)
            | (go_at_call 20; (with_reducible refine (all_any S5 _ _ _ H5.out).mono ?_); rintro e w6 ⟨rfl, h6, k6⟩; have H6 := Lib.hid h6; have A6 := Lib.hid (H5.out.keep k6 (fun _ _ h => h)); have B6 := Lib.hid (B5.out.trans (k6.below B5.out.size (fun _ h => h.elim))); clear h6 k6 H5 B5)
            | (go_at_call 19; (with_reducible refine (hall_is _ _ _ L1.out HLN.out _ H6.out).mono ?_); rintro e w7 ⟨a7, c7, rfl, _, k7⟩; have A7 := Lib.hid (A6.out.keep k7 (fun _ _ h => h)); have B7 := Lib.hid (B6.out.trans (k7.below B6.out.size (fun _ h => h.elim))); clear k7 A6 B6 H6)
            | (go_at_call 16; (with_reducible refine (used_is (used_rep _) _ _ _ A7.out).mono ?_); rintro e w8 ⟨rfl, n8, hw8⟩; have A8 := Lib.hid (arena_drew hw8 A7.out); have B8 := Lib.hid (below_drew hw8 B7.out); clear hw8 A7 B7)
            | (go_at_call 20; (with_reducible refine (all_any S5 _ _ _ A8.out).mono ?_); rintro e w9 ⟨rfl, h9, k9⟩; have H9 := Lib.hid h9; have B9 := Lib.hid (B8.out.trans (k9.below B8.out.size (fun _ h => h.elim))); clear h9 k9 A8 B8)
            | (go_at_call 19; (with_reducible refine (hall_is _ _ _ L2.out HLN.out _ H9.out).mono ?_); rintro e w10 ⟨a10, c10, rfl, _, k10⟩; have B10 := Lib.hid (B9.out.trans (k10.below B9.out.size (fun _ h => h.elim))); clear k10 B9 H9))
          go_ret
          exact ⟨rfl, B10.out⟩
        · have L1 := Lib.hid (HT.out s s (by omega))
          have g1 : (s : Int) < (m : Int) := by omega
          have f2 : ((s : Int) == (s : Int)) = true := by simp
          clear h h' HT
          go_wp2_with (first
            | (go_at_call 10; (with_reducible refine (get_is (get_full' _) _ _ _ HA.out).mono ?_); rintro e w5 ⟨rfl, S5, h5, t5⟩; have H5 := Lib.hid h5; have B5 := Lib.hid (HBEL.out.trans (t5.below HS.out HBEL.out.size)); clear h5 t5 HA HS HBEL)
            | (go_at_call 20; (with_reducible refine (all_any S5 _ _ _ H5.out).mono ?_); rintro e w6 ⟨rfl, h6, k6⟩; have H6 := Lib.hid h6; have A6 := Lib.hid (H5.out.keep k6 (fun _ _ h => h)); have B6 := Lib.hid (B5.out.trans (k6.below B5.out.size (fun _ h => h.elim))); clear h6 k6 H5 B5)
            | (go_at_call 19; (with_reducible refine (hall_is _ _ _ L1.out HLN.out _ H6.out).mono ?_); rintro e w7 ⟨a7, c7, rfl, _, k7⟩; have A7 := Lib.hid (A6.out.keep k7 (fun _ _ h => h)); have B7 := Lib.hid (B6.out.trans (k7.below B6.out.size (fun _ h => h.elim))); clear k7 A6 B6 H6)
            | (go_at_call 16; (with_reducible refine (used_is (used_rep _) _ _ _ A7.out).mono ?_); rintro e w8 ⟨rfl, n8, hw8⟩; have A8 := Lib.hid (arena_drew hw8 A7.out); have B8 := Lib.hid (below_drew hw8 B7.out); clear hw8 A7 B7)
            | (go_at_call 20; (with_reducible refine (all_any S5 _ _ _ A8.out).mono ?_); rintro e w9 ⟨rfl, h9, k9⟩; have H9 := Lib.hid h9; have B9 := Lib.hid (B8.out.trans (k9.below B8.out.size (fun _ h => h.elim))); clear h9 k9 A8 B8)
            | (go_at_call 19; (with_reducible refine (hall_is _ _ _ L2.out HLN.out _ H9.out).mono ?_); rintro e w10 ⟨a10, c10, rfl, _, k10⟩; have B10 := Lib.hid (B9.out.trans (k10.below B9.out.size (fun _ h => h.elim))); clear k10 B9 H9))
          go_ret
          exact ⟨rfl, B10.out⟩

set_option maxRecDepth 100000 in
theorem lifted (os : Os) (started : os.Started) (H : Type) (enc : TypeId × Value → H) :
    ReturnsInHanded {} Try.checked os 4 .any (Rows.arenaOnceSpec.pre6 enc Try.prog Try.f4 Rows.arenaOnceRow.domain false) (Rows.arenaOnceSpec.post enc Try.prog Try.f4 false true false false) := by
  refine returnsInHanded_of_change (C := Try.checked) own started (by kernel_rfl) Try.func4
    (ChangeSpec.witness6 (enc := enc) (C := Try.checked) false ⟨#[], #[.int .i64 0, .int .i64 0], []⟩ 8 (by kernel_rfl) (by kernel_rfl) (by kernel_rfl) (by kernel_rfl)) ?_
  intro W base args ds gs before hval0 hW hcnd _
  have hval : ∀ (j : Nat) t v, Try.f4.params[j]? = some t → args[j]? = some v → Value.okWide Try.prog W .any base t v := hval0
  have hW' := hW
  obtain ⟨p, q, hA0, hV, rfl, hfz, hnd⟩ := hW
  have hA : DataW.TrodAll enc Try.prog W 0 (fun _ => true) true Try.f4.params.toList args.toList ds p := hA0
  rw [Try.params4] at hA hval
  obtain ⟨v0, vs0, d0, ds0, p0, q0, hargs, rfl, rfl, h0, r0⟩ := trodAll_cons hA
  obtain ⟨v1, vs1, d1, ds1, p1, q1, rfl, rfl, rfl, h1, r1⟩ := trodAll_cons r0
  obtain ⟨rfl, rfl, rfl⟩ := trodAll_nil r1
  obtain rfl : args = #[v0, v1] := by cases args; simp_all
  obtain ⟨rfl, rfl⟩ := trodVars_none hV
  obtain ⟨a0, rfl, rfl, rfl, w0⟩ := open_int Try.underlying3 (hval 0 3 v0 rfl rfl) h0
  obtain ⟨a1, rfl, rfl, rfl, w1⟩ := open_int Try.underlying3 (hval 1 3 v1 rfl rfl) h1
  clear hA0 hval0
  simp only [List.append_nil] at hW'
  refine (walk a0 a1 w0 w1 W).mono fun e W' ⟨he, hg⟩ => ?_
  subst he
  exact ⟨_, rfl, _, _, _, [], _, [], hW', trodAll_mk1 (shut_bool Try.underlying4 _), (trodAll_cons_mk (shut_int Try.underlying3 w0) (trodAll_cons_mk (shut_int Try.underlying3 w1) trodAll_mk0)), rfl, hg.frame _, fun h => by cases h⟩

theorem over : Rows.arenaOnceRow.holds Try.pinned (OpenSpec.ofChange Rows.arenaOnceSpec) :=
  OpenClaim.holds_of_wide 4 Try.f4 rfl rfl rfl rfl rfl rfl rfl ⟨rfl, rfl, rfl, rfl, rfl⟩ rfl rfl rfl rfl rfl (by kernel_rfl) Try.func4 (by kernel_rfl)
    (of_decide_eq_true (by kernel_rfl)) (by unfold Func.isWrapper; first | (rw [if_pos (by decide +kernel)]; kernel_rfl) | (rw [if_neg (by decide +kernel)]; exact ⟨rfl, rfl⟩))
    (fun os started H enc _ => lifted os started H enc)

theorem proved : Rows.ArenaOnceSaid :=
  over
end Go.Proofs.Ytlhppmffbidjnaa.arenaOnce
namespace Go.Proofs.Ytlhppmffbidjnaa
theorem arenaOnce_holds : Rows.ArenaOnceSaid := arenaOnce.proved
#print axioms arenaOnce_holds
end Go.Proofs.Ytlhppmffbidjnaa
