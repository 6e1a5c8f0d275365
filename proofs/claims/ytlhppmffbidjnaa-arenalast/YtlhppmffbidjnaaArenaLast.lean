/-
  Proved: canterlaw04.ArenaLast answers true at every number and every list of numbers, and leaves its arguments as they were. Conditions: none.
-/
import Derived.Test.YtlhppmffbidjnaaRows
import Derived.WalkKit
import Derived.ProofKit
import Derived.OpenShut
import Derived.ShutString
import Derived.ChangeOld
import Derived.Below
import Derived.Test.YtlhppmffbidjnaaAwakeA
namespace Go.Proofs.Ytlhppmffbidjnaa.arenaLast
open Go.ChangeShapes Go.WideShapes Go.ChangeAt Go.RowKit
open Go.ChangeMaps (open_string shut_string)
set_option linter.unusedVariables false

theorem own : ownKnob Try.prog.godebug = none := by kernel_rfl
theorem laidOut : laidOutB Try.prog = true := by kernel_rfl

def IsRow (k : IntKind) (w : World) (a : Option Addr) (len cap : Nat) (zs : List Int) : Prop :=
  (a = none ∧ len = 0 ∧ cap = 0 ∧ zs = []) ∨
  ∃ x, a = some x ∧ len ≤ cap ∧ cap ≤ maxLen ∧ zs.length = cap ∧ (∀ i, i < zs.length → w.cell? (x.add i) = some (.int k (zs.getD i 0))) ∧ ∀ n ∈ zs, (Lit.int k n).wf = true

theorem rd_ints {w : World} {a : Option Addr} {len cap : Nat} {z : List Int} (h : IsRow .i64 w a len cap z) :
    (z.take len).length = len ∧ len ≤ 9223372036854775807 ∧ Rd .i64 w a (z.take len) := by
  rcases h with ⟨rfl, rfl, rfl, rfl⟩ | ⟨x, rfl, hl, hm, hz, hc, hw⟩
  · exact ⟨rfl, by omega, fun i hi => by simp at hi⟩
  · have hlen : (z.take len).length = len := by simp; omega
    have eg : ∀ i, i < len → (z.take len).getD i 0 = z.getD i 0 := fun i hi => by simp [List.getD_eq_getElem?_getD, hi]
    refine ⟨hlen, by unfold maxLen at hm; omega, fun i hi => ?_⟩
    rw [hlen] at hi
    obtain ⟨b, off, e, hat⟩ := ints_at hc (by omega)
    subst e
    have hcell := hat i (by omega)
    exact ⟨b, off, rfl, lt_of_cell hcell, by rw [eg i hi]; exact hcell⟩

theorem free_is {s : St} {i c : Int} (s' : St) (e : s.freeE i = c ∧ s.freeS i = s') (S : Nat → Prop) (g : Nat) (w : World) (h : ArenaAt 45 w S g s) :
    Calls Try.prog 12 #[.pointer (some ⟨g, 0, none⟩), .int .i64 i] w fun e w' => e = .returned (.int .i64 c) ∧ ∃ S', ArenaAt 45 w' S' g s' ∧ Step S S' w w' := by
  have := free_any S g s i w h
  unfold Freed at this
  rwa [e.1, e.2] at this
theorem free_out {m k : Nat} {out : List Bool} {fr : List Nat} (hk : k < m) (h : out[k]? = some true) : St.freeE ⟨m, out, fr⟩ k = 0 ∧ St.freeS ⟨m, out, fr⟩ k = ⟨m, out.set k false, fr ++ [k]⟩ := by
  have hor : ¬ ((k : Int) < 0 ∨ (m : Int) ≤ (k : Int)) := by omega
  have hh : St.has ⟨m, out, fr⟩ k = true := by simp [St.has, h]
  exact ⟨by unfold St.freeE; rw [if_neg hor, if_pos hh], by unfold St.freeS; rw [if_neg hor, if_pos hh]; simp⟩
theorem free_off {m k : Nat} {out : List Bool} {fr : List Nat} (hk : k < m) (h : out[k]? = some false) : St.freeE ⟨m, out, fr⟩ k = 7 ∧ St.freeS ⟨m, out, fr⟩ k = ⟨m, out, fr⟩ := by
  have hor : ¬ ((k : Int) < 0 ∨ (m : Int) ≤ (k : Int)) := by omega
  have hh : ¬ St.has ⟨m, out, fr⟩ k = true := by simp [St.has, h]
  exact ⟨by unfold St.freeE; rw [if_neg hor, if_neg hh], by unfold St.freeS; rw [if_neg hor, if_neg hh]⟩
theorem get_more' {m k : Nat} (h : k < m) : St.getV ⟨m, List.replicate k true, []⟩ = k ∧ St.getE ⟨m, List.replicate k true, []⟩ = 0 ∧ St.getS ⟨m, List.replicate k true, []⟩ = ⟨m, List.replicate (k + 1) true, []⟩ := by
  have := get_new (N := m) (out := List.replicate k true) (by simp; omega)
  rw [List.length_replicate, ← List.replicate_succ'] at this
  exact this
theorem get_take {m j : Nat} {out : List Bool} {fr : List Nat} (h : j < fr.length) : St.getV ⟨m, out, fr.take (j + 1)⟩ = (fr[j] : Nat) ∧ St.getE ⟨m, out, fr.take (j + 1)⟩ = 0 ∧ St.getS ⟨m, out, fr.take (j + 1)⟩ = ⟨m, out.set fr[j] true, fr.take j⟩ := by
  rw [List.take_succ_eq_append_getElem h]; exact get_last
theorem mem_nums (fr : List Nat) (k : Nat) : (k : Int) ∈ nums fr ↔ k ∈ fr := by
  simp only [nums, List.mem_map]
  constructor
  · rintro ⟨a, h, e⟩
    obtain rfl : a = k := by omega
    exact h
  · exact fun h => ⟨k, h, rfl⟩
theorem in_int' (b : Bool) (k : Nat) (fr : List Nat) (hb : decide (k ∈ fr) = b) (a : Option Addr) (ca : Nat) (w : World) (hl : fr.length ≤ 60) (ha : Rd .i64 w a (nums fr)) :
    Calls Try.prog 21 #[.slice a fr.length ca, .int .i64 k] w fun e w' => e = .returned (.bool b) ∧ w = w' := by
  have := in_int a ca (nums fr) k b w (by simp; omega) ha (by rw [← hb]; exact decide_eq_decide.2 (mem_nums fr k))
  rwa [len_nums] at this
/-- What holds of a slice of the call's own beside the arena. -/
def Beside (B : Nat) (w : World) (v : Value) (fr : List Nat) (S : Nat → Prop) : Prop := Owns w 3 v (ints fr) ∧ ∀ j, v.ownBlock = some j → B ≤ j ∧ ¬ S j
theorem Beside.step {B : Nat} {w w' : World} {v : Value} {fr : List Nat} {S S' : Nat → Prop} (h : Beside B w v fr S) (t : Step S S' w w') : Beside B w' v fr S' :=
  ⟨h.1.keep t.1 (fun j e => (h.2 j e).2), fun j e => ⟨(h.2 j e).1, t.apart (R := fun j => v.ownBlock = some j) (fun _ e => h.1.lt e) (fun j e => (h.2 j e).2) j e⟩⟩
theorem Beside.grow {B : Nat} {w w' : World} {v v' : Value} {fr fr' : List Nat} {S : Nat → Prop} {o : Obj} (h : Beside B w v fr S) (hS : ∀ j, S j → j < w.heap.size) (hB : B ≤ w.heap.size) (ho : Owns w' 3 v' (ints fr')) (hk : Keep (fun j => v.ownBlock = some j) (w.alloc o) w') (hnew : ∀ j, v'.ownBlock = some j → v.ownBlock = some j ∨ (w.alloc o).heap.size ≤ j) :
    Beside B w' v' fr' S ∧ Keep (fun j => v.ownBlock = some j) w w' := by
  refine ⟨⟨ho, fun j e => ?_⟩, ((Keep.refl _ w).alloc o).trans hk⟩
  rcases hnew j e with e | e
  · exact h.2 j e
  · simp at e
    exact ⟨by omega, fun hs => by have := hS j hs; omega⟩

set_option maxHeartbeats 4000000 in
set_option maxRecDepth 100000 in
theorem walk (a0 : Int) (a1 : Option Addr) (len1 cap1 : Nat) (z1 : List Int) (w : World) (w0 : (Lit.int .i64 a0).wf = true) (w1 : IsRow .i64 w a1 len1 cap1 z1) :
    Calls Try.prog 5 #[.int .i64 a0, .slice a1 len1 cap1] w fun e w' => e = .returned (.bool true) ∧ Below w.heap.size w w' := by
  obtain ⟨hlen, hmax, hrd⟩ := rd_ints w1
  clear w0 w1
  generalize z1.take len1 = zs at *
  subst hlen
  have HL := Lib.hid hrd; clear hrd
  obtain ⟨u, hu⟩ : ∃ u : Nat, IntKind.u64.wrap a0 = (u : Int) := ⟨(IntKind.u64.wrap a0).toNat, by rw [IntKind.wrap_u64]; omega⟩
  go_enter Try.func5, Try.ntmps5
  go_wp2_with fail
  obtain ⟨m, hm⟩ : ∃ m : Nat, 1 + (u : Int) % 40 = (m : Int) := ⟨1 + u % 40, by omega⟩
  have hm1 : 1 ≤ m := by omega
  have hm40 : m ≤ 40 := by omega
  rw [hm]
  have HC : Hid (capN (m : Int) = m) := Lib.hid (by unfold capN; rw [if_neg (by omega), if_pos (by omega)]; simp)
  refine (anew_is HC.out _).mono ?_
  clear hm hu
  rintro e w1 ⟨rfl, h1, k1⟩
  have H1 := Lib.hid h1; have K1 := Lib.hid k1; clear h1 k1 HC
  go_wp2_with fail
  refine (awakea_any _).mono ?_
  rintro e w2 ⟨rfl, k2⟩
  have h2 := H1.out.keep k2 (fun _ _ h => h)
  have H2 := Lib.hid h2; have K2 := Lib.hid ((K1.out.trans k2).below (Nat.le_refl _) (fun _ h => h.elim)); clear k2 h2 H1 K1
  go_wp2
  go_loopw [6] (fun i wr => ∃ (k : Nat) (S : Nat → Prop), k ≤ m ∧ i = .int .i64 k ∧ ArenaAt 45 wr S w.heap.size ⟨m, List.replicate k true, []⟩ ∧ (∀ j, S j → w.heap.size ≤ j) ∧ Below w.heap.size w wr) (fun i _ => m - (intOf i).toNat)
  case atStart => exact ⟨0, _, by omega, rfl, H2.out, fun j e => by rw [e]; exact Nat.le_refl _, K2.out⟩
  case round =>
    obtain ⟨k, S, hk, rfl, har, hS, hbel⟩ := hrel
    have HA := Lib.hid har; have HS := Lib.hid hS; have HBEL := Lib.hid hbel; clear har hS hbel H2 K2
    by_cases hlt : k < m
    · have hi1 : (k : Int) < (m : Int) := by omega
      go_wp2_with (go_at_call 10; (with_reducible refine (get_is (get_more' hlt) _ _ _ HA.out).mono ?_); rintro e w5 ⟨rfl, S5, h5, t5⟩; have H5 := Lib.hid h5; have T5 := Lib.hid t5; clear h5 t5)
      go_roundw
      case rel => exact ⟨k + 1, S5, by omega, by go_num, H5.out, T5.out.mine HS.out HBEL.out.size, HBEL.out.trans (T5.out.below HS.out HBEL.out.size)⟩
      case measure => simp [intOf]; omega
    · obtain rfl : m = k := by omega
      clear hk hlt
      go_wp2
      go_loopw [7, 8] (fun h i wr => ∃ (k : Nat) (S : Nat → Prop) (out : List Bool) (fr : List Nat), k ≤ 40 ∧ i = .int .i64 k ∧ Beside w.heap.size wr h fr S ∧ ArenaAt 45 wr S w.heap.size ⟨m, out, fr⟩ ∧ out.length = m ∧ (∀ j, j < m → j ∉ fr → out[j]? = some true) ∧ (∀ j, S j → w.heap.size ≤ j) ∧ Below w.heap.size w wr) (fun _ i _ => 40 - (intOf i).toNat)
      case atStart => exact ⟨0, S, List.replicate m true, [], by omega, rfl, ⟨Owns.nil _ _, fun j e => (by cases e)⟩, HA.out, by simp, fun j hj _ => by simp [hj], HS.out, HBEL.out⟩
      case round =>
        clear HA HS HBEL
        obtain ⟨k, S, out, fr, hk, rfl, hbes, har, hol, hon, hS, hbel⟩ := hrel
        obtain ⟨ah, ch, rfl, _⟩ := hbes.1.shape
        rw [len_ints] at *
        have hfl : fr.length ≤ 60 := by have := har.ok.cnt; simp at this; omega
        have HB := Lib.hid hbes; have HA := Lib.hid har; have HS := Lib.hid hS; have HBEL := Lib.hid hbel; have HON := Lib.hid hon; clear hbes har hS hbel hon
        by_cases hin : k < zs.length ∧ k < 40
        · obtain ⟨hin1, hin2⟩ := hin
          obtain ⟨b1, o1, rfl, hb1, hc1⟩ := HL.out k hin1
          have hcell : wr.cell? ⟨b1, o1 + k, none⟩ = some (.int .i64 (zs.getD k 0)) := (HBEL.out.cell (p := ⟨b1, o1 + k, none⟩) hb1).trans hc1
          obtain ⟨u, hu⟩ : ∃ u : Nat, IntKind.u64.wrap (zs.getD k 0) = (u : Int) := ⟨(IntKind.u64.wrap (zs.getD k 0)).toNat, by rw [IntKind.wrap_u64]; omega⟩
          generalize zs.getD k 0 = x at *
          clear hc1 hb1 HL
          go_wp2_with fail
          have hq : wrap64 ((u : Int) % (m : Int)) = ((u % m : Nat) : Int) := by
            have : u % m < m := Nat.mod_lt _ (by omega)
            have e : (u : Int) % (m : Int) = ((u % m : Nat) : Int) := by omega
            rw [e]; unfold wrap64; omega
          rw [hq]
          have hqm : u % m < m := Nat.mod_lt _ (by omega)
          clear hq hu hcell
          generalize u % m = q at *
          by_cases hqf : q ∈ fr
          · have HQ : Hid (decide (q ∈ fr) = true) := Lib.hid (by simpa using hqf)
            have HF := Lib.hid (free_off (m := m) (fr := fr) hqm (HA.out.ok.off q hqf))
            clear hqf
            refine (in_int' true q fr HQ.out _ _ wr hfl HB.out.1.rd).mono ?_
            rintro e w' ⟨rfl, rfl⟩
            go_wp2_with (first
              | (go_at_call 12; (with_reducible refine (free_is _ HF.out _ _ _ HA.out).mono ?_); rintro e w5 ⟨rfl, S5, h5, t5⟩; have H5 := Lib.hid h5; have T5 := Lib.hid t5; have HB5 := Lib.hid (HB.out.step t5); have HR5 := Lib.hid (HB.out.step t5).1.rd; clear h5 t5)
              | (go_at_call 21; (with_reducible refine (in_int' true q fr HQ.out _ _ w5 hfl HR5.out).mono ?_); rintro e w' ⟨rfl, rfl⟩))
            go_roundw
            case rel => exact ⟨k + 1, S5, out, fr, by omega, by go_num, HB5.out, H5.out, hol, HON.out, T5.out.mine HS.out HBEL.out.size, HBEL.out.trans (T5.out.below HS.out HBEL.out.size)⟩
            case measure => simp [intOf]; omega
          · have HQ : Hid (decide (q ∈ fr) = false) := Lib.hid (by simpa using hqf)
            have HF := Lib.hid (free_out (m := m) (fr := fr) hqm (HON.out q hqm hqf))
            have HON' : Hid (∀ j, j < m → j ∉ fr ++ [q] → (out.set q false)[j]? = some true) := Lib.hid (fun j hj hn => by
              simp at hn
              rw [List.getElem?_set_ne (fun e => hn.2 e.symm)]
              exact HON.out j hj hn.1)
            clear hqf
            obtain ⟨i0, hi, hz0, hz1, hz2⟩ := info_parts Try.infoInt
            have HI := Lib.hid hi; have HZ0 := Lib.hid hz0; have HZ1 := Lib.hid hz1; have HZ2 := Lib.hid hz2; clear hi hz0 hz1 hz2
            refine (in_int' false q fr HQ.out _ _ wr hfl HB.out.1.rd).mono ?_
            rintro e w' ⟨rfl, rfl⟩
            go_wp2_with (first
              | (go_at_call 12; (with_reducible refine (free_is _ HF.out _ _ _ HA.out).mono ?_); rintro e w5 ⟨rfl, S5, h5, t5⟩; have H5 := Lib.hid h5; have T5 := Lib.hid t5; have HB5 := Lib.hid (HB.out.step t5); have HR5 := Lib.hid (HB.out.step t5).1.rd; clear h5 t5)
              | (go_at_call 21; (with_reducible refine (in_int' false q fr HQ.out _ _ w5 hfl HR5.out).mono ?_); rintro e w' ⟨rfl, rfl⟩)
              | (at_builtin; refine wpList_append_owns rfl _ _ 22 rfl 3 i0 (.int .i64 0) 8 Try.underlying22 HI.out HZ0.out HZ1.out HZ2.out rfl (.slice ah fr.length ch) (ints fr) rfl (HB5.out.1.alloc _) (some ⟨w5.heap.size, 0, none⟩) 1 1 [.int .i64 (q : Int)] rfl rfl (fun h => (by cases h)) (one_news _ _ _) (one_ints [q]) (by unfold maxLen; rw [len_ints]; omega) (by rw [len_ints]; omega) ?_; intro v' w6 hown hk hnew hnil; rw [app_ints] at hown; obtain ⟨hb6, hk6⟩ := HB5.out.grow (fun j hj => H5.out.lt hj) (Nat.le_trans HBEL.out.size T5.out.1.size) hown hk hnew; have HB6 := Lib.hid hb6; have HK6 := Lib.hid hk6; clear hown hk hnew hnil hb6 hk6))
            go_roundw
            case rel => exact ⟨k + 1, S5, out.set q false, fr ++ [q], by omega, by go_num, HB6.out, H5.out.keep HK6.out (fun j hs e => (HB5.out.2 j e).2 hs), by simpa using hol, HON'.out, T5.out.mine HS.out HBEL.out.size, (HBEL.out.trans (T5.out.below HS.out HBEL.out.size)).trans (HK6.out.below (Nat.le_trans HBEL.out.size T5.out.1.size) (fun j e => (HB5.out.2 j e).1))⟩
            case measure => simp [intOf]; omega
        · have HOUT : Hid (¬ (k < zs.length ∧ k < 40)) := Lib.hid hin
          clear HL HON
          by_cases hin1 : k < zs.length
          all_goals
            have hk40 : 40 ≤ k ∨ zs.length ≤ k := by omega
            clear hin
            go_wp2
            go_loopw [10] (fun i wr => ∃ (j : Nat) (S : Nat → Prop) (out : List Bool), j ≤ fr.length ∧ i = .int .i64 ((j : Int) - 1) ∧ Beside w.heap.size wr (.slice ah fr.length ch) fr S ∧ ArenaAt 45 wr S w.heap.size ⟨m, out, fr.take j⟩ ∧ (∀ j, S j → w.heap.size ≤ j) ∧ Below w.heap.size w wr) (fun i _ => (intOf i + 1).toNat)
            case atStart => exact ⟨fr.length, S, out, Nat.le_refl _, by go_num, HB.out, by rw [List.take_length]; exact HA.out, HS.out, HBEL.out⟩
            case round =>
              clear HB HA HS HBEL
              obtain ⟨j, S, out, hj, rfl, hbes, har, hS, hbel⟩ := hrel
              have HB := Lib.hid hbes; have HA := Lib.hid har; have HS := Lib.hid hS; have HBEL := Lib.hid hbel; clear hbes har hS hbel
              cases j with
              | zero =>
                have HT : Hid (toldOf [] 3 = []) := Lib.hid rfl
                clear HB HA
                go_wp2_with (first
                  | (go_at_call 10; (with_reducible refine (get_nil _).mono ?_); rintro e w' ⟨rfl, rfl⟩)
                  | (go_at_call 12; (with_reducible refine (free_nil _ _).mono ?_); rintro e w' ⟨rfl, rfl⟩)
                  | (go_at_call 14; (with_reducible refine (has_nil _ _).mono ?_); rintro e w' ⟨rfl, rfl⟩)
                  | (go_at_call 16; (with_reducible refine (used_nil _).mono ?_); rintro e w' ⟨rfl, rfl⟩)
                  | (go_at_call 20; (with_reducible refine (all_nil _).mono ?_); rintro e w5 ⟨rfl, h5, k5⟩; have H5 := Lib.hid h5; have B5 := Lib.hid (HBEL.out.trans (k5.below HBEL.out.size (fun _ h => h.elim))); clear h5 k5)
                  | (go_at_call 19; (with_reducible refine (hall_is _ _ _ HT.out (Nat.zero_le _) _ H5.out).mono ?_); rintro e w6 ⟨a6, c6, rfl, _, k6⟩; have B6 := Lib.hid (B5.out.trans (k6.below B5.out.size (fun _ h => h.elim))); clear k6))
                go_ret
                exact ⟨rfl, B6.out⟩
              | succ j =>
                have hjl : j < fr.length := by omega
                have hji : (j : Int) < (fr.length : Int) := by omega
                have e1 : ((j + 1 : Nat) : Int) - 1 = (j : Int) := by omega
                rw [e1] at *
                have HG := Lib.hid (get_take (m := m) (out := out) hjl)
                obtain ⟨gh, ch', hv⟩ := HB.out.1.pos (by rw [len_ints]; omega)
                rw [len_ints] at hv
                cases hv
                have HCELL : Hid (∀ W S', Beside w.heap.size W (.slice (some ⟨gh, 0, none⟩) fr.length ch) fr S' → W.cell? ⟨gh, j, none⟩ = some (.int .i64 (fr[j] : Nat))) := Lib.hid (fun W S' h => by rw [h.1.cell j (by rw [len_ints]; exact hjl), get_ints]; simp [hjl])
                have f1 : (((fr[j] : Nat) : Int) != ((fr[j] : Nat) : Int)) = false := by simp
                generalize fr[j] = y at *
                go_wp2_with (go_at_call 10; (with_reducible refine (get_is HG.out _ _ _ HA.out).mono ?_); rintro e w5 ⟨rfl, S5, h5, t5⟩; have hc5 := HCELL.out _ _ (HB.out.step t5); have H5 := Lib.hid h5; have T5 := Lib.hid t5; have HB5 := Lib.hid (HB.out.step t5); clear h5 t5)
                go_roundw
                case rel => exact ⟨j, S5, _, by omega, by go_num, HB5.out, H5.out, T5.out.mine HS.out HBEL.out.size, HBEL.out.trans (T5.out.below HS.out HBEL.out.size)⟩
                case measure => simp [intOf]

set_option maxRecDepth 100000 in
theorem lifted (os : Os) (started : os.Started) (H : Type) (enc : TypeId × Value → H) :
    ReturnsInHanded {} Try.checked os 5 .any (Rows.arenaLastSpec.pre6 enc Try.prog Try.f5 Rows.arenaLastRow.domain false) (Rows.arenaLastSpec.post enc Try.prog Try.f5 false true false false) := by
  refine returnsInHanded_of_change (C := Try.checked) own started (by kernel_rfl) Try.func5
    (ChangeSpec.witness6 (enc := enc) (C := Try.checked) false ⟨#[], #[.int .i64 0, .slice none 0 0], []⟩ 8 (by kernel_rfl) (by kernel_rfl) (by kernel_rfl) (by kernel_rfl)) ?_
  intro W base args ds gs before hval0 hW hcnd _
  have hval : ∀ (j : Nat) t v, Try.f5.params[j]? = some t → args[j]? = some v → Value.okWide Try.prog W .any base t v := hval0
  have hW' := hW
  obtain ⟨p, q, hA0, hV, rfl, hfz, hnd⟩ := hW
  have hA : DataW.TrodAll enc Try.prog W 0 (fun _ => true) true Try.f5.params.toList args.toList ds p := hA0
  rw [Try.params5] at hA hval
  obtain ⟨v0, vs0, d0, ds0, p0, q0, hargs, rfl, rfl, h0, r0⟩ := trodAll_cons hA
  obtain ⟨v1, vs1, d1, ds1, p1, q1, rfl, rfl, rfl, h1, r1⟩ := trodAll_cons r0
  obtain ⟨rfl, rfl, rfl⟩ := trodAll_nil r1
  obtain rfl : args = #[v0, v1] := by cases args; simp_all
  obtain ⟨rfl, rfl⟩ := trodVars_none hV
  obtain ⟨a0, rfl, rfl, rfl, w0⟩ := open_int Try.underlying3 (hval 0 3 v0 rfl rfl) h0
  obtain ⟨a1, len1, cap1, rfl⟩ := okWide_slice Try.underlying22 (hval 1 22 v1 rfl rfl)
  have k1 := h1
  have lt1 : ∀ x ∈ p1, x.block < W.heap.size := by obtain ⟨m, hm⟩ := k1; exact DataW.trod_lt m _ _ _ hm
  obtain ⟨z1, w1⟩ : ∃ zs, IsRow .i64 W a1 len1 cap1 zs := by
    obtain ⟨fuel, hf⟩ := h1
    rcases open_ints Try.underlying22 Try.underlying3 (by kernel_rfl) hf with ⟨hcs, _⟩ | ⟨x, l, c, zs, hcs, _, hl, hm, hz, _, hcell, hwz⟩
    · simp [Value.cells] at hcs
      obtain ⟨rfl, rfl, rfl⟩ := hcs
      exact ⟨[], .inl ⟨rfl, rfl, rfl, rfl⟩⟩
    · simp [Value.cells] at hcs
      obtain ⟨rfl, rfl, rfl⟩ := hcs
      exact ⟨zs, .inr ⟨_, rfl, hl, hm, by simpa using hz, hcell, hwz⟩⟩
  clear hA0 hval0
  refine (walk a0 a1 len1 cap1 z1 W w0 w1).mono fun e W' ⟨he, bel⟩ => ?_
  subst he
  exact ⟨_, rfl, _, _, _, [], _, [], hW', trodAll_mk1 (shut_bool Try.underlying4 _), (trodAll_cons_mk (shut_int Try.underlying3 w0) (trodAll_cons_mk (Below.trod laidOut (by kernel_rfl) (of_decide_eq_true (by kernel_rfl)) k1 bel lt1) trodAll_mk0)), rfl, bel.frame _, fun h => by cases h⟩

theorem over : Rows.arenaLastRow.holds Try.pinned (OpenSpec.ofChange Rows.arenaLastSpec) :=
  OpenClaim.holds_of_wide 5 Try.f5 rfl rfl rfl rfl rfl rfl rfl ⟨rfl, rfl, rfl, rfl, rfl⟩ rfl rfl rfl rfl rfl (by kernel_rfl) Try.func5 (by kernel_rfl)
    (of_decide_eq_true (by kernel_rfl)) (by unfold Func.isWrapper; first | (rw [if_pos (by decide +kernel)]; kernel_rfl) | (rw [if_neg (by decide +kernel)]; exact ⟨rfl, rfl⟩))
    (fun os started H enc _ => lifted os started H enc)

theorem proved : Rows.ArenaLastSaid := over
end Go.Proofs.Ytlhppmffbidjnaa.arenaLast
namespace Go.Proofs.Ytlhppmffbidjnaa
theorem arenaLast_holds : Rows.ArenaLastSaid := arenaLast.proved
#print axioms arenaLast_holds
end Go.Proofs.Ytlhppmffbidjnaa
