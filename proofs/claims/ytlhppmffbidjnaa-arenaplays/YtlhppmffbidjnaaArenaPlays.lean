/-
  Proved: canterlaw04.ArenaPlays answers true at every number and every list of deeds, and leaves its arguments as they were. Conditions: none.
-/
import Derived.Test.YtlhppmffbidjnaaRows
import Derived.WalkKit
import Derived.ProofKit
import Derived.OpenShut
import Derived.ShutString
import Derived.ChangeOld
import Derived.Below
import Derived.Test.YtlhppmffbidjnaaArenaPair
import Derived.Test.YtlhppmffbidjnaaSched
import Derived.Deep.DeepCutAuto
import Derived.Deep.CutBlock
import Derived.Deep.LoopGhost
namespace Go.Proofs.Ytlhppmffbidjnaa.arenaPlays
open Go.ChangeShapes Go.WideShapes Go.ChangeAt Go.RowKit
open Go.ChangeMaps (open_string shut_string)
set_option linter.unusedVariables false

theorem own : ownKnob Try.prog.godebug = none := by kernel_rfl
theorem laidOut : laidOutB Try.prog = true := by kernel_rfl

def IsRow (k : IntKind) (w : World) (a : Option Addr) (len cap : Nat) (zs : List Int) : Prop :=
  (a = none ∧ len = 0 ∧ cap = 0 ∧ zs = []) ∨
  ∃ x, a = some x ∧ len ≤ cap ∧ cap ≤ maxLen ∧ zs.length = cap ∧ (∀ i, i < zs.length → w.cell? (x.add i) = some (.int k (zs.getD i 0))) ∧ ∀ n ∈ zs, (Lit.int k n).wf = true

theorem rd_ints {w : World} {a : Option Addr} {len cap : Nat} {z : List Int} (h : IsRow .i64 w a len cap z) :
    (z.take len).length = len ∧ len ≤ 9223372036854775807 ∧ Rd .i64 w a (z.take len) := by
  rcases h with ⟨rfl, rfl, rfl, rfl⟩ | ⟨x, rfl, hl, hm, hz, hc, hw⟩
  · exact ⟨rfl, by omega, fun i hi => by simp at hi⟩
  · have hlen : (z.take len).length = len := by simp; omega
    have eg : ∀ i, i < len → (z.take len).getD i 0 = z.getD i 0 := fun i hi => by simp [List.getD_eq_getElem?_getD, hi]
    refine ⟨hlen, by unfold maxLen at hm; omega, fun i hi => ?_⟩
    rw [hlen] at hi
    obtain ⟨b, off, e, hat⟩ := ints_at hc (by omega)
    subst e
    have hcell := hat i (by omega)
    exact ⟨b, off, rfl, lt_of_cell hcell, by rw [eg i hi]; exact hcell⟩
theorem plain_all (l : List Nat) (n n' : Nat) (hn : n = l.length) (hn' : n' = l.length) (a b : Option Addr) (ca cb : Nat) (w : World) (hlen : l.length ≤ 4096) (ha : Rd .i64 w a (nums l)) (hb : Rd .i64 w b (nums l)) :
    Calls Try.prog 18 #[.slice a n ca, .slice b n' cb] w fun e w' => e = .returned (.bool true) ∧ ∃ n, w' = w.drewN n := by
  subst hn hn'
  have := plain_int a b ca cb (nums l) w (by simp; omega) ha hb
  rwa [len_nums] at this

set_option maxHeartbeats 4000000 in
set_option maxRecDepth 100000 in
theorem walk (a0 : Int) (a1 : Option Addr) (len1 cap1 : Nat) (z1 : List Int) (w : World) (w0 : (Lit.int .i64 a0).wf = true) (w1 : IsRow .i64 w a1 len1 cap1 z1) :
    Calls Try.prog 3 #[.int .i64 a0, .slice a1 len1 cap1] w fun e w' => e = .returned (.bool true) ∧ Below w.heap.size w w' := by
  obtain ⟨hlen, hmax, hrd⟩ := rd_ints w1
  clear w0 w1
  generalize z1.take len1 = zs at *
  subst hlen
  have HL := Lib.hid hrd; clear hrd
  go_enter Try.func3, Try.ntmps3
  go_wp2_with fail
  refine (anew_any _ _).mono ?_
  rintro e w1 ⟨rfl, h1, k1⟩
  have H1 := Lib.hid h1; have K1 := Lib.hid k1; clear h1 k1
  go_wp2_with fail
  refine (rnew_any _ _).mono ?_
  rintro e w2 ⟨rfl, h2, k2⟩
  have hp : Pair w.heap.size w.heap.size w1.heap.size w2 ⟨capN a0, [], []⟩ ⟨capN a0, [], []⟩ := ⟨_, _, H1.out.keep k2 (fun _ _ h => h), h2, fun j e e' => by have := H1.out.lt (k := w.heap.size) rfl; omega, fun j e => Nat.le_of_eq e.symm, fun j e => by rw [e]; exact K1.out.size⟩
  have HP := Lib.hid hp; have K2 := Lib.hid (K1.out.trans k2); clear h2 k2 hp H1 K1
  go_wp2_with fail
  refine (awakea_any _).mono ?_
  rintro e w3 ⟨rfl, k3⟩
  have HP3 := Lib.hid (HP.out.keep k3).1
  have HB3 := Lib.hid ((K2.out.trans k3).below (Nat.le_refl _) (fun _ h => h.elim)); clear k3 HP K2
  generalize (⟨capN a0, [], []⟩ : St) = s0 at *
  generalize w1.heap.size = gr at *
  go_wp2
  go_loopg [7] 100 (fun j i wr => ∃ (k : Nat) (s : St), k + j = 100 ∧ i = .int .i64 k ∧ Pair w.heap.size w.heap.size gr wr s s ∧ Below w.heap.size w wr)
  case atStart => exact ⟨0, s0, by omega, rfl, HP3.out, HB3.out⟩
  case round =>
    obtain ⟨k, s, hk, rfl, hp, hb⟩ := hrel
    clear HP3 HB3
    have HP := Lib.hid hp; have HB := Lib.hid hb; clear hp hb
    by_cases hin : k < zs.length ∧ k < 100
    · obtain ⟨hin1, hin2⟩ := hin
      have i0 : (0 : Int) ≤ (k : Int) := by omega
      have i1 : (k : Int) < (zs.length : Int) := by omega
      obtain ⟨b1, o1, rfl, hb1, hc1⟩ := HL.out k hin1
      have HCELL : Hid (∀ W, Below w.heap.size w W → W.cell? ⟨b1, o1 + k, none⟩ = some (.int .i64 (zs.getD k 0))) := Lib.hid (fun W h => (h.cell (p := ⟨b1, o1 + k, none⟩) hb1).trans hc1)
      have hcell := HCELL.out _ HB.out
      generalize zs.getD k 0 = x at *
      clear hc1 hb1 HL
      by_cases hneg : x < 0
      · by_cases hfew : -50 < x
        · have f1 : (s.getV != s.getV) = false := by simp
          have f2 : (s.getE != s.getE) = false := by simp
          go_upto_region 14 with (first
            | (go_at_call 10; (with_reducible refine (pget HP.out).mono ?_); rintro e w5 ⟨rfl, p5, b5⟩; have P5 := Lib.hid p5; have B5 := Lib.hid (HB.out.trans b5); clear p5 b5)
            | (go_at_call 11; (with_reducible refine (prget P5.out).mono ?_); rintro e w6 ⟨rfl, p6, b6⟩; have PQ := Lib.hid p6; have BQ := Lib.hid (B5.out.trans b6); clear p6 b6))
          clear f1 f2 P5 B5
          generalize s.getS = s' at *
          go_cut [95] (fun s95 wx => s95 = .bool false ∧ Pair w.heap.size w.heap.size gr wx s' s' ∧ Below w.heap.size w wx)
          case first =>
            have fh : (s'.has x != s'.has x) = false := by simp
            have fu : (((s'.out.count true : Nat) : Int) != ((s'.out.count true : Nat) : Int)) = false := by simp
            refine wp_region_sch (fun w' => w'.cell? ⟨b1, o1 + k, none⟩ = some (.int .i64 x)) [(true, 0), (true, 1), (true, 2), (true, 3), (true, 4), (true, 6), (true, 7), (true, 8), (true, 9), (true, 10), (false, 5), (false, 11), (true, 12), (true, 13), (true, 14), (true, 16), (false, 15), (false, 17), (true, 18), (true, 19), (true, 20)] (by kernel_rfl) (by kernel_rfl) (by kernel_rfl) (by kernel_rfl) (HCELL.out _ BQ.out.drew) ?_
            (repeat (first
  | (refine wpSch_yes (v := ?_) rfl (fun _ _ _ h => h) (by rfl) ?_ ?_; rotate_left; (next => (intro w hSw; (try dsimp only at hSw); go_simp; (try with_reducible rfl))); (try simp only [Act.put, List.setIfInBounds_toArray, List.set_cons_zero, List.set_cons_succ]))
  | (refine wpSch_no rfl (fun _ _ _ h => h) (by rfl) ?_; (try simp only [Act.put, List.setIfInBounds_toArray, List.set_cons_zero, List.set_cons_succ]))
  | (refine wpSch_not rfl (by rfl) (by assumption) ?_; (try simp only [Act.put, List.setIfInBounds_toArray, List.set_cons_zero, List.set_cons_succ]))))
            refine wpSch_call rfl (by rfl) (fun K hK => ?_); go_simp
            refine (phas _ PQ.out.drew).mono ?_
            rintro e w' ⟨rfl, rfl⟩
            refine hK.out _ _ ?_ (fun hHeld => ?_)
            · exact HCELL.out _ BQ.out.drew
            clear hK K
            (try simp only [Act.put, List.setIfInBounds_toArray, List.set_cons_zero, List.set_cons_succ])
            (repeat (first
  | (refine wpSch_yes (v := ?_) rfl (fun _ _ _ h => h) (by rfl) ?_ ?_; rotate_left; (next => (intro w hSw; (try dsimp only at hSw); go_simp; (try with_reducible rfl))); (try simp only [Act.put, List.setIfInBounds_toArray, List.set_cons_zero, List.set_cons_succ]))
  | (refine wpSch_no rfl (fun _ _ _ h => h) (by rfl) ?_; (try simp only [Act.put, List.setIfInBounds_toArray, List.set_cons_zero, List.set_cons_succ]))
  | (refine wpSch_not rfl (by rfl) (by assumption) ?_; (try simp only [Act.put, List.setIfInBounds_toArray, List.set_cons_zero, List.set_cons_succ]))))
            refine wpSch_call rfl (by rfl) (fun K hK => ?_); go_simp
            refine (prhas _ PQ.out.drew).mono ?_
            rintro e w' ⟨rfl, rfl⟩
            refine hK.out _ _ ?_ (fun hHeld => ?_)
            · exact HCELL.out _ BQ.out.drew
            clear hK K
            (try simp only [Act.put, List.setIfInBounds_toArray, List.set_cons_zero, List.set_cons_succ])
            (repeat (first
  | (refine wpSch_yes (v := ?_) rfl (fun _ _ _ h => h) (by rfl) ?_ ?_; rotate_left; (next => (intro w hSw; (try dsimp only at hSw); go_simp; (try with_reducible rfl))); (try simp only [Act.put, List.setIfInBounds_toArray, List.set_cons_zero, List.set_cons_succ]))
  | (refine wpSch_no rfl (fun _ _ _ h => h) (by rfl) ?_; (try simp only [Act.put, List.setIfInBounds_toArray, List.set_cons_zero, List.set_cons_succ]))
  | (refine wpSch_not rfl (by rfl) (by assumption) ?_; (try simp only [Act.put, List.setIfInBounds_toArray, List.set_cons_zero, List.set_cons_succ]))))
            refine wpSch_call rfl (by rfl) (fun K hK => ?_); go_simp
            refine (pused PQ.out.drew).mono ?_
            rintro e w5 ⟨rfl, p5, b5⟩
            have P5 := Lib.hid p5; have B5 := Lib.hid (BQ.out.drew.trans b5)
            clear p5 b5
            refine hK.out _ _ ?_ (fun hHeld => ?_)
            · exact HCELL.out _ B5.out
            clear hK K
            (try simp only [Act.put, List.setIfInBounds_toArray, List.set_cons_zero, List.set_cons_succ])
            (repeat (first
  | (refine wpSch_yes (v := ?_) rfl (fun _ _ _ h => h) (by rfl) ?_ ?_; rotate_left; (next => (intro w hSw; (try dsimp only at hSw); go_simp; (try with_reducible rfl))); (try simp only [Act.put, List.setIfInBounds_toArray, List.set_cons_zero, List.set_cons_succ]))
  | (refine wpSch_no rfl (fun _ _ _ h => h) (by rfl) ?_; (try simp only [Act.put, List.setIfInBounds_toArray, List.set_cons_zero, List.set_cons_succ]))
  | (refine wpSch_not rfl (by rfl) (by assumption) ?_; (try simp only [Act.put, List.setIfInBounds_toArray, List.set_cons_zero, List.set_cons_succ]))))
            refine wpSch_call rfl (by rfl) (fun K hK => ?_); go_simp
            refine (prall P5.out).mono ?_
            rintro e w6 ⟨a6, l6, rfl, _, _, p6, b6⟩
            have P6 := Lib.hid p6; have B6 := Lib.hid (B5.out.trans b6)
            clear p6 b6
            refine hK.out _ _ ?_ (fun hHeld => ?_)
            · exact HCELL.out _ B6.out
            clear hK K
            (try simp only [Act.put, List.setIfInBounds_toArray, List.set_cons_zero, List.set_cons_succ])
            (repeat (first
  | (refine wpSch_yes (v := ?_) rfl (fun _ _ _ h => h) (by rfl) ?_ ?_; rotate_left; (next => (intro w hSw; (try dsimp only at hSw); go_simp; (try with_reducible rfl))); (try simp only [Act.put, List.setIfInBounds_toArray, List.set_cons_zero, List.set_cons_succ]))
  | (refine wpSch_no rfl (fun _ _ _ h => h) (by rfl) ?_; (try simp only [Act.put, List.setIfInBounds_toArray, List.set_cons_zero, List.set_cons_succ]))
  | (refine wpSch_not rfl (by rfl) (by assumption) ?_; (try simp only [Act.put, List.setIfInBounds_toArray, List.set_cons_zero, List.set_cons_succ]))))
            refine wpSch_nil ?_
            go_wp2_with fail
            go_meet
            exact ⟨rfl, P6.out, B6.out⟩
          case rest =>
            obtain ⟨rfl, hp7, hb7⟩ := hcut
            have P7 := Lib.hid hp7; have B7 := Lib.hid hb7; clear hp7 hb7
            go_wp2
            go_roundg (gk - 1)
            case measure => omega
            case rel => exact ⟨k + 1, s', by omega, by go_num, P7.out, B7.out⟩
        · skip
          go_upto_region 12 with fail
          go_cut [74] (fun s74 wx => s74 = .bool false ∧ Pair w.heap.size w.heap.size gr wx (s.freeS x) (s.freeS x) ∧ Below w.heap.size w wx)
          case first =>
            have fe : (s.freeE x != s.freeE x) = false := by simp
            refine wp_region_sch (fun w' => w'.cell? ⟨b1, o1 + k, none⟩ = some (.int .i64 x)) [(true, 0), (true, 1), (true, 2), (true, 3), (true, 4), (true, 6), (true, 7), (true, 8), (true, 9), (true, 10), (false, 5), (false, 11), (true, 12)] (by kernel_rfl) (by kernel_rfl) (by kernel_rfl) (by kernel_rfl) (HCELL.out _ HB.out.drew) ?_
            (repeat (first
  | (refine wpSch_yes (v := ?_) rfl (fun _ _ _ h => h) (by rfl) ?_ ?_; rotate_left; (next => (intro w hSw; (try dsimp only at hSw); go_simp; (try with_reducible rfl))); (try simp only [Act.put, List.setIfInBounds_toArray, List.set_cons_zero, List.set_cons_succ]))
  | (refine wpSch_no rfl (fun _ _ _ h => h) (by rfl) ?_; (try simp only [Act.put, List.setIfInBounds_toArray, List.set_cons_zero, List.set_cons_succ]))
  | (refine wpSch_not rfl (by rfl) (by assumption) ?_; (try simp only [Act.put, List.setIfInBounds_toArray, List.set_cons_zero, List.set_cons_succ]))))
            refine wpSch_call rfl (by rfl) (fun K hK => ?_); go_simp
            refine (pfree _ HP.out.drew).mono ?_
            rintro e w5 ⟨rfl, p5, b5⟩
            have P5 := Lib.hid p5; have B5 := Lib.hid (HB.out.drew.trans b5)
            clear p5 b5
            refine hK.out _ _ ?_ (fun hHeld => ?_)
            · exact HCELL.out _ B5.out
            clear hK K
            (try simp only [Act.put, List.setIfInBounds_toArray, List.set_cons_zero, List.set_cons_succ])
            (repeat (first
  | (refine wpSch_yes (v := ?_) rfl (fun _ _ _ h => h) (by rfl) ?_ ?_; rotate_left; (next => (intro w hSw; (try dsimp only at hSw); go_simp; (try with_reducible rfl))); (try simp only [Act.put, List.setIfInBounds_toArray, List.set_cons_zero, List.set_cons_succ]))
  | (refine wpSch_no rfl (fun _ _ _ h => h) (by rfl) ?_; (try simp only [Act.put, List.setIfInBounds_toArray, List.set_cons_zero, List.set_cons_succ]))
  | (refine wpSch_not rfl (by rfl) (by assumption) ?_; (try simp only [Act.put, List.setIfInBounds_toArray, List.set_cons_zero, List.set_cons_succ]))))
            refine wpSch_call rfl (by rfl) (fun K hK => ?_); go_simp
            refine (prfree _ P5.out).mono ?_
            rintro e w6 ⟨rfl, p6, b6⟩
            have P6 := Lib.hid p6; have B6 := Lib.hid (B5.out.trans b6)
            clear p6 b6
            refine hK.out _ _ ?_ (fun hHeld => ?_)
            · exact HCELL.out _ B6.out
            clear hK K
            (try simp only [Act.put, List.setIfInBounds_toArray, List.set_cons_zero, List.set_cons_succ])
            (repeat (first
  | (refine wpSch_yes (v := ?_) rfl (fun _ _ _ h => h) (by rfl) ?_ ?_; rotate_left; (next => (intro w hSw; (try dsimp only at hSw); go_simp; (try with_reducible rfl))); (try simp only [Act.put, List.setIfInBounds_toArray, List.set_cons_zero, List.set_cons_succ]))
  | (refine wpSch_no rfl (fun _ _ _ h => h) (by rfl) ?_; (try simp only [Act.put, List.setIfInBounds_toArray, List.set_cons_zero, List.set_cons_succ]))
  | (refine wpSch_not rfl (by rfl) (by assumption) ?_; (try simp only [Act.put, List.setIfInBounds_toArray, List.set_cons_zero, List.set_cons_succ]))))
            refine wpSch_nil ?_
            go_wp2_with fail
            go_meet
            exact ⟨rfl, P6.out, B6.out⟩
          case rest =>
            obtain ⟨rfl, hpq, hbq⟩ := hcut
            have PQ := Lib.hid hpq; have BQ := Lib.hid hbq; clear hpq hbq
            generalize s.freeS x = s' at *
            go_upto_region 14 with fail
            go_cut [95] (fun s95 wx => s95 = .bool false ∧ Pair w.heap.size w.heap.size gr wx s' s' ∧ Below w.heap.size w wx)
            case first =>
              have fh : (s'.has x != s'.has x) = false := by simp
              have fu : (((s'.out.count true : Nat) : Int) != ((s'.out.count true : Nat) : Int)) = false := by simp
              refine wp_region_sch (fun w' => w'.cell? ⟨b1, o1 + k, none⟩ = some (.int .i64 x)) [(true, 0), (true, 1), (true, 2), (true, 3), (true, 4), (true, 6), (true, 7), (true, 8), (true, 9), (true, 10), (false, 5), (false, 11), (true, 12), (true, 13), (true, 14), (true, 16), (false, 15), (false, 17), (true, 18), (true, 19), (true, 20)] (by kernel_rfl) (by kernel_rfl) (by kernel_rfl) (by kernel_rfl) (HCELL.out _ BQ.out.drew) ?_
              (repeat (first
  | (refine wpSch_yes (v := ?_) rfl (fun _ _ _ h => h) (by rfl) ?_ ?_; rotate_left; (next => (intro w hSw; (try dsimp only at hSw); go_simp; (try with_reducible rfl))); (try simp only [Act.put, List.setIfInBounds_toArray, List.set_cons_zero, List.set_cons_succ]))
  | (refine wpSch_no rfl (fun _ _ _ h => h) (by rfl) ?_; (try simp only [Act.put, List.setIfInBounds_toArray, List.set_cons_zero, List.set_cons_succ]))
  | (refine wpSch_not rfl (by rfl) (by assumption) ?_; (try simp only [Act.put, List.setIfInBounds_toArray, List.set_cons_zero, List.set_cons_succ]))))
              refine wpSch_call rfl (by rfl) (fun K hK => ?_); go_simp
              refine (phas _ PQ.out.drew).mono ?_
              rintro e w' ⟨rfl, rfl⟩
              refine hK.out _ _ ?_ (fun hHeld => ?_)
              · exact HCELL.out _ BQ.out.drew
              clear hK K
              (try simp only [Act.put, List.setIfInBounds_toArray, List.set_cons_zero, List.set_cons_succ])
              (repeat (first
  | (refine wpSch_yes (v := ?_) rfl (fun _ _ _ h => h) (by rfl) ?_ ?_; rotate_left; (next => (intro w hSw; (try dsimp only at hSw); go_simp; (try with_reducible rfl))); (try simp only [Act.put, List.setIfInBounds_toArray, List.set_cons_zero, List.set_cons_succ]))
  | (refine wpSch_no rfl (fun _ _ _ h => h) (by rfl) ?_; (try simp only [Act.put, List.setIfInBounds_toArray, List.set_cons_zero, List.set_cons_succ]))
  | (refine wpSch_not rfl (by rfl) (by assumption) ?_; (try simp only [Act.put, List.setIfInBounds_toArray, List.set_cons_zero, List.set_cons_succ]))))
              refine wpSch_call rfl (by rfl) (fun K hK => ?_); go_simp
              refine (prhas _ PQ.out.drew).mono ?_
              rintro e w' ⟨rfl, rfl⟩
              refine hK.out _ _ ?_ (fun hHeld => ?_)
              · exact HCELL.out _ BQ.out.drew
              clear hK K
              (try simp only [Act.put, List.setIfInBounds_toArray, List.set_cons_zero, List.set_cons_succ])
              (repeat (first
  | (refine wpSch_yes (v := ?_) rfl (fun _ _ _ h => h) (by rfl) ?_ ?_; rotate_left; (next => (intro w hSw; (try dsimp only at hSw); go_simp; (try with_reducible rfl))); (try simp only [Act.put, List.setIfInBounds_toArray, List.set_cons_zero, List.set_cons_succ]))
  | (refine wpSch_no rfl (fun _ _ _ h => h) (by rfl) ?_; (try simp only [Act.put, List.setIfInBounds_toArray, List.set_cons_zero, List.set_cons_succ]))
  | (refine wpSch_not rfl (by rfl) (by assumption) ?_; (try simp only [Act.put, List.setIfInBounds_toArray, List.set_cons_zero, List.set_cons_succ]))))
              refine wpSch_call rfl (by rfl) (fun K hK => ?_); go_simp
              refine (pused PQ.out.drew).mono ?_
              rintro e w5 ⟨rfl, p5, b5⟩
              have P5 := Lib.hid p5; have B5 := Lib.hid (BQ.out.drew.trans b5)
              clear p5 b5
              refine hK.out _ _ ?_ (fun hHeld => ?_)
              · exact HCELL.out _ B5.out
              clear hK K
              (try simp only [Act.put, List.setIfInBounds_toArray, List.set_cons_zero, List.set_cons_succ])
              (repeat (first
  | (refine wpSch_yes (v := ?_) rfl (fun _ _ _ h => h) (by rfl) ?_ ?_; rotate_left; (next => (intro w hSw; (try dsimp only at hSw); go_simp; (try with_reducible rfl))); (try simp only [Act.put, List.setIfInBounds_toArray, List.set_cons_zero, List.set_cons_succ]))
  | (refine wpSch_no rfl (fun _ _ _ h => h) (by rfl) ?_; (try simp only [Act.put, List.setIfInBounds_toArray, List.set_cons_zero, List.set_cons_succ]))
  | (refine wpSch_not rfl (by rfl) (by assumption) ?_; (try simp only [Act.put, List.setIfInBounds_toArray, List.set_cons_zero, List.set_cons_succ]))))
              refine wpSch_call rfl (by rfl) (fun K hK => ?_); go_simp
              refine (prall P5.out).mono ?_
              rintro e w6 ⟨a6, l6, rfl, _, _, p6, b6⟩
              have P6 := Lib.hid p6; have B6 := Lib.hid (B5.out.trans b6)
              clear p6 b6
              refine hK.out _ _ ?_ (fun hHeld => ?_)
              · exact HCELL.out _ B6.out
              clear hK K
              (try simp only [Act.put, List.setIfInBounds_toArray, List.set_cons_zero, List.set_cons_succ])
              (repeat (first
  | (refine wpSch_yes (v := ?_) rfl (fun _ _ _ h => h) (by rfl) ?_ ?_; rotate_left; (next => (intro w hSw; (try dsimp only at hSw); go_simp; (try with_reducible rfl))); (try simp only [Act.put, List.setIfInBounds_toArray, List.set_cons_zero, List.set_cons_succ]))
  | (refine wpSch_no rfl (fun _ _ _ h => h) (by rfl) ?_; (try simp only [Act.put, List.setIfInBounds_toArray, List.set_cons_zero, List.set_cons_succ]))
  | (refine wpSch_not rfl (by rfl) (by assumption) ?_; (try simp only [Act.put, List.setIfInBounds_toArray, List.set_cons_zero, List.set_cons_succ]))))
              refine wpSch_nil ?_
              go_wp2_with fail
              go_meet
              exact ⟨rfl, P6.out, B6.out⟩
            case rest =>
              obtain ⟨rfl, hp7, hb7⟩ := hcut
              have P7 := Lib.hid hp7; have B7 := Lib.hid hb7; clear hp7 hb7
              go_wp2
              go_roundg (gk - 1)
              case measure => omega
              case rel => exact ⟨k + 1, s', by omega, by go_num, P7.out, B7.out⟩
      · have hge : 0 ≤ x := by omega
        go_upto_region 12 with fail
        go_cut [74] (fun s74 wx => s74 = .bool false ∧ Pair w.heap.size w.heap.size gr wx (s.freeS x) (s.freeS x) ∧ Below w.heap.size w wx)
        case first =>
          have fe : (s.freeE x != s.freeE x) = false := by simp
          refine wp_region_sch (fun w' => w'.cell? ⟨b1, o1 + k, none⟩ = some (.int .i64 x)) [(true, 0), (true, 1), (true, 2), (true, 3), (true, 4), (true, 6), (true, 7), (true, 8), (true, 9), (true, 10), (false, 5), (false, 11), (true, 12)] (by kernel_rfl) (by kernel_rfl) (by kernel_rfl) (by kernel_rfl) (HCELL.out _ HB.out.drew) ?_
          (repeat (first
  | (refine wpSch_yes (v := ?_) rfl (fun _ _ _ h => h) (by rfl) ?_ ?_; rotate_left; (next => (intro w hSw; (try dsimp only at hSw); go_simp; (try with_reducible rfl))); (try simp only [Act.put, List.setIfInBounds_toArray, List.set_cons_zero, List.set_cons_succ]))
  | (refine wpSch_no rfl (fun _ _ _ h => h) (by rfl) ?_; (try simp only [Act.put, List.setIfInBounds_toArray, List.set_cons_zero, List.set_cons_succ]))
  | (refine wpSch_not rfl (by rfl) (by assumption) ?_; (try simp only [Act.put, List.setIfInBounds_toArray, List.set_cons_zero, List.set_cons_succ]))))
          refine wpSch_call rfl (by rfl) (fun K hK => ?_); go_simp
          refine (pfree _ HP.out.drew).mono ?_
          rintro e w5 ⟨rfl, p5, b5⟩
          have P5 := Lib.hid p5; have B5 := Lib.hid (HB.out.drew.trans b5)
          clear p5 b5
          refine hK.out _ _ ?_ (fun hHeld => ?_)
          · exact HCELL.out _ B5.out
          clear hK K
          (try simp only [Act.put, List.setIfInBounds_toArray, List.set_cons_zero, List.set_cons_succ])
          (repeat (first
  | (refine wpSch_yes (v := ?_) rfl (fun _ _ _ h => h) (by rfl) ?_ ?_; rotate_left; (next => (intro w hSw; (try dsimp only at hSw); go_simp; (try with_reducible rfl))); (try simp only [Act.put, List.setIfInBounds_toArray, List.set_cons_zero, List.set_cons_succ]))
  | (refine wpSch_no rfl (fun _ _ _ h => h) (by rfl) ?_; (try simp only [Act.put, List.setIfInBounds_toArray, List.set_cons_zero, List.set_cons_succ]))
  | (refine wpSch_not rfl (by rfl) (by assumption) ?_; (try simp only [Act.put, List.setIfInBounds_toArray, List.set_cons_zero, List.set_cons_succ]))))
          refine wpSch_call rfl (by rfl) (fun K hK => ?_); go_simp
          refine (prfree _ P5.out).mono ?_
          rintro e w6 ⟨rfl, p6, b6⟩
          have P6 := Lib.hid p6; have B6 := Lib.hid (B5.out.trans b6)
          clear p6 b6
          refine hK.out _ _ ?_ (fun hHeld => ?_)
          · exact HCELL.out _ B6.out
          clear hK K
          (try simp only [Act.put, List.setIfInBounds_toArray, List.set_cons_zero, List.set_cons_succ])
          (repeat (first
  | (refine wpSch_yes (v := ?_) rfl (fun _ _ _ h => h) (by rfl) ?_ ?_; rotate_left; (next => (intro w hSw; (try dsimp only at hSw); go_simp; (try with_reducible rfl))); (try simp only [Act.put, List.setIfInBounds_toArray, List.set_cons_zero, List.set_cons_succ]))
  | (refine wpSch_no rfl (fun _ _ _ h => h) (by rfl) ?_; (try simp only [Act.put, List.setIfInBounds_toArray, List.set_cons_zero, List.set_cons_succ]))
  | (refine wpSch_not rfl (by rfl) (by assumption) ?_; (try simp only [Act.put, List.setIfInBounds_toArray, List.set_cons_zero, List.set_cons_succ]))))
          refine wpSch_nil ?_
          go_wp2_with fail
          go_meet
          exact ⟨rfl, P6.out, B6.out⟩
        case rest =>
          obtain ⟨rfl, hpq, hbq⟩ := hcut
          have PQ := Lib.hid hpq; have BQ := Lib.hid hbq; clear hpq hbq
          generalize s.freeS x = s' at *
          go_upto_region 14 with fail
          go_cut [95] (fun s95 wx => s95 = .bool false ∧ Pair w.heap.size w.heap.size gr wx s' s' ∧ Below w.heap.size w wx)
          case first =>
            have fh : (s'.has x != s'.has x) = false := by simp
            have fu : (((s'.out.count true : Nat) : Int) != ((s'.out.count true : Nat) : Int)) = false := by simp
            refine wp_region_sch (fun w' => w'.cell? ⟨b1, o1 + k, none⟩ = some (.int .i64 x)) [(true, 0), (true, 1), (true, 2), (true, 3), (true, 4), (true, 6), (true, 7), (true, 8), (true, 9), (true, 10), (false, 5), (false, 11), (true, 12), (true, 13), (true, 14), (true, 16), (false, 15), (false, 17), (true, 18), (true, 19), (true, 20)] (by kernel_rfl) (by kernel_rfl) (by kernel_rfl) (by kernel_rfl) (HCELL.out _ BQ.out.drew) ?_
            (repeat (first
  | (refine wpSch_yes (v := ?_) rfl (fun _ _ _ h => h) (by rfl) ?_ ?_; rotate_left; (next => (intro w hSw; (try dsimp only at hSw); go_simp; (try with_reducible rfl))); (try simp only [Act.put, List.setIfInBounds_toArray, List.set_cons_zero, List.set_cons_succ]))
  | (refine wpSch_no rfl (fun _ _ _ h => h) (by rfl) ?_; (try simp only [Act.put, List.setIfInBounds_toArray, List.set_cons_zero, List.set_cons_succ]))
  | (refine wpSch_not rfl (by rfl) (by assumption) ?_; (try simp only [Act.put, List.setIfInBounds_toArray, List.set_cons_zero, List.set_cons_succ]))))
            refine wpSch_call rfl (by rfl) (fun K hK => ?_); go_simp
            refine (phas _ PQ.out.drew).mono ?_
            rintro e w' ⟨rfl, rfl⟩
            refine hK.out _ _ ?_ (fun hHeld => ?_)
            · exact HCELL.out _ BQ.out.drew
            clear hK K
            (try simp only [Act.put, List.setIfInBounds_toArray, List.set_cons_zero, List.set_cons_succ])
            (repeat (first
  | (refine wpSch_yes (v := ?_) rfl (fun _ _ _ h => h) (by rfl) ?_ ?_; rotate_left; (next => (intro w hSw; (try dsimp only at hSw); go_simp; (try with_reducible rfl))); (try simp only [Act.put, List.setIfInBounds_toArray, List.set_cons_zero, List.set_cons_succ]))
  | (refine wpSch_no rfl (fun _ _ _ h => h) (by rfl) ?_; (try simp only [Act.put, List.setIfInBounds_toArray, List.set_cons_zero, List.set_cons_succ]))
  | (refine wpSch_not rfl (by rfl) (by assumption) ?_; (try simp only [Act.put, List.setIfInBounds_toArray, List.set_cons_zero, List.set_cons_succ]))))
            refine wpSch_call rfl (by rfl) (fun K hK => ?_); go_simp
            refine (prhas _ PQ.out.drew).mono ?_
            rintro e w' ⟨rfl, rfl⟩
            refine hK.out _ _ ?_ (fun hHeld => ?_)
            · exact HCELL.out _ BQ.out.drew
            clear hK K
            (try simp only [Act.put, List.setIfInBounds_toArray, List.set_cons_zero, List.set_cons_succ])
            (repeat (first
  | (refine wpSch_yes (v := ?_) rfl (fun _ _ _ h => h) (by rfl) ?_ ?_; rotate_left; (next => (intro w hSw; (try dsimp only at hSw); go_simp; (try with_reducible rfl))); (try simp only [Act.put, List.setIfInBounds_toArray, List.set_cons_zero, List.set_cons_succ]))
  | (refine wpSch_no rfl (fun _ _ _ h => h) (by rfl) ?_; (try simp only [Act.put, List.setIfInBounds_toArray, List.set_cons_zero, List.set_cons_succ]))
  | (refine wpSch_not rfl (by rfl) (by assumption) ?_; (try simp only [Act.put, List.setIfInBounds_toArray, List.set_cons_zero, List.set_cons_succ]))))
            refine wpSch_call rfl (by rfl) (fun K hK => ?_); go_simp
            refine (pused PQ.out.drew).mono ?_
            rintro e w5 ⟨rfl, p5, b5⟩
            have P5 := Lib.hid p5; have B5 := Lib.hid (BQ.out.drew.trans b5)
            clear p5 b5
            refine hK.out _ _ ?_ (fun hHeld => ?_)
            · exact HCELL.out _ B5.out
            clear hK K
            (try simp only [Act.put, List.setIfInBounds_toArray, List.set_cons_zero, List.set_cons_succ])
            (repeat (first
  | (refine wpSch_yes (v := ?_) rfl (fun _ _ _ h => h) (by rfl) ?_ ?_; rotate_left; (next => (intro w hSw; (try dsimp only at hSw); go_simp; (try with_reducible rfl))); (try simp only [Act.put, List.setIfInBounds_toArray, List.set_cons_zero, List.set_cons_succ]))
  | (refine wpSch_no rfl (fun _ _ _ h => h) (by rfl) ?_; (try simp only [Act.put, List.setIfInBounds_toArray, List.set_cons_zero, List.set_cons_succ]))
  | (refine wpSch_not rfl (by rfl) (by assumption) ?_; (try simp only [Act.put, List.setIfInBounds_toArray, List.set_cons_zero, List.set_cons_succ]))))
            refine wpSch_call rfl (by rfl) (fun K hK => ?_); go_simp
            refine (prall P5.out).mono ?_
            rintro e w6 ⟨a6, l6, rfl, _, _, p6, b6⟩
            have P6 := Lib.hid p6; have B6 := Lib.hid (B5.out.trans b6)
            clear p6 b6
            refine hK.out _ _ ?_ (fun hHeld => ?_)
            · exact HCELL.out _ B6.out
            clear hK K
            (try simp only [Act.put, List.setIfInBounds_toArray, List.set_cons_zero, List.set_cons_succ])
            (repeat (first
  | (refine wpSch_yes (v := ?_) rfl (fun _ _ _ h => h) (by rfl) ?_ ?_; rotate_left; (next => (intro w hSw; (try dsimp only at hSw); go_simp; (try with_reducible rfl))); (try simp only [Act.put, List.setIfInBounds_toArray, List.set_cons_zero, List.set_cons_succ]))
  | (refine wpSch_no rfl (fun _ _ _ h => h) (by rfl) ?_; (try simp only [Act.put, List.setIfInBounds_toArray, List.set_cons_zero, List.set_cons_succ]))
  | (refine wpSch_not rfl (by rfl) (by assumption) ?_; (try simp only [Act.put, List.setIfInBounds_toArray, List.set_cons_zero, List.set_cons_succ]))))
            refine wpSch_nil ?_
            go_wp2_with fail
            go_meet
            exact ⟨rfl, P6.out, B6.out⟩
          case rest =>
            obtain ⟨rfl, hp7, hb7⟩ := hcut
            have P7 := Lib.hid hp7; have B7 := Lib.hid hb7; clear hp7 hb7
            go_wp2
            go_roundg (gk - 1)
            case measure => omega
            case rel => exact ⟨k + 1, s', by omega, by go_num, P7.out, B7.out⟩
    · clear HL
      have hol : s.out.length ≤ 4096 := Nat.le_trans HP.out.ok.len HP.out.ok.n
      have HT := Lib.hid (told_most s.out hol)
      have hal : (allOf s.out).length ≤ 4096 := Nat.le_trans (allTo_len s.out s.out.length) hol
      have HLEN := Lib.hid (len_allOf s.out).symm
      have HOUT : Hid (¬ (k < zs.length ∧ k < 100)) := Lib.hid hin
      by_cases hin1 : k < zs.length
      all_goals
        have hk100 : zs.length ≤ k ∨ 100 ≤ k := by omega
        clear hin
        go_wp2_with (first
          | (go_at_call 20; (with_reducible refine (pall HP.out).mono ?_); rintro e w5 ⟨rfl, t5, p5, b5⟩; have T5 := Lib.hid t5; have P5 := Lib.hid p5; have B5 := Lib.hid (HB.out.trans b5); clear t5 p5 b5)
          | (go_at_call 19; (with_reducible refine (hall_is _ _ _ HT.out hol _ T5.out).mono ?_); rintro e w6 ⟨a6, c6, rfl, r6, k6⟩; have R6 := Lib.hid r6; have P6 := Lib.hid (P5.out.keep k6).1; have B6 := Lib.hid (B5.out.trans (P5.out.keep k6).2); clear r6 k6)
          | (go_at_call 17; (with_reducible refine (prall P6.out).mono ?_); rintro e w7 ⟨a7, c7, rfl, r7, k7, _, b7⟩; have R7 := Lib.hid r7; have R67 := Lib.hid (R6.out.keep k7); have B7 := Lib.hid (B6.out.trans b7); clear r7 k7 b7)
          | (go_at_call 18; (with_reducible refine (plain_all _ _ _ rfl HLEN.out _ _ _ _ _ hal R67.out R7.out).mono ?_); rintro e w8 ⟨rfl, n8, hw8⟩; have HW8 := Lib.hid hw8; clear hw8))
        go_ret
        refine ⟨rfl, ?_⟩
        rw [HW8.out]
        exact B7.out.trans ⟨rfl, rfl, rfl, Nat.le_refl _, fun _ _ => rfl⟩

set_option maxRecDepth 100000 in
theorem lifted (os : Os) (started : os.Started) (H : Type) (enc : TypeId × Value → H) :
    ReturnsInHanded {} Try.checked os 3 .any (Rows.arenaPlaysSpec.pre6 enc Try.prog Try.f3 Rows.arenaPlaysRow.domain false) (Rows.arenaPlaysSpec.post enc Try.prog Try.f3 false true false false) := by
  refine returnsInHanded_of_change (C := Try.checked) own started (by kernel_rfl) Try.func3
    (ChangeSpec.witness6 (enc := enc) (C := Try.checked) false ⟨#[], #[.int .i64 0, .slice none 0 0], []⟩ 8 (by kernel_rfl) (by kernel_rfl) (by kernel_rfl) (by kernel_rfl)) ?_
  intro W base args ds gs before hval0 hW hcnd _
  have hval : ∀ (j : Nat) t v, Try.f3.params[j]? = some t → args[j]? = some v → Value.okWide Try.prog W .any base t v := hval0
  have hW' := hW
  obtain ⟨p, q, hA0, hV, rfl, hfz, hnd⟩ := hW
  have hA : DataW.TrodAll enc Try.prog W 0 (fun _ => true) true Try.f3.params.toList args.toList ds p := hA0
  rw [Try.params3] at hA hval
  obtain ⟨v0, vs0, d0, ds0, p0, q0, hargs, rfl, rfl, h0, r0⟩ := trodAll_cons hA
  obtain ⟨v1, vs1, d1, ds1, p1, q1, rfl, rfl, rfl, h1, r1⟩ := trodAll_cons r0
  obtain ⟨rfl, rfl, rfl⟩ := trodAll_nil r1
  obtain rfl : args = #[v0, v1] := by cases args; simp_all
  obtain ⟨rfl, rfl⟩ := trodVars_none hV
  obtain ⟨a0, rfl, rfl, rfl, w0⟩ := open_int Try.underlying3 (hval 0 3 v0 rfl rfl) h0
  obtain ⟨a1, len1, cap1, rfl⟩ := okWide_slice Try.underlying22 (hval 1 22 v1 rfl rfl)
  have k1 := h1
  have lt1 : ∀ x ∈ p1, x.block < W.heap.size := by obtain ⟨m, hm⟩ := k1; exact DataW.trod_lt m _ _ _ hm
  obtain ⟨z1, w1⟩ : ∃ zs, IsRow .i64 W a1 len1 cap1 zs := by
    obtain ⟨fuel, hf⟩ := h1
    rcases open_ints Try.underlying22 Try.underlying3 (by kernel_rfl) hf with ⟨hcs, _⟩ | ⟨x, l, c, zs, hcs, _, hl, hm, hz, _, hcell, hwz⟩
    · simp [Value.cells] at hcs
      obtain ⟨rfl, rfl, rfl⟩ := hcs
      exact ⟨[], .inl ⟨rfl, rfl, rfl, rfl⟩⟩
    · simp [Value.cells] at hcs
      obtain ⟨rfl, rfl, rfl⟩ := hcs
      exact ⟨zs, .inr ⟨_, rfl, hl, hm, by simpa using hz, hcell, hwz⟩⟩
  clear hA0 hval0
  refine (walk a0 a1 len1 cap1 z1 W w0 w1).mono fun e W' ⟨he, bel⟩ => ?_
  subst he
  exact ⟨_, rfl, _, _, _, [], _, [], hW', trodAll_mk1 (shut_bool Try.underlying4 _), (trodAll_cons_mk (shut_int Try.underlying3 w0) (trodAll_cons_mk (Below.trod laidOut (by kernel_rfl) (of_decide_eq_true (by kernel_rfl)) k1 bel lt1) trodAll_mk0)), rfl, bel.frame _, fun h => by cases h⟩

theorem over : Rows.arenaPlaysRow.holds Try.pinned (OpenSpec.ofChange Rows.arenaPlaysSpec) :=
  OpenClaim.holds_of_wide 3 Try.f3 rfl rfl rfl rfl rfl rfl rfl ⟨rfl, rfl, rfl, rfl, rfl⟩ rfl rfl rfl rfl rfl (by kernel_rfl) Try.func3 (by kernel_rfl)
    (of_decide_eq_true (by kernel_rfl)) (by unfold Func.isWrapper; first | (rw [if_pos (by decide +kernel)]; kernel_rfl) | (rw [if_neg (by decide +kernel)]; exact ⟨rfl, rfl⟩))
    (fun os started H enc _ => lifted os started H enc)

theorem proved : Rows.ArenaPlaysSaid := over
end Go.Proofs.Ytlhppmffbidjnaa.arenaPlays
namespace Go.Proofs.Ytlhppmffbidjnaa
theorem arenaPlays_holds : Rows.ArenaPlaysSaid := arenaPlays.proved
#print axioms arenaPlays_holds
end Go.Proofs.Ytlhppmffbidjnaa
