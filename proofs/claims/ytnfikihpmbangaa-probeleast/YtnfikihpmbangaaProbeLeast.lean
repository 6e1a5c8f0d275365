/-
  Proved: canterlaw15.ProbeLeast answers true at every two lists of numbers, and leaves its arguments as they were. Conditions: none.
-/
import Derived.Test.YtnfikihpmbangaaRows
import Derived.WalkKit
import Derived.ProofKit
import Derived.OpenShut
import Derived.ShutString
import Derived.ChangeOld
import Derived.Below
import Derived.Test.YtnfikihpmbangaaPrbLeast
import Derived.OwnWalk
namespace Go.Proofs.Ytnfikihpmbangaa.probeLeast
open Go.ChangeShapes Go.WideShapes Go.ChangeAt Go.RowKit
open Go.ChangeMaps (open_string shut_string)
set_option linter.unusedVariables false

theorem own : ownKnob Try.prog.godebug = none := by kernel_rfl
theorem laidOut : laidOutB Try.prog = true := by kernel_rfl

def IsRow (k : IntKind) (w : World) (a : Option Addr) (len cap : Nat) (zs : List Int) : Prop :=
  (a = none ∧ len = 0 ∧ cap = 0 ∧ zs = []) ∨
  ∃ x, a = some x ∧ len ≤ cap ∧ cap ≤ maxLen ∧ zs.length = cap ∧ (∀ i, i < zs.length → w.cell? (x.add i) = some (.int k (zs.getD i 0))) ∧ ∀ n ∈ zs, (Lit.int k n).wf = true

theorem rd_of_row {w : World} {a : Option Addr} {len cap : Nat} {z : List Int} (h : IsRow .u64 w a len cap z) :
    (z.take len).length = len ∧ len ≤ 9223372036854775807 ∧ Rd .u64 w a (z.take len) ∧ ∀ k, k < (z.take len).length → 0 ≤ (z.take len).getD k 0 ∧ (z.take len).getD k 0 ≤ 18446744073709551615 := by
  rcases h with ⟨rfl, rfl, rfl, rfl⟩ | ⟨x, rfl, hl, hm, hz, hc, hw⟩
  · exact ⟨rfl, by omega, fun i hi => by simp at hi, fun k hk => by simp at hk⟩
  · have hlen : (z.take len).length = len := by simp; omega
    have eg : ∀ i, i < len → (z.take len).getD i 0 = z.getD i 0 := fun i hi => by simp [List.getD_eq_getElem?_getD, hi]
    refine ⟨hlen, by unfold maxLen at hm; omega, fun i hi => ?_, fun k hk => ?_⟩
    · rw [hlen] at hi
      obtain ⟨b, off, e, hat⟩ := ints_at hc (by omega)
      subst e
      have hcell := hat i (by omega)
      exact ⟨b, off, rfl, lt_of_cell hcell, by rw [eg i hi]; exact hcell⟩
    · rw [hlen] at hk
      rw [eg k hk, List.getD_eq_getElem?_getD, List.getElem?_eq_getElem (by omega)]
      exact bounds_u64 (hw _ (List.getElem_mem _))

set_option maxHeartbeats 4000000 in
set_option maxRecDepth 100000 in
theorem walk (a0 : Option Addr) (len0 cap0 : Nat) (z0 : List Int) (a1 : Option Addr) (len1 cap1 : Nat) (z1 : List Int) (w : World) (w0 : IsRow .u64 w a0 len0 cap0 z0) (w1 : IsRow .u64 w a1 len1 cap1 z1) :
    Calls Try.prog 6 #[.slice a0 len0 cap0, .slice a1 len1 cap1] w fun e w' => e = .returned (.bool true) ∧ Below w.heap.size w w' := by
  obtain ⟨hlen0, hmax0, hrd0, hbd0⟩ := rd_of_row w0
  obtain ⟨hlen1, hmax1, hrd1, hbd1⟩ := rd_of_row w1
  clear w0 w1
  generalize z0.take len0 = zs at *
  generalize z1.take len1 = ys at *
  subst hlen0 hlen1
  have HD0 := Lib.hid hrd0; have HN0 := Lib.hid hbd0; have HD1 := Lib.hid hrd1; have HN1 := Lib.hid hbd1; clear hrd0 hbd0 hrd1 hbd1
  go_enter Try.func6, Try.ntmps6
  go_wp2_with fail
  refine ((Room.begin w).prnew).mono ?_
  rintro e w1 ⟨rfl, r1⟩
  have R1 := Lib.hid r1; clear r1
  generalize w.heap.size = g at *
  go_wp2_with fail
  refine R1.out.awakeb.mono ?_
  rintro e w3 ⟨rfl, r3⟩
  have R3 := Lib.hid r3; clear r3 R1
  go_wp2
  go_loopg [6, 7, 8] 60 (fun j s6 s7 i wr => ∃ (k : Nat) (N L S : Int), k + j = 60 ∧ k ≤ zs.length ∧ k ≤ ys.length ∧ i = .int .i64 k ∧ s6 = .int .u64 N ∧ s7 = .int .u64 L ∧ Lst k N L S ∧ Room w wr [prbT g ⟨L, S, false, 0, false⟩])
  case atStart => exact ⟨0, 0, 0, 0, by omega, Nat.zero_le _, Nat.zero_le _, rfl, rfl, rfl, Lst.zero, R3.out⟩
  case round =>
    obtain ⟨k, N, L, S, hk60, hk0, hk1, rfl, rfl, rfl, hC, hRm⟩ := hrel
    have HM := Lib.hid hRm; have HC := Lib.hid hC; clear hRm R3
    by_cases hlt : k < zs.length ∧ k < ys.length ∧ k < 60
    · obtain ⟨hl1, hl2, hl3⟩ := hlt
      obtain ⟨b0, off0, rfl, hb0, hc0⟩ := HD0.out k hl1
      obtain ⟨b1, off1, rfl, hb1, hc1⟩ := HD1.out k hl2
      have n0 := HN0.out k hl1
      have n1 := HN1.out k hl2
      have d0 : wr.cell? ⟨b0, off0 + k, none⟩ = some (.int .u64 (zs.getD k 0)) := (HM.out.bel.cell (p := ⟨b0, off0 + k, none⟩) hb0).trans hc0
      have d1 : wr.cell? ⟨b1, off1 + k, none⟩ = some (.int .u64 (ys.getD k 0)) := (HM.out.bel.cell (p := ⟨b1, off1 + k, none⟩) hb1).trans hc1
      generalize zs.getD k 0 = z at *
      generalize ys.getD k 0 = v at *
      have hi1 : (k : Int) < (zs.length : Int) := by omega
      have hi2 : (k : Int) < (ys.length : Int) := by omega
      have hi3 : (k : Int) < 60 := by omega
      obtain ⟨D, hD⟩ : ∃ D, v % 1000000000 = D := ⟨_, rfl⟩
      have hD0 : 0 ≤ D := by omega
      have hD1 : D ≤ 999999999 := by omega
      have hN0 := hC.n0
      have hN1 : N ≤ 60000000000 := by have := hC.n1; omega
      have NN : Hid (Num (N + D)) := Lib.hid ⟨by omega, by omega⟩
      have NZ : Hid (Num z) := Lib.hid n0
      have NL : Hid (Num L) := Lib.hid hC.l
      have hL00 := hC.l.1
      clear hc0 hc1 hb0 hb1 HD0 HD1 HN0 HN1 hC
      by_cases h0 : 0 < z
      · by_cases hL : L = 0
        · have qL : (L == 0) = true := by simp [hL]
          have hLz : L = 0 ∨ z ≤ L := .inl hL
          clear hL
          by_cases h4 : (k : Int) % 5 = 4
          · have q4 : ((k : Int) % 5 == 4) = true := by simp [h4]
            clear h4
            have HU := Lib.hid (HC.out.fresh (st := true) (f := 0) (o := 0) hl3 hD0 hD1 NZ.out h0 hLz).1
            have HC' := Lib.hid (HC.out.fresh (st := true) (f := 0) (o := 0) hl3 hD0 hD1 NZ.out h0 hLz).2
            have NR := Lib.hid NZ.out
            clear hLz
            have hLL : (z != z) = false := by simp
            go_wp2_with fail
            (try rw [hD])
            refine (HM.out.prupd HU.out NN.out NR.out).mono ?_
            rintro e w4 ⟨rfl, r4⟩
            have R4 := Lib.hid r4; clear r4 HM
            go_wp2_with fail
            refine (R4.out.prin rfl).mono ?_
            rintro e w5 ⟨rfl, rfl⟩
            go_wp2_with fail
            refine (R4.out.prbest rfl).mono ?_
            rintro e w5 ⟨rfl, rfl⟩
            go_wp2
            go_roundg (gk - 1)
            case measure => omega
            case rel => exact ⟨k + 1, _, _, _, by omega, by omega, by omega, by go_num, rfl, rfl, HC'.out, R4.out⟩
          · have q4 : ((k : Int) % 5 == 4) = false := by simp [h4]
            clear h4
            have HU := Lib.hid (HC.out.fresh (st := true) (f := 0) (o := 0) hl3 hD0 hD1 NZ.out h0 hLz).1
            have HC' := Lib.hid (HC.out.fresh (st := true) (f := 0) (o := 0) hl3 hD0 hD1 NZ.out h0 hLz).2
            have NR := Lib.hid NZ.out
            clear hLz
            have hLL : (z != z) = false := by simp
            go_wp2_with fail
            (try rw [hD])
            refine (HM.out.prupd HU.out NN.out NR.out).mono ?_
            rintro e w4 ⟨rfl, r4⟩
            have R4 := Lib.hid r4; clear r4 HM
            go_wp2_with fail
            refine (R4.out.prin rfl).mono ?_
            rintro e w5 ⟨rfl, rfl⟩
            go_wp2_with fail
            refine (R4.out.prbest rfl).mono ?_
            rintro e w5 ⟨rfl, rfl⟩
            go_wp2
            go_roundg (gk - 1)
            case measure => omega
            case rel => exact ⟨k + 1, _, _, _, by omega, by omega, by omega, by go_num, rfl, rfl, HC'.out, R4.out⟩
        · have qL : (L == 0) = false := by simp [hL]
          by_cases hz : z < L
          · have hLz : L = 0 ∨ z ≤ L := .inr (by omega)
            clear hL
            by_cases h4 : (k : Int) % 5 = 4
            · have q4 : ((k : Int) % 5 == 4) = true := by simp [h4]
              clear h4
              have HU := Lib.hid (HC.out.fresh (st := true) (f := 0) (o := 0) hl3 hD0 hD1 NZ.out h0 hLz).1
              have HC' := Lib.hid (HC.out.fresh (st := true) (f := 0) (o := 0) hl3 hD0 hD1 NZ.out h0 hLz).2
              have NR := Lib.hid NZ.out
              clear hLz
              have hLL : (z != z) = false := by simp
              go_wp2_with fail
              (try rw [hD])
              refine (HM.out.prupd HU.out NN.out NR.out).mono ?_
              rintro e w4 ⟨rfl, r4⟩
              have R4 := Lib.hid r4; clear r4 HM
              go_wp2_with fail
              refine (R4.out.prin rfl).mono ?_
              rintro e w5 ⟨rfl, rfl⟩
              go_wp2_with fail
              refine (R4.out.prbest rfl).mono ?_
              rintro e w5 ⟨rfl, rfl⟩
              go_wp2
              go_roundg (gk - 1)
              case measure => omega
              case rel => exact ⟨k + 1, _, _, _, by omega, by omega, by omega, by go_num, rfl, rfl, HC'.out, R4.out⟩
            · have q4 : ((k : Int) % 5 == 4) = false := by simp [h4]
              clear h4
              have HU := Lib.hid (HC.out.fresh (st := true) (f := 0) (o := 0) hl3 hD0 hD1 NZ.out h0 hLz).1
              have HC' := Lib.hid (HC.out.fresh (st := true) (f := 0) (o := 0) hl3 hD0 hD1 NZ.out h0 hLz).2
              have NR := Lib.hid NZ.out
              clear hLz
              have hLL : (z != z) = false := by simp
              go_wp2_with fail
              (try rw [hD])
              refine (HM.out.prupd HU.out NN.out NR.out).mono ?_
              rintro e w4 ⟨rfl, r4⟩
              have R4 := Lib.hid r4; clear r4 HM
              go_wp2_with fail
              refine (R4.out.prin rfl).mono ?_
              rintro e w5 ⟨rfl, rfl⟩
              go_wp2_with fail
              refine (R4.out.prbest rfl).mono ?_
              rintro e w5 ⟨rfl, rfl⟩
              go_wp2
              go_roundg (gk - 1)
              case measure => omega
              case rel => exact ⟨k + 1, _, _, _, by omega, by omega, by omega, by go_num, rfl, rfl, HC'.out, R4.out⟩
          · have qz : decide (z < L) = false := by simp [hz]
            have hL0 : 0 < L := by omega
            clear hL
            by_cases h4 : (k : Int) % 5 = 4
            · have q4 : ((k : Int) % 5 == 4) = true := by simp [h4]
              clear h4
              have HU := Lib.hid (HC.out.fresh (st := true) (f := 0) (o := 0) hl3 hD0 hD1 NL.out hL0 (.inr (Int.le_refl _))).1
              have HC' := Lib.hid (HC.out.fresh (st := true) (f := 0) (o := 0) hl3 hD0 hD1 NL.out hL0 (.inr (Int.le_refl _))).2
              have NR := Lib.hid NL.out
              have hLL : (L != L) = false := by simp
              go_wp2_with fail
              (try rw [hD])
              refine (HM.out.prupd HU.out NN.out NR.out).mono ?_
              rintro e w4 ⟨rfl, r4⟩
              have R4 := Lib.hid r4; clear r4 HM
              go_wp2_with fail
              refine (R4.out.prin rfl).mono ?_
              rintro e w5 ⟨rfl, rfl⟩
              go_wp2_with fail
              refine (R4.out.prbest rfl).mono ?_
              rintro e w5 ⟨rfl, rfl⟩
              go_wp2
              go_roundg (gk - 1)
              case measure => omega
              case rel => exact ⟨k + 1, _, _, _, by omega, by omega, by omega, by go_num, rfl, rfl, HC'.out, R4.out⟩
            · have q4 : ((k : Int) % 5 == 4) = false := by simp [h4]
              by_cases hzL : z = L
              · subst hzL
                clear h4
                have hLz : z = 0 ∨ z ≤ z := .inr (Int.le_refl _)
                have HU := Lib.hid (HC.out.fresh (st := true) (f := 0) (o := 0) hl3 hD0 hD1 NZ.out h0 hLz).1
                have HC' := Lib.hid (HC.out.fresh (st := true) (f := 0) (o := 0) hl3 hD0 hD1 NZ.out h0 hLz).2
                have NR := Lib.hid NZ.out
                clear hLz
                have hLL : (z != z) = false := by simp
                go_wp2_with fail
                (try rw [hD])
                refine (HM.out.prupd HU.out NN.out NR.out).mono ?_
                rintro e w4 ⟨rfl, r4⟩
                have R4 := Lib.hid r4; clear r4 HM
                go_wp2_with fail
                refine (R4.out.prin rfl).mono ?_
                rintro e w5 ⟨rfl, rfl⟩
                go_wp2_with fail
                refine (R4.out.prbest rfl).mono ?_
                rintro e w5 ⟨rfl, rfl⟩
                go_wp2
                go_roundg (gk - 1)
                case measure => omega
                case rel => exact ⟨k + 1, _, _, _, by omega, by omega, by omega, by go_num, rfl, rfl, HC'.out, R4.out⟩
              · have hrz : z = 0 ∨ (0 < L ∧ L < z) := .inr ⟨hL0, by omega⟩
                have h4 : (k : Int) % 5 ≠ 4 ∨ L = 0 := .inl h4
                clear hzL
                have HU := Lib.hid (HC.out.old (st := true) (f := 0) (o := 0) hl3 hD0 hD1 hrz h4).1
                have HC' := Lib.hid (HC.out.old (st := true) (f := 0) (o := 0) hl3 hD0 hD1 hrz h4).2
                have NR := Lib.hid NZ.out
                clear hrz h4
                have hLL : (L != L) = false := by simp
                go_wp2_with fail
                (try rw [hD])
                refine (HM.out.prupd HU.out NN.out NR.out).mono ?_
                rintro e w4 ⟨rfl, r4⟩
                have R4 := Lib.hid r4; clear r4 HM
                go_wp2_with fail
                refine (R4.out.prin rfl).mono ?_
                rintro e w5 ⟨rfl, rfl⟩
                go_wp2_with fail
                refine (R4.out.prbest rfl).mono ?_
                rintro e w5 ⟨rfl, rfl⟩
                go_wp2
                go_roundg (gk - 1)
                case measure => omega
                case rel => exact ⟨k + 1, _, _, _, by omega, by omega, by omega, by go_num, rfl, rfl, HC'.out, R4.out⟩
      · have q0 : decide (0 < z) = false := by simp [h0]
        have hrz : z = 0 ∨ (0 < L ∧ L < z) := .inl (by omega)
        by_cases h4 : (k : Int) % 5 = 4
        · have q4 : ((k : Int) % 5 == 4) = true := by simp [h4]
          clear h4
          by_cases hL0 : 0 < L
          · clear hrz
            have HU := Lib.hid (HC.out.fresh (st := true) (f := 0) (o := 0) hl3 hD0 hD1 NL.out hL0 (.inr (Int.le_refl _))).1
            have HC' := Lib.hid (HC.out.fresh (st := true) (f := 0) (o := 0) hl3 hD0 hD1 NL.out hL0 (.inr (Int.le_refl _))).2
            have NR := Lib.hid NL.out
            have hLL : (L != L) = false := by simp
            go_wp2_with fail
            (try rw [hD])
            refine (HM.out.prupd HU.out NN.out NR.out).mono ?_
            rintro e w4 ⟨rfl, r4⟩
            have R4 := Lib.hid r4; clear r4 HM
            go_wp2_with fail
            refine (R4.out.prin rfl).mono ?_
            rintro e w5 ⟨rfl, rfl⟩
            go_wp2_with fail
            refine (R4.out.prbest rfl).mono ?_
            rintro e w5 ⟨rfl, rfl⟩
            go_wp2
            go_roundg (gk - 1)
            case measure => omega
            case rel => exact ⟨k + 1, _, _, _, by omega, by omega, by omega, by go_num, rfl, rfl, HC'.out, R4.out⟩
          · have qL : decide (0 < L) = false := by simp [hL0]
            have h4 : (k : Int) % 5 ≠ 4 ∨ L = 0 := .inr (by omega)
            have HU := Lib.hid (HC.out.old (st := true) (f := 0) (o := 0) hl3 hD0 hD1 hrz h4).1
            have HC' := Lib.hid (HC.out.old (st := true) (f := 0) (o := 0) hl3 hD0 hD1 hrz h4).2
            have NR := Lib.hid NZ.out
            clear hrz h4
            have hLL : (L != L) = false := by simp
            go_wp2_with fail
            (try rw [hD])
            refine (HM.out.prupd HU.out NN.out NR.out).mono ?_
            rintro e w4 ⟨rfl, r4⟩
            have R4 := Lib.hid r4; clear r4 HM
            go_wp2_with fail
            refine (R4.out.prin rfl).mono ?_
            rintro e w5 ⟨rfl, rfl⟩
            go_wp2_with fail
            refine (R4.out.prbest rfl).mono ?_
            rintro e w5 ⟨rfl, rfl⟩
            go_wp2
            go_roundg (gk - 1)
            case measure => omega
            case rel => exact ⟨k + 1, _, _, _, by omega, by omega, by omega, by go_num, rfl, rfl, HC'.out, R4.out⟩
        · have q4 : ((k : Int) % 5 == 4) = false := by simp [h4]
          have h4 : (k : Int) % 5 ≠ 4 ∨ L = 0 := .inl h4
          have HU := Lib.hid (HC.out.old (st := true) (f := 0) (o := 0) hl3 hD0 hD1 hrz h4).1
          have HC' := Lib.hid (HC.out.old (st := true) (f := 0) (o := 0) hl3 hD0 hD1 hrz h4).2
          have NR := Lib.hid NZ.out
          clear hrz h4
          have hLL : (L != L) = false := by simp
          go_wp2_with fail
          (try rw [hD])
          refine (HM.out.prupd HU.out NN.out NR.out).mono ?_
          rintro e w4 ⟨rfl, r4⟩
          have R4 := Lib.hid r4; clear r4 HM
          go_wp2_with fail
          refine (R4.out.prin rfl).mono ?_
          rintro e w5 ⟨rfl, rfl⟩
          go_wp2_with fail
          refine (R4.out.prbest rfl).mono ?_
          rintro e w5 ⟨rfl, rfl⟩
          go_wp2
          go_roundg (gk - 1)
          case measure => omega
          case rel => exact ⟨k + 1, _, _, _, by omega, by omega, by omega, by go_num, rfl, rfl, HC'.out, R4.out⟩
    · clear hC
      by_cases hl1 : k < zs.length
      · have hi1 : (k : Int) < (zs.length : Int) := by omega
        by_cases hl2 : k < ys.length
        · have hi2 : (k : Int) < (ys.length : Int) := by omega
          have hi3 : ¬ (k : Int) < 60 := by omega
          go_wp2
          go_ret
          exact ⟨rfl, HM.out.bel⟩
        · have hi2 : ¬ (k : Int) < (ys.length : Int) := by omega
          go_wp2
          go_ret
          exact ⟨rfl, HM.out.bel⟩
      · have hi1 : ¬ (k : Int) < (zs.length : Int) := by omega
        go_wp2
        go_ret
        exact ⟨rfl, HM.out.bel⟩

set_option maxRecDepth 100000 in
theorem lifted (os : Os) (started : os.Started) (H : Type) (enc : TypeId × Value → H) :
    ReturnsInHanded {} Try.checked os 6 .any (Rows.probeLeastSpec.pre6 enc Try.prog Try.f6 Rows.probeLeastRow.domain false) (Rows.probeLeastSpec.post enc Try.prog Try.f6 false true false false) := by
  refine returnsInHanded_of_change (C := Try.checked) own started (by kernel_rfl) Try.func6
    (ChangeSpec.witness6 (enc := enc) (C := Try.checked) false ⟨#[], #[.slice none 0 0, .slice none 0 0], []⟩ 8 (by kernel_rfl) (by kernel_rfl) (by kernel_rfl) (by kernel_rfl)) ?_
  intro W base args ds gs before hval0 hW hcnd _
  have hval : ∀ (j : Nat) t v, Try.f6.params[j]? = some t → args[j]? = some v → Value.okWide Try.prog W .any base t v := hval0
  have hW' := hW
  obtain ⟨p, q, hA0, hV, rfl, hfz, hnd⟩ := hW
  have hA : DataW.TrodAll enc Try.prog W 0 (fun _ => true) true Try.f6.params.toList args.toList ds p := hA0
  rw [Try.params6] at hA hval
  obtain ⟨v0, vs0, d0, ds0, p0, q0, hargs, rfl, rfl, h0, r0⟩ := trodAll_cons hA
  obtain ⟨v1, vs1, d1, ds1, p1, q1, rfl, rfl, rfl, h1, r1⟩ := trodAll_cons r0
  obtain ⟨rfl, rfl, rfl⟩ := trodAll_nil r1
  obtain rfl : args = #[v0, v1] := by cases args; simp_all
  obtain ⟨rfl, rfl⟩ := trodVars_none hV
  obtain ⟨a0, len0, cap0, rfl⟩ := okWide_slice Try.underlying36 (hval 0 36 v0 rfl rfl)
  have k0 := h0
  have lt0 : ∀ x ∈ p0, x.block < W.heap.size := by obtain ⟨m, hm⟩ := k0; exact DataW.trod_lt m _ _ _ hm
  obtain ⟨z0, w0⟩ : ∃ zs, IsRow .u64 W a0 len0 cap0 zs := by
    obtain ⟨fuel, hf⟩ := h0
    rcases open_ints Try.underlying36 Try.underlying26 (by kernel_rfl) hf with ⟨hcs, _⟩ | ⟨x, l, c, zs, hcs, _, hl, hm, hz, _, hcell, hwz⟩
    · simp [Value.cells] at hcs
      obtain ⟨rfl, rfl, rfl⟩ := hcs
      exact ⟨[], .inl ⟨rfl, rfl, rfl, rfl⟩⟩
    · simp [Value.cells] at hcs
      obtain ⟨rfl, rfl, rfl⟩ := hcs
      exact ⟨zs, .inr ⟨_, rfl, hl, hm, by simpa using hz, hcell, hwz⟩⟩
  obtain ⟨a1, len1, cap1, rfl⟩ := okWide_slice Try.underlying36 (hval 1 36 v1 rfl rfl)
  have k1 := h1
  have lt1 : ∀ x ∈ p1, x.block < W.heap.size := by obtain ⟨m, hm⟩ := k1; exact DataW.trod_lt m _ _ _ hm
  obtain ⟨z1, w1⟩ : ∃ zs, IsRow .u64 W a1 len1 cap1 zs := by
    obtain ⟨fuel, hf⟩ := h1
    rcases open_ints Try.underlying36 Try.underlying26 (by kernel_rfl) hf with ⟨hcs, _⟩ | ⟨x, l, c, zs, hcs, _, hl, hm, hz, _, hcell, hwz⟩
    · simp [Value.cells] at hcs
      obtain ⟨rfl, rfl, rfl⟩ := hcs
      exact ⟨[], .inl ⟨rfl, rfl, rfl, rfl⟩⟩
    · simp [Value.cells] at hcs
      obtain ⟨rfl, rfl, rfl⟩ := hcs
      exact ⟨zs, .inr ⟨_, rfl, hl, hm, by simpa using hz, hcell, hwz⟩⟩
  clear hA0 hval0
  refine (walk a0 len0 cap0 z0 a1 len1 cap1 z1 W w0 w1).mono fun e W' ⟨he, bel⟩ => ?_
  subst he
  exact ⟨_, rfl, _, _, _, [], _, [], hW', trodAll_mk1 (shut_bool Try.underlying4 _), (trodAll_cons_mk (Below.trod laidOut (by kernel_rfl) (of_decide_eq_true (by kernel_rfl)) k0 bel lt0) (trodAll_cons_mk (Below.trod laidOut (by kernel_rfl) (of_decide_eq_true (by kernel_rfl)) k1 bel lt1) trodAll_mk0)), rfl, bel.frame _, fun h => by cases h⟩

theorem over : Rows.probeLeastRow.holds Try.pinned (OpenSpec.ofChange Rows.probeLeastSpec) :=
  OpenClaim.holds_of_wide 6 Try.f6 rfl rfl rfl rfl rfl rfl rfl ⟨rfl, rfl, rfl, rfl, rfl⟩ rfl rfl rfl rfl rfl (by kernel_rfl) Try.func6 (by kernel_rfl)
    (of_decide_eq_true (by kernel_rfl)) (by unfold Func.isWrapper; first | (rw [if_pos (by decide +kernel)]; kernel_rfl) | (rw [if_neg (by decide +kernel)]; exact ⟨rfl, rfl⟩))
    (fun os started H enc _ => lifted os started H enc)

theorem proved : Rows.ProbeLeastSaid := over
end Go.Proofs.Ytnfikihpmbangaa.probeLeast
namespace Go.Proofs.Ytnfikihpmbangaa
theorem probeLeast_holds : Rows.ProbeLeastSaid := probeLeast.proved
#print axioms probeLeast_holds
end Go.Proofs.Ytnfikihpmbangaa
