/-
  Proved: canterlaw05.TreeOrders answers true at every list of keys and every number, and leaves its arguments as they were. Conditions: none.
-/
import Derived.Test.YtfbbmpmgceghfaaRows
import Derived.WalkKit
import Derived.ProofKit
import Derived.OpenShut
import Derived.ShutString
import Derived.Below
import Derived.Test.YtfbbmpmgceghfaaMany
namespace Go.Proofs.Ytfbbmpmgceghfaa.treeOrders
open Go.ChangeShapes Go.WideShapes Go.ChangeAt Go.RowKit
set_option maxRecDepth 100000
set_option linter.unusedVariables false

theorem own : ownKnob Try.prog.godebug = none := by kernel_rfl
theorem laidOut : laidOutB Try.prog = true := by kernel_rfl


set_option maxHeartbeats 8000000 in
set_option maxRecDepth 100000 in
set_option linter.unusedSimpArgs false in
theorem walk (a0 : Option Addr) (cap0 : Nat) (z0 : List Key) (a1 : Int) (w : World) (c0 : z0.length ≤ cap0 ∧ cap0 ≤ 9223372036854775807) (r0 : RdK w a0 z0) (w1 : (Lit.int .i64 a1).wf = true) :
    Calls Try.prog 3 #[.slice a0 z0.length cap0, .int .i64 a1] w fun e w' => e = .returned (.bool true) ∧ Below w.heap.size w w' := by
  have heq := Try.neKey
  have heq2 := Try.eqKey
  obtain ⟨u, hu⟩ : ∃ u : Nat, IntKind.u64.wrap a1 = (u : Int) := ⟨(IntKind.u64.wrap a1).toNat, by rw [IntKind.wrap_u64]; omega⟩
  clear w1
  obtain ⟨hcap1, hcap2⟩ := c0
  have HR := Lib.hid r0; clear r0
  go_enter Try.func3, Try.ntmps3
  go_wp2_with fail
  refine (Sit.new (N := 4096) rfl w).mono ?_
  rintro e w1 ⟨g, S1, rfl, h1, _⟩
  have H1 := Lib.hid h1; clear h1
  go_wp2_with fail
  refine H1.out.awake.mono ?_
  rintro e w2 ⟨rfl, h2, _⟩
  have H2 := Lib.hid h2; clear h2 H1
  by_cases hlong : 200 < z0.length
  · have hl1 : (200 : Int) < (z0.length : Int) := by omega
    clear HR
    go_wp2_with fail
    refine H2.out.awake.mono ?_
    rintro e w3 ⟨rfl, h3, _⟩
    have H3 := Lib.hid h3.bel; clear h3 H2
    go_wp2
    go_ret
    exact ⟨rfl, H3.out⟩
  · have hl1 : ¬ (200 : Int) < (z0.length : Int) := by omega
    have hl2 : z0.length ≤ 200 := by omega
    clear hlong
    go_wp2
    go_loopw [6] (fun a6 wr => ∃ (i : Nat) (S : Nat → Prop), i ≤ z0.length ∧ a6 = .int .i64 i ∧ Sit w wr S g 4096 (ksOf 4096 (z0.take i))) (fun a6 _ => z0.length - (intOf a6).toNat)
    case atStart => exact ⟨0, S1, Nat.zero_le _, rfl, H2.out⟩
    case round =>
      obtain ⟨i, S, hi, rfl, hsit⟩ := hrel
      have HS := Lib.hid hsit; clear hsit H2
      by_cases hlt : i < z0.length
      · have hi1 : (i : Int) < (z0.length : Int) := by omega
        obtain ⟨x, hx⟩ : ∃ x, z0[i]? = some x := ⟨_, List.getElem?_eq_getElem hlt⟩
        obtain ⟨b1, o1, rfl, hb1, c1, c2⟩ := HR.out i x hx
        have htk := take_at hx
        obtain ⟨n6, n0, ns⟩ := ksOf_next 4096 (z0.take i) x (by simp; omega)
        rw [← htk] at ns
        have HNS := Lib.hid ns
        have HCE : Hid (∀ W, Below w.heap.size w W → W.cell? ⟨b1, o1 + i * 2, none⟩ = some (.int .u64 x.a) ∧ W.cell? ⟨b1, o1 + i * 2 + 1, none⟩ = some (.int .u64 x.b)) := Lib.hid fun W hW => ⟨(hW.cell (p := ⟨b1, _, none⟩) hb1).trans c1, (hW.cell (p := ⟨b1, _, none⟩) hb1).trans c2⟩
        have HTI := Lib.hid (HR.out.take i)
        have hic : i ≤ cap0 := by omega
        have hlti : Hid (i = (z0.take i).length) := Lib.hid (by simp; omega)
        clear c1 c2 htk ns hx
        obtain ⟨xa, xb⟩ := x
        dsimp only at HCE
        obtain ⟨g1, g2⟩ := HCE.out _ HS.out.bel
        by_cases hin : (⟨xa, xb⟩ : Key) ∈ z0.take i
        · have HE := Lib.hid (n6 hin)
          have HIN : Hid (decide ((⟨xa, xb⟩ : Key) ∈ z0.take i) = true) := Lib.hid (decide_eq_true hin)
          clear n6 n0 hin
          go_wp2_with fail
          refine (HS.out.ins (k := ⟨xa, xb⟩) ⟨HE.out, HNS.out⟩).mono ?_
          rintro e w3 ⟨rfl, S3, h3, _⟩
          have H3 := Lib.hid h3; clear h3 HS g1 g2
          go_wp2
          refine wp_region_sch (fun W => W.cell? ⟨b1, o1 + i * 2, none⟩ = some (.int .u64 xa) ∧ W.cell? ⟨b1, o1 + i * 2 + 1, none⟩ = some (.int .u64 xb)) [(true, 0), (true, 1), (true, 2), (true, 3), (true, 4), (true, 5), (true, 6), (true, 7), (true, 8), (true, 9), (true, 10), (true, 11), (true, 12), (false, 13), (true, 14), (true, 15), (true, 16)] (by kernel_rfl) (by kernel_rfl) (by kernel_rfl) (by kernel_rfl) (HCE.out _ H3.out.bel.drew) ?_
          (repeat (first
  | (refine wpSch_yes (v := ?_) rfl (fun _ _ _ h => h) (by rfl) ?_ ?_; rotate_left; (next => (intro w hSw; (try dsimp only at hSw); (try obtain ⟨hS1, hS2, hS3, hS4, hS5, hS6⟩ := hSw); (try obtain ⟨hS1, hS2, hS3, hS4⟩ := hSw); (try obtain ⟨hS1, hS2⟩ := hSw); go_simp; (try with_reducible rfl))); (try simp only [Act.put, List.setIfInBounds_toArray, List.set_cons_zero, List.set_cons_succ]))
  | (refine wpSch_no rfl (fun _ _ _ h => h) (by rfl) ?_; (try simp only [Act.put, List.setIfInBounds_toArray, List.set_cons_zero, List.set_cons_succ]))
  | (refine wpSch_not rfl (by rfl) (by assumption) ?_; (try simp only [Act.put, List.setIfInBounds_toArray, List.set_cons_zero, List.set_cons_succ]))))
          refine wpSch_call rfl (by rfl) (fun K hK => ?_)
          go_simp
          refine (in_key' _ _ _ (z0.take i) ⟨xa, xb⟩ true _ hlti.out HIN.out (by simp; omega) (HTI.out.below H3.out.bel.drew)).mono ?_
          rintro e w4 ⟨rfl, k4⟩
          have H4 := Lib.hid ((H3.out.kept ((Keep.refl _ _).drew)).kept k4); clear k4 H3
          refine hK.out _ _ (HCE.out _ H4.out.bel) (fun hHeld => ?_)
          clear hK K
          (try simp only [Act.put, List.setIfInBounds_toArray, List.set_cons_zero, List.set_cons_succ])
          (repeat (first
  | (refine wpSch_yes (v := ?_) rfl (fun _ _ _ h => h) (by rfl) ?_ ?_; rotate_left; (next => (intro w hSw; (try dsimp only at hSw); (try obtain ⟨hS1, hS2, hS3, hS4, hS5, hS6⟩ := hSw); (try obtain ⟨hS1, hS2, hS3, hS4⟩ := hSw); (try obtain ⟨hS1, hS2⟩ := hSw); go_simp; (try with_reducible rfl))); (try simp only [Act.put, List.setIfInBounds_toArray, List.set_cons_zero, List.set_cons_succ]))
  | (refine wpSch_no rfl (fun _ _ _ h => h) (by rfl) ?_; (try simp only [Act.put, List.setIfInBounds_toArray, List.set_cons_zero, List.set_cons_succ]))
  | (refine wpSch_not rfl (by rfl) (by assumption) ?_; (try simp only [Act.put, List.setIfInBounds_toArray, List.set_cons_zero, List.set_cons_succ]))))
          refine wpSch_nil ?_
          go_wp2
          go_roundw
          case rel => exact ⟨i + 1, S3, by omega, by go_num, H4.out⟩
          case measure => simp [intOf]; omega
        · have HE := Lib.hid (n0 hin)
          clear n6 n0 hin
          go_wp2_with fail
          refine (HS.out.ins (k := ⟨xa, xb⟩) ⟨HE.out, HNS.out⟩).mono ?_
          rintro e w3 ⟨rfl, S3, h3, _⟩
          have H3 := Lib.hid h3; clear h3 HS g1 g2
          go_wp2
          go_quiet (fail)
          go_wp2
          go_roundw
          case rel => exact ⟨i + 1, S3, by omega, by go_num, H3.out.drewN _⟩
          case measure => simp [intOf]; omega
      · obtain rfl : z0.length = i := by omega
        clear hi hlt
        rw [List.take_length] at HS
        obtain ⟨hkl, hkm⟩ := ksOf_facts 4096 z0 (by omega)
        have HKM := Lib.hid hkm; clear hkm
        have HSRT := Lib.hid HS.out.tree.sorted
        generalize ksOf 4096 z0 = ks at *
        have HT0 : Hid (ks.take (max 1 ((z0.length : Int) + 1).toNat) = ks) := Lib.hid (List.take_of_length_le (by omega))
        go_wp2_with fail
        refine HS.out.tall.mono ?_
        rintro e w3 ⟨Bg, rfl, h3, hb3, _⟩
        have H3 := Lib.hid h3; have HB3 := Lib.hid hb3; clear h3 hb3 HS
        go_wp2_with fail
        refine (H3.out.hall HB3.out ⟨HT0.out, rfl⟩).mono ?_
        rintro e w4 ⟨aa, ac, rfl, ha4, _, h4, _⟩
        have H4 := Lib.hid h4; have HA4 := Lib.hid ha4; clear h4 ha4 H3 HB3
        go_wp2_with fail
        refine (H4.out.min ⟨rfl, rfl⟩).mono ?_
        rintro e w5 ⟨rfl, h5, k5⟩
        have H5 := Lib.hid h5; have HA5 := Lib.hid (HA4.out.kept k5); clear h5 k5 H4 HA4
        have HB0 : Hid (Below w5.heap.size w5 (w5.alloc (.cells #[.int .u64 (hdK ks).a, .int .u64 (hdK ks).b] 30))) := Lib.hid (((Keep.refl (fun _ => False) w5).alloc _).below (Nat.le_refl _) (fun _ h => h.elim))
        have HW0 := Lib.hid (Whole.new w5 30 #[.int .u64 (hdK ks).a, .int .u64 (hdK ks).b])
        have hsl : ks.length ≤ 200 := by omega
        have HZ : Hid (∀ W, Below w5.heap.size w5 W → RdK W a0 z0) := Lib.hid (fun W hW => (HR.out.below H5.out.bel).below hW)
        simp only [kv]
        go_wp2
        go_loopw [10, 11] (fun a10 a11 wr => ∃ i : Nat, i ≤ ks.length ∧ a11 = .int .i64 i ∧ a10 = .bool (hdB (ks.drop i)) ∧ Whole wr w5.heap.size 30 #[.int .u64 (hdK (ks.drop i)).a, .int .u64 (hdK (ks.drop i)).b] ∧ Below w5.heap.size w5 wr) (fun _ a11 _ => ks.length - (intOf a11).toNat)
        case atStart => exact ⟨0, Nat.zero_le _, rfl, rfl, HW0.out, HB0.out⟩
        case round =>
          obtain ⟨i, hi, rfl, rfl, hwk, hbel⟩ := hrel
          have HWK := Lib.hid hwk; have HB := Lib.hid hbel; clear hwk hbel HW0 HB0
          have HS := Lib.hid (H5.out.below HB.out)
          by_cases hlt : i < ks.length
          · obtain ⟨x, hx⟩ : ∃ x, ks[i]? = some x := ⟨_, List.getElem?_eq_getElem hlt⟩
            obtain ⟨hab, hdr⟩ := above_drop HSRT.out hx
            have HNX : Hid (hdK (above ks x) = hdK (ks.drop (i + 1)) ∧ hdB (above ks x) = hdB (ks.drop (i + 1))) := Lib.hid (by rw [hab]; exact ⟨rfl, rfl⟩)
            have hk1 : hdK (ks.drop i) = x := by rw [hdr]; rfl
            have hk2 : hdB (ks.drop i) = true := by rw [hdr]; rfl
            rw [hk1] at HWK
            rw [hk2]
            obtain ⟨b1, o1, rfl, hb1, c1, c2⟩ := HA5.out i x hx
            have HIN : Hid (decide (x ∈ z0) = true) := Lib.hid (decide_eq_true ((HKM.out x).1 (List.mem_of_getElem? hx)))
            have hi1 : (i : Int) < (ks.length : Int) := by omega
            obtain ⟨nk, hnk⟩ : ∃ nk, nk = hdK (ks.drop (i + 1)) := ⟨_, rfl⟩
            rw [← hnk] at HNX
            have HNK := Lib.hid hnk; clear hnk
            obtain ⟨na, nb⟩ := nk
            obtain ⟨xa, xb⟩ := x
            dsimp only at HWK c1 c2
            have HW2 : Hid (∀ W : World, Whole W w5.heap.size 30 #[.int .u64 xa, .int .u64 xb] → Below w5.heap.size w5 W → Whole ((W.setCell ⟨w5.heap.size, 0, none⟩ (.int .u64 na)).setCell ⟨w5.heap.size, 1, none⟩ (.int .u64 nb)) w5.heap.size 30 #[.int .u64 na, .int .u64 nb] ∧ Below w5.heap.size w5 ((W.setCell ⟨w5.heap.size, 0, none⟩ (.int .u64 na)).setCell ⟨w5.heap.size, 1, none⟩ (.int .u64 nb))) :=
              Lib.hid fun W hW hb => ⟨(hW.put 0 _).put 1 _, (hb.setCell (p := ⟨w5.heap.size, 0, none⟩) (Nat.le_refl _) _).setCell (p := ⟨w5.heap.size, 1, none⟩) (Nat.le_refl _) _⟩
            have xx : (xa == xa && xb == xb) = true := by simp
            by_cases hi0 : i = 0
            · have HCE : Hid (∀ W, Below w5.heap.size w5 W → Whole W w5.heap.size 30 #[.int .u64 xa, .int .u64 xb] → W.cell? ⟨w5.heap.size, 0, none⟩ = some (.int .u64 xa) ∧ W.cell? ⟨w5.heap.size, 1, none⟩ = some (.int .u64 xb) ∧ W.cell? ⟨b1, o1 + i * 2, none⟩ = some (.int .u64 xa) ∧ W.cell? ⟨b1, o1 + i * 2 + 1, none⟩ = some (.int .u64 xb)) := Lib.hid fun W hW hw => ⟨hw.cell 0, hw.cell 1, (hW.cell (p := ⟨b1, _, none⟩) hb1).trans c1, (hW.cell (p := ⟨b1, _, none⟩) hb1).trans c2⟩
              have hz : ¬ (0 : Int) < (i : Int) := by omega
              have hz2 : ¬ 0 < i := by omega
              have hz3 : decide (0 < i) = false := decide_eq_false hz2
              clear hi0 c1 c2
              go_wp2
              refine wp_region_sch (fun W => W.cell? ⟨w5.heap.size, 0, none⟩ = some (.int .u64 xa) ∧ W.cell? ⟨w5.heap.size, 1, none⟩ = some (.int .u64 xb) ∧ W.cell? ⟨b1, o1 + i * 2, none⟩ = some (.int .u64 xa) ∧ W.cell? ⟨b1, o1 + i * 2 + 1, none⟩ = some (.int .u64 xb)) [(true, 0), (true, 1), (true, 2), (true, 3), (true, 4), (true, 5), (true, 6), (true, 7), (true, 8), (true, 9), (true, 10), (true, 11), (true, 12), (false, 13), (true, 14), (true, 15), (true, 16), (true, 17), (true, 18), (true, 19), (true, 20), (true, 21), (true, 22), (true, 23), (true, 24), (true, 25), (false, 26), (true, 27), (true, 28), (true, 29)] (by kernel_rfl) (by kernel_rfl) (by kernel_rfl) (by kernel_rfl) (HCE.out _ HB.out.drew HWK.out.drew) ?_
              (repeat (first
  | (refine wpSch_yes (v := ?_) rfl (fun _ _ _ h => h) (by rfl) ?_ ?_; rotate_left; (next => (intro w hSw; (try dsimp only at hSw); (try obtain ⟨hS1, hS2, hS3, hS4, hS5, hS6⟩ := hSw); (try obtain ⟨hS1, hS2, hS3, hS4⟩ := hSw); (try obtain ⟨hS1, hS2⟩ := hSw); go_simp; (try with_reducible rfl))); (try simp only [Act.put, List.setIfInBounds_toArray, List.set_cons_zero, List.set_cons_succ]))
  | (refine wpSch_no rfl (fun _ _ _ h => h) (by rfl) ?_; (try simp only [Act.put, List.setIfInBounds_toArray, List.set_cons_zero, List.set_cons_succ]))
  | (refine wpSch_not rfl (by rfl) (by assumption) ?_; (try simp only [Act.put, List.setIfInBounds_toArray, List.set_cons_zero, List.set_cons_succ]))))
              refine wpSch_call rfl (by rfl) (fun K hK => ?_)
              go_simp
              refine (in_key' a0 cap0 _ z0 ⟨xa, xb⟩ true _ rfl HIN.out (by omega) (HZ.out _ HB.out.drew)).mono ?_
              rintro e w6 ⟨rfl, k6⟩
              have HB6 := Lib.hid (HB.out.drew.trans (k6.below HB.out.size (fun _ h => h.elim))); have HWK6 := Lib.hid (HWK.out.drew.keep k6 (fun h => h)); clear k6
              refine hK.out _ _ (HCE.out _ HB6.out HWK6.out) (fun hHeld => ?_)
              clear hK K
              (try simp only [Act.put, List.setIfInBounds_toArray, List.set_cons_zero, List.set_cons_succ])
              (repeat (first
  | (refine wpSch_yes (v := ?_) rfl (fun _ _ _ h => h) (by rfl) ?_ ?_; rotate_left; (next => (intro w hSw; (try dsimp only at hSw); (try obtain ⟨hS1, hS2, hS3, hS4, hS5, hS6⟩ := hSw); (try obtain ⟨hS1, hS2, hS3, hS4⟩ := hSw); (try obtain ⟨hS1, hS2⟩ := hSw); go_simp; (try with_reducible rfl))); (try simp only [Act.put, List.setIfInBounds_toArray, List.set_cons_zero, List.set_cons_succ]))
  | (refine wpSch_no rfl (fun _ _ _ h => h) (by rfl) ?_; (try simp only [Act.put, List.setIfInBounds_toArray, List.set_cons_zero, List.set_cons_succ]))
  | (refine wpSch_not rfl (by rfl) (by assumption) ?_; (try simp only [Act.put, List.setIfInBounds_toArray, List.set_cons_zero, List.set_cons_succ]))))
              refine wpSch_nil ?_
              have HB7 := HB6; have HWK7 := HWK6; clear HB6 HWK6
              obtain ⟨k0, k1⟩ : _ ∧ _ := ⟨HWK7.out.cell 0, HWK7.out.cell 1⟩
              go_wp2_with fail
              refine ((H5.out.below HB7.out).next (x := ⟨xa, xb⟩) HNX.out).mono ?_
              rintro e w8 ⟨rfl, _, k8⟩
              have HB8 := Lib.hid (HB7.out.trans (k8.below HB7.out.size (fun _ h => h.elim))); have hw8 := HWK7.out.keep k8 (fun h => h)
              have HW9 := Lib.hid (HW2.out _ hw8 HB8.out)
              have hw81 := hw8.put 0 (.int .u64 na)
              have e0 := hw8.cell 0; have f0 := hw8.free 0
              have e1 := hw81.cell 1; have f1 := hw81.free 1
              simp only [List.setIfInBounds_toArray, List.set_cons_zero, List.set_cons_succ, List.getElem?_toArray, List.getElem?_cons_zero, List.getElem?_cons_succ] at e0 e1
              clear k8 hw8 hw81 k0 k1 HWK7 HB7
              simp only [kv]
              go_wp2
              go_roundw
              case rel => exact ⟨i + 1, by omega, by go_num, rfl, by rw [← HNK.out]; exact HW9.out.1, HW9.out.2⟩
              case measure => simp [intOf]; omega
            · obtain ⟨j, hij⟩ : ∃ j, i = j + 1 := ⟨i - 1, by omega⟩
              obtain ⟨y, hy⟩ : ∃ y, ks[j]? = some y := ⟨_, List.getElem?_eq_getElem (by omega)⟩
              have hless := less_prev HSRT.out (hij ▸ hx) hy
              obtain ⟨b2, o2, e2, hb2, c3, c4⟩ := HA5.out j y hy
              cases e2
              obtain ⟨ya, yb⟩ := y
              dsimp only at c3 c4
              have HCE : Hid (∀ W, Below w5.heap.size w5 W → Whole W w5.heap.size 30 #[.int .u64 xa, .int .u64 xb] → W.cell? ⟨w5.heap.size, 0, none⟩ = some (.int .u64 xa) ∧ W.cell? ⟨w5.heap.size, 1, none⟩ = some (.int .u64 xb) ∧ W.cell? ⟨b1, o1 + i * 2, none⟩ = some (.int .u64 xa) ∧ W.cell? ⟨b1, o1 + i * 2 + 1, none⟩ = some (.int .u64 xb) ∧ W.cell? ⟨b1, o1 + j * 2, none⟩ = some (.int .u64 ya) ∧ W.cell? ⟨b1, o1 + j * 2 + 1, none⟩ = some (.int .u64 yb)) := Lib.hid fun W hW hw => ⟨hw.cell 0, hw.cell 1, (hW.cell (p := ⟨b1, _, none⟩) hb1).trans c1, (hW.cell (p := ⟨b1, _, none⟩) hb1).trans c2, (hW.cell (p := ⟨b1, _, none⟩) hb1).trans c3, (hW.cell (p := ⟨b1, _, none⟩) hb1).trans c4⟩
              have hz : (0 : Int) < (i : Int) := by omega
              have hz2 : 0 < i := by omega
              have hz3 : decide (0 < i) = true := decide_eq_true hz2
              have hj : (i : Int) - 1 = (j : Int) := by omega
              have hjl : (j : Int) < (ks.length : Int) := by omega
              have hwr : IntKind.i64.wrap (j : Int) = (j : Int) := by rw [IntKind.wrap_i64]; omega
              have HLESS := Lib.hid (less_any ⟨ya, yb⟩ ⟨xa, xb⟩)
              rw [decide_eq_true hless] at HLESS
              clear hi0 c1 c2 c3 c4 hless hy hij
              go_wp2
              refine wp_region_sch (fun W => W.cell? ⟨w5.heap.size, 0, none⟩ = some (.int .u64 xa) ∧ W.cell? ⟨w5.heap.size, 1, none⟩ = some (.int .u64 xb) ∧ W.cell? ⟨b1, o1 + i * 2, none⟩ = some (.int .u64 xa) ∧ W.cell? ⟨b1, o1 + i * 2 + 1, none⟩ = some (.int .u64 xb) ∧ W.cell? ⟨b1, o1 + j * 2, none⟩ = some (.int .u64 ya) ∧ W.cell? ⟨b1, o1 + j * 2 + 1, none⟩ = some (.int .u64 yb)) [(true, 0), (true, 1), (true, 2), (true, 3), (true, 4), (true, 5), (true, 6), (true, 7), (true, 8), (true, 9), (true, 10), (true, 11), (true, 12), (false, 13), (true, 14), (true, 15), (true, 16), (true, 17), (true, 18), (true, 19), (true, 20), (true, 21), (true, 22), (true, 23), (true, 24), (true, 25), (false, 26), (true, 27), (true, 28), (true, 29)] (by kernel_rfl) (by kernel_rfl) (by kernel_rfl) (by kernel_rfl) (HCE.out _ HB.out.drew HWK.out.drew) ?_
              (repeat (first
  | (refine wpSch_yes (v := ?_) rfl (fun _ _ _ h => h) (by rfl) ?_ ?_; rotate_left; (next => (intro w hSw; (try dsimp only at hSw); (try obtain ⟨hS1, hS2, hS3, hS4, hS5, hS6⟩ := hSw); (try obtain ⟨hS1, hS2, hS3, hS4⟩ := hSw); (try obtain ⟨hS1, hS2⟩ := hSw); go_simp; (try with_reducible rfl))); (try simp only [Act.put, List.setIfInBounds_toArray, List.set_cons_zero, List.set_cons_succ]))
  | (refine wpSch_no rfl (fun _ _ _ h => h) (by rfl) ?_; (try simp only [Act.put, List.setIfInBounds_toArray, List.set_cons_zero, List.set_cons_succ]))
  | (refine wpSch_not rfl (by rfl) (by assumption) ?_; (try simp only [Act.put, List.setIfInBounds_toArray, List.set_cons_zero, List.set_cons_succ]))))
              refine wpSch_call rfl (by rfl) (fun K hK => ?_)
              go_simp
              refine (in_key' a0 cap0 _ z0 ⟨xa, xb⟩ true _ rfl HIN.out (by omega) (HZ.out _ HB.out.drew)).mono ?_
              rintro e w6 ⟨rfl, k6⟩
              have HB6 := Lib.hid (HB.out.drew.trans (k6.below HB.out.size (fun _ h => h.elim))); have HWK6 := Lib.hid (HWK.out.drew.keep k6 (fun h => h)); clear k6
              refine hK.out _ _ (HCE.out _ HB6.out HWK6.out) (fun hHeld => ?_)
              clear hK K
              (try simp only [Act.put, List.setIfInBounds_toArray, List.set_cons_zero, List.set_cons_succ])
              (repeat (first
  | (refine wpSch_yes (v := ?_) rfl (fun _ _ _ h => h) (by rfl) ?_ ?_; rotate_left; (next => (intro w hSw; (try dsimp only at hSw); (try obtain ⟨hS1, hS2, hS3, hS4, hS5, hS6⟩ := hSw); (try obtain ⟨hS1, hS2, hS3, hS4⟩ := hSw); (try obtain ⟨hS1, hS2⟩ := hSw); go_simp; (try with_reducible rfl))); (try simp only [Act.put, List.setIfInBounds_toArray, List.set_cons_zero, List.set_cons_succ]))
  | (refine wpSch_no rfl (fun _ _ _ h => h) (by rfl) ?_; (try simp only [Act.put, List.setIfInBounds_toArray, List.set_cons_zero, List.set_cons_succ]))
  | (refine wpSch_not rfl (by rfl) (by assumption) ?_; (try simp only [Act.put, List.setIfInBounds_toArray, List.set_cons_zero, List.set_cons_succ]))))
              refine wpSch_call rfl (by rfl) (fun K hK => ?_)
              go_simp
              refine (HLESS.out _).mono ?_
              rintro e w7 ⟨rfl, k7⟩
              have HB7 := Lib.hid (HB6.out.trans (k7.below HB6.out.size (fun _ h => h.elim))); have HWK7 := Lib.hid (HWK6.out.keep k7 (fun h => h)); clear k7 HB6 HWK6
              refine hK.out _ _ (HCE.out _ HB7.out HWK7.out) (fun hHeld => ?_)
              clear hK K
              (try simp only [Act.put, List.setIfInBounds_toArray, List.set_cons_zero, List.set_cons_succ])
              (repeat (first
  | (refine wpSch_yes (v := ?_) rfl (fun _ _ _ h => h) (by rfl) ?_ ?_; rotate_left; (next => (intro w hSw; (try dsimp only at hSw); (try obtain ⟨hS1, hS2, hS3, hS4, hS5, hS6⟩ := hSw); (try obtain ⟨hS1, hS2, hS3, hS4⟩ := hSw); (try obtain ⟨hS1, hS2⟩ := hSw); go_simp; (try with_reducible rfl))); (try simp only [Act.put, List.setIfInBounds_toArray, List.set_cons_zero, List.set_cons_succ]))
  | (refine wpSch_no rfl (fun _ _ _ h => h) (by rfl) ?_; (try simp only [Act.put, List.setIfInBounds_toArray, List.set_cons_zero, List.set_cons_succ]))
  | (refine wpSch_not rfl (by rfl) (by assumption) ?_; (try simp only [Act.put, List.setIfInBounds_toArray, List.set_cons_zero, List.set_cons_succ]))))
              refine wpSch_nil ?_
              obtain ⟨k0, k1⟩ : _ ∧ _ := ⟨HWK7.out.cell 0, HWK7.out.cell 1⟩
              go_wp2_with fail
              refine ((H5.out.below HB7.out).next (x := ⟨xa, xb⟩) HNX.out).mono ?_
              rintro e w8 ⟨rfl, _, k8⟩
              have HB8 := Lib.hid (HB7.out.trans (k8.below HB7.out.size (fun _ h => h.elim))); have hw8 := HWK7.out.keep k8 (fun h => h)
              have HW9 := Lib.hid (HW2.out _ hw8 HB8.out)
              have hw81 := hw8.put 0 (.int .u64 na)
              have e0 := hw8.cell 0; have f0 := hw8.free 0
              have e1 := hw81.cell 1; have f1 := hw81.free 1
              simp only [List.setIfInBounds_toArray, List.set_cons_zero, List.set_cons_succ, List.getElem?_toArray, List.getElem?_cons_zero, List.getElem?_cons_succ] at e0 e1
              clear k8 hw8 hw81 k0 k1 HWK7 HB7
              simp only [kv]
              go_wp2
              go_roundw
              case rel => exact ⟨i + 1, by omega, by go_num, rfl, by rw [← HNK.out]; exact HW9.out.1, HW9.out.2⟩
              case measure => simp [intOf]; omega
          · obtain rfl : ks.length = i := by omega
            rw [List.drop_length, show hdB ([] : List Key) = false from rfl]
            clear HWK hi hlt
            go_wp2_with fail
            obtain ⟨st, hst⟩ : ∃ s : Nat, 1 + (u : Int) % 20 = (s : Int) := ⟨1 + u % 20, by omega⟩
            have hst1 : 1 ≤ st := by omega
            have hst2 : st ≤ 20 := by omega
            rw [hst]
            clear hst hu
            rcases Nat.lt_trichotomy st ks.length with h | h | h
            · have HTOLD : Hid (ks.take (max 1 (st : Int).toNat) = ks.take st ∧ (ks.take st).length = st) := Lib.hid ⟨by congr 1; omega, by simp; omega⟩
              have g1 : (st : Int) < (ks.length : Int) := by omega
              go_wp2_with fail
              refine (HS.out.len rfl).mono ?_
              rintro e w7 ⟨rfl, h7, _⟩
              have H7 := Lib.hid h7; clear h7
              go_wp2_with fail
              refine H7.out.low.mono ?_
              rintro e w8 ⟨rfl, h8, _⟩
              have H8 := Lib.hid h8; clear h8 H7
              go_wp2_with fail
              refine H8.out.tall.mono ?_
              rintro e w9 ⟨Bg, rfl, h9, hb9, _⟩
              have H9 := Lib.hid h9; have HB9 := Lib.hid hb9; clear h9 hb9 H8
              go_wp2_with fail
              refine (H9.out.hall HB9.out HTOLD.out).mono ?_
              rintro e w10 ⟨a10, c10, rfl, _, _, h10, _⟩
              have H10 := Lib.hid h10.bel; clear h10 H9 HB9
              go_wp2
              go_ret
              exact ⟨by first | rfl | simp, H10.out⟩
            · subst h
              have HTM : Hid (ks.take (max 1 (ks.length : Int).toNat) = ks) := Lib.hid (List.take_of_length_le (by omega))
              go_wp2_with fail
              refine (HS.out.len rfl).mono ?_
              rintro e w7 ⟨rfl, h7, _⟩
              have H7 := Lib.hid h7; clear h7
              go_wp2_with fail
              refine H7.out.low.mono ?_
              rintro e w8 ⟨rfl, h8, _⟩
              have H8 := Lib.hid h8; clear h8 H7
              go_wp2_with fail
              refine H8.out.tall.mono ?_
              rintro e w9 ⟨Bg, rfl, h9, hb9, _⟩
              have H9 := Lib.hid h9; have HB9 := Lib.hid hb9; clear h9 hb9 H8
              go_wp2_with fail
              refine (H9.out.hall HB9.out ⟨HTM.out, rfl⟩).mono ?_
              rintro e w10 ⟨a10, c10, rfl, _, _, h10, _⟩
              have H10 := Lib.hid h10.bel; clear h10 H9 HB9
              go_wp2
              go_ret
              exact ⟨by first | rfl | simp, H10.out⟩
            · have HTOLD : Hid (ks.take (max 1 (st : Int).toNat) = ks.take st ∧ (ks.take st).length = ks.length) := Lib.hid ⟨by congr 1; omega, by simp; omega⟩
              have g1 : (ks.length : Int) < (st : Int) := by omega
              go_wp2_with fail
              refine (HS.out.len rfl).mono ?_
              rintro e w7 ⟨rfl, h7, _⟩
              have H7 := Lib.hid h7; clear h7
              go_wp2_with fail
              refine H7.out.low.mono ?_
              rintro e w8 ⟨rfl, h8, _⟩
              have H8 := Lib.hid h8; clear h8 H7
              go_wp2_with fail
              refine H8.out.tall.mono ?_
              rintro e w9 ⟨Bg, rfl, h9, hb9, _⟩
              have H9 := Lib.hid h9; have HB9 := Lib.hid hb9; clear h9 hb9 H8
              go_wp2_with fail
              refine (H9.out.hall HB9.out HTOLD.out).mono ?_
              rintro e w10 ⟨a10, c10, rfl, _, _, h10, _⟩
              have H10 := Lib.hid h10.bel; clear h10 H9 HB9
              go_wp2
              go_ret
              exact ⟨by first | rfl | simp, H10.out⟩

set_option maxRecDepth 100000 in
theorem lifted (os : Os) (started : os.Started) (H : Type) (enc : TypeId × Value → H) :
    ReturnsInHanded {} Try.checked os 3 .any (Rows.treeOrdersSpec.pre6 enc Try.prog Try.f3 Rows.treeOrdersRow.domain false) (Rows.treeOrdersSpec.post enc Try.prog Try.f3 false true false false) := by
  refine returnsInHanded_of_change (C := Try.checked) own started (by kernel_rfl) Try.func3
    (ChangeSpec.witness6 (enc := enc) (C := Try.checked) false ⟨#[], #[.slice none 0 0, .int .i64 0], []⟩ 8 (by kernel_rfl) (by kernel_rfl) (by kernel_rfl) (by kernel_rfl)) ?_
  intro W base args ds gs before hval0 hW hcnd _
  have hval : ∀ (j : Nat) t v, Try.f3.params[j]? = some t → args[j]? = some v → Value.okWide Try.prog W .any base t v := hval0
  have hW' := hW
  obtain ⟨p, q, hA0, hV, rfl, hfz, hnd⟩ := hW
  have hA : DataW.TrodAll enc Try.prog W 0 (fun _ => true) true Try.f3.params.toList args.toList ds p := hA0
  rw [Try.params3] at hA hval
  obtain ⟨v0, vs0, d0, ds0, p0, q0, hargs, rfl, rfl, h0, r0'⟩ := trodAll_cons hA
  obtain ⟨v1, vs1, d1, ds1, p1, q1, rfl, rfl, rfl, h1, r1'⟩ := trodAll_cons r0'
  obtain ⟨rfl, rfl, rfl⟩ := trodAll_nil r1'
  obtain rfl : args = #[v0, v1] := by cases args; simp_all
  obtain ⟨rfl, rfl⟩ := trodVars_none hV
  obtain ⟨a0, len0, cap0, rfl⟩ := okWide_slice Try.underlying22 (hval 0 22 v0 rfl rfl)
  have k0 := h0
  have lt0 : ∀ x ∈ p0, x.block < W.heap.size := by obtain ⟨m, hm⟩ := k0; exact DataW.trod_lt m _ _ _ hm
  obtain ⟨z0, hz0, hc0, hd0, _, r0⟩ := open_keys h0
  subst hz0
  obtain ⟨a1, rfl, rfl, rfl, w1⟩ := open_int Try.underlying3 (hval 1 3 v1 rfl rfl) h1
  clear hA0 hval0
  refine (walk a0 cap0 z0 a1 W ⟨hc0, hd0⟩ r0 w1).mono fun e W' ⟨he, bel⟩ => ?_
  subst he
  exact ⟨_, rfl, _, _, _, [], _, [], hW', trodAll_mk1 (shut_bool Try.underlying4 _), (trodAll_cons_mk (Below.trod laidOut (by kernel_rfl) (of_decide_eq_true (by kernel_rfl)) k0 bel lt0) (trodAll_cons_mk (shut_int Try.underlying3 w1) trodAll_mk0)), rfl, bel.frame _, fun h => by cases h⟩

theorem over : Rows.treeOrdersRow.holds Try.pinned (OpenSpec.ofChange Rows.treeOrdersSpec) :=
  OpenClaim.holds_of_wide 3 Try.f3 rfl rfl rfl rfl rfl rfl rfl ⟨rfl, rfl, rfl, rfl, rfl⟩ rfl rfl rfl rfl rfl (by kernel_rfl) Try.func3 (by kernel_rfl)
    (of_decide_eq_true (by kernel_rfl)) (by unfold Func.isWrapper; first | (rw [if_pos (by decide +kernel)]; kernel_rfl) | (rw [if_neg (by decide +kernel)]; exact ⟨rfl, rfl⟩))
    (fun os started H enc _ => lifted os started H enc)

theorem proved : Rows.TreeOrdersSaid := over
end Go.Proofs.Ytfbbmpmgceghfaa.treeOrders
namespace Go.Proofs.Ytfbbmpmgceghfaa
theorem treeOrders_holds : Rows.TreeOrdersSaid := treeOrders.proved
#print axioms treeOrders_holds
end Go.Proofs.Ytfbbmpmgceghfaa
