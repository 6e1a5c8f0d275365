/-
  Package fq: Enqueue: the fate of a segment, its errors, and what it leaves. Conditions: the queue lies in memory.
  What rising hands back tells the nodes of a tree by rising keys, till it is told to stop. Conditions: the tree lies in memory.
-/
import Derived.Test.YtnljjdfajmjdjaaGreatJ29
import Derived.Test.YtnljjdfajmjdjaaGreatJ30
import Derived.Test.YtnljjdfajmjdjaaGreatJ24
import Derived.RangeFuncNested
import Derived.RangeFuncBound
import Derived.RangeFuncCalls
import Derived.RangeFuncLeaves
import Derived.Shelf.Abstract
import Derived.Shelf.RegionOpen
import Derived.OwnWalkIn
import Derived.TacticsInMore
import Derived.LoopNIn
import Derived.LoopIn
import Derived.Sort.QuietIn
namespace Go.Proofs.YtnljjdfajmjdjaaGreat
open Go.RowKit
set_option maxRecDepth 100000
set_option linter.unusedSimpArgs false
set_option linter.unusedVariables false

theorem enqIn {x : Qm} {s : Sg} {now : Int} (h : enqE s = 0) : enqV x s now = fateQ (collQ x now) s now ∧ enqQ x s now = if fateQ (collQ x now) s now = 0 then takeQ (collQ x now) s now else collQ x now := by
  unfold enqV enqQ
  rw [if_pos h, if_pos h]
  exact ⟨rfl, rfl⟩
theorem enqOut {x : Qm} {s : Sg} {now : Int} (h : enqE s ≠ 0) : enqV x s now = 0 ∧ enqQ x s now = x := by
  unfold enqV enqQ
  rw [if_neg h, if_neg h]
  exact ⟨rfl, rfl⟩
section
variable {w w' : World} {g tg : Nat} {S : Nat → Prop} {cs : Array Value} {v : Nat → Value} {ks : List Key} {x : Qm}
set_option maxRecDepth 100000 in
set_option maxHeartbeats 4000000 in
theorem FQat.enq (h : FQat w g tg S cs v ks x) (s : Sg) (now : Int) (hn : U64 now) (hf : U64 s.f) (hst : U64 s.t) :
    Calls Tryz.prog 19 #[.pointer (some ⟨g, 0, none⟩), s.v, .int .u64 now] w fun e w' => e = .returned (.tuple #[.int .i64 (enqV x s now), .int .i64 (enqE s)]) ∧ ∃ cs' v', FQat w' g tg S cs' v' ks (enqQ x s now) ∧ Keep (FQown g S v) w w' ∧ ∀ j k, j < 8 → (v' j).ownBlock = some k → (v j).ownBlock = some k ∨ w.heap.size ≤ k := by
  obtain ⟨z, f, l, t, a⟩ := s
  have HN := Lib.hid hn; have HF := Lib.hid hf; have HST := Lib.hid hst
  have HLG := Lib.hid h.w.whole.lt
  have HSO := Lib.hid (fun k (e : S k) => h.w.lt (.inr (.inl e)))
  have HOLD := Lib.hid (fun j k (hj : j < 8) (e : (v j).ownBlock = some k) => h.w.lt (.inr (.inr ⟨j, hj, e⟩)))
  have kz : Keep (fun _ => False) w (w.alloc (.cells #[.int .i64 z, .int .u64 f, .int .i64 l, .int .u64 t, .bool a] 44)) := (Keep.refl _ _).alloc _
  have HQ0 := Lib.hid (⟨h.w.kept kz, h.ok, h.ks⟩ : FQat _ g tg S cs v ks x); have HK0 := Lib.hid kz; have HBX0 := Lib.hid (Whole.new w 44 #[.int .i64 z, .int .u64 f, .int .i64 l, .int .u64 t, .bool a])
  clear h hn hf hst kz
  go_enter Tryz.func19, Tryz.ntmps19
  go_upto_region 1 with fail
  generalize hw0 : w.alloc _ = w0 at *
  clear hw0
  have b0 := HBX0.out.cell 0; have b2 := HBX0.out.cell 2
  simp only [List.getElem?_toArray, List.getElem?_cons_zero, List.getElem?_cons_succ] at b0 b2
  obtain ⟨c, hc⟩ : ∃ c, c = decide (0 ≤ z ∧ z < 8) := ⟨_, rfl⟩
  have HCC := Lib.hid hc
  go_wp2_with fail
  refine (issock_any z c HCC.out w0).mono ?_
  rintro e w1 ⟨rfl, rfl⟩
  cases c with
  | false =>
    have HE : Hid (enqE ⟨z, f, l, t, a⟩ = 8) := Lib.hid (by
      have : ¬ (0 ≤ z ∧ z < 8) := by simpa using hc.symm
      unfold enqE; dsimp only; rw [if_pos (by omega)])
    clear hc
    go_wp2
    go_ret2
    have hE := HE.out
    have ho := enqOut (x := x) (now := now) (fun e => absurd (hE.symm.trans e) (by decide))
    exact ⟨ret_pair ho.1.symm hE.symm, _, _, (by rw [ho.2]; exact HQ0.out), HK0.out.mono (fun _ h => h.elim), fun _ _ _ h => .inl h⟩
  | true =>
    have hzz : 0 ≤ z ∧ z < 8 := by simpa using hc.symm
    obtain ⟨i, rfl⟩ : ∃ i : Nat, z = (i : Int) := ⟨z.toNat, by omega⟩
    have HI : Hid (i < 8) := Lib.hid (by omega)
    clear hc HCC hzz
    obtain ⟨c, hc⟩ : ∃ c, c = decide (1 ≤ l ∧ l ≤ 65536) := ⟨_, rfl⟩
    have HCC := Lib.hid hc
    go_wp2_with fail
    refine (within_any l 1 65536 c HCC.out w0).mono ?_
    rintro e w1 ⟨rfl, rfl⟩
    cases c with
    | false =>
      have HE : Hid (enqE ⟨(i : Int), f, l, t, a⟩ = 1) := Lib.hid (by
        have : ¬ (1 ≤ l ∧ l ≤ 65536) := by simpa using hc.symm
        have := HI.out
        unfold enqE; dsimp only; rw [if_neg (by omega), if_pos (by omega)])
      clear hc
      go_wp2
      go_ret2
      have hE := HE.out
      have ho := enqOut (x := x) (now := now) (fun e => absurd (hE.symm.trans e) (by decide))
      exact ⟨ret_pair ho.1.symm hE.symm, _, _, (by rw [ho.2]; exact HQ0.out), HK0.out.mono (fun _ h => h.elim), fun _ _ _ h => .inl h⟩
    | true =>
      have HE : Hid (enqE ⟨(i : Int), f, l, t, a⟩ = 0) := Lib.hid (by
        have : 1 ≤ l ∧ l ≤ 65536 := by simpa using hc.symm
        have := HI.out
        unfold enqE; dsimp only; rw [if_neg (by omega), if_neg (by omega)])
      clear hc HCC b0 b2
      go_wp2_with fail
      refine (HQ0.out.collect now).mono ?_
      rintro e w1 ⟨⟨u, rfl⟩, cs1, v1, hq1, hk1, hv1⟩
      have HC : Hid ((collQ x now).Ok ∧ KsOf (collQ x now) ks) := Lib.hid ⟨hq1.ok, hq1.ks⟩
      have HQ1 := Lib.hid hq1.w; have HK1 := Lib.hid ((HK0.out.mono (fun _ h => h.elim) : Keep (fun k => k = g) w w0).trans hk1); have HV1 := Lib.hid hv1
      have HBX1 := Lib.hid (HBX0.out.keep hk1 (fun e => by have := HLG.out; omega))
      clear hq1 hk1 hv1 HQ0 HK0 HBX0
      have ch : w1.cell? ⟨g, 4, none⟩ = some (.int .u64 x.c.h) := HQ1.out.cf (j := 4) (by omega)
      have hh := HC.out.1.hc.hh
      have HHH : Hid (0 ≤ x.c.h ∧ x.c.h ≤ 18446744073709551615) := Lib.hid ⟨hh.1, by have : x.c.h ≤ 4611686018427387904 := hh.2; omega⟩
      clear hh
      go_wp2_with fail
      refine (add_any now x.c.h HN.out.1 HN.out.2 HHH.out.1 HHH.out.2 w1).mono ?_
      rintro e w2 ⟨rfl, rfl⟩
      obtain ⟨L, hL⟩ : ∃ L, satAdd now x.c.h = L := ⟨_, rfl⟩
      have HL : Hid (addS now x.c.h = L) := Lib.hid hL
      rw [hL]
      clear ch hL
      go_wp2_with fail
      have cl : w1.drew.cell? ⟨g, 2, none⟩ = some (.int .i64 x.c.l) := HQ1.out.cf (j := 2) (by omega)
      refine wp_region_sch (fun W => W.cell? ⟨g, 2, none⟩ = some (.int .i64 x.c.l)) [(true, 0), (true, 2), (true, 3), (true, 4), (true, 5), (true, 6), (false, 1), (true, 7), (true, 8)] (by kernel_rfl) (by kernel_rfl) (by kernel_rfl) (by kernel_rfl) cl ?_
      have HQ2 := Lib.hid (HQ1.out.kept (Keep.refl _ w1).drew); have HK2 := Lib.hid HK1.out.drew; have HBX2 := Lib.hid (HBX1.out.keep (Keep.refl (fun _ => False) w1).drew id)
      clear cl HQ1 HK1 HBX1
      generalize w1.drew = w2 at *
      (repeat (refine wpSch_yes (v := ?_) rfl (fun _ _ _ h => h) (by rfl) ?_ ?_; rotate_left; (next => (intro w hSw; (try dsimp only at hSw); (have hS1 := hSw); go_simp; (try with_reducible rfl))); (try simp only [Act.put, List.setIfInBounds_toArray, List.set_cons_zero, List.set_cons_succ])))
      refine wpSch_call rfl (by rfl) (fun K hK => ?_); go_simp
      refine (HQ2.out.len HC.out.1.len).mono ?_
      rintro e w3 ⟨rfl, k3⟩
      obtain ⟨m, hm⟩ : ∃ m, lenQ (collQ x now) = m := ⟨_, rfl⟩
      rw [hm]
      have HM := Lib.hid hm
      have HQ3 := Lib.hid (HQ2.out.kept k3); have HK3 := Lib.hid (HK2.out.trans (k3.mono (fun _ h => h.elim))); have HBX3 := Lib.hid (HBX2.out.keep k3 id)
      clear k3 hm HQ2 HK2 HBX2
      refine hK.out _ _ (HQ3.out.cf (j := 2) (by omega)) (fun hHeld => ?_)
      clear hK K hHeld
      (try simp only [Act.put, List.setIfInBounds_toArray, List.set_cons_zero, List.set_cons_succ])
      (repeat (refine wpSch_yes (v := ?_) rfl (fun _ _ _ h => h) (by rfl) ?_ ?_; rotate_left; (next => (intro w hSw; (try dsimp only at hSw); (have hS1 := hSw); go_simp; (try with_reducible rfl))); (try simp only [Act.put, List.setIfInBounds_toArray, List.set_cons_zero, List.set_cons_succ])))
      refine wpSch_nil ?_
      obtain ⟨c, hc⟩ : ∃ c, decide (x.c.l ≤ (m : Int)) = c := ⟨_, rfl⟩
      rw [hc]
      cases c with
      | true =>
        have hle : x.c.l ≤ (m : Int) := of_decide_eq_true hc
        have HV : Hid (fateQ (collQ x now) ⟨(i : Int), f, l, t, a⟩ now = 2) := Lib.hid (by unfold fateQ; rw [HM.out]; exact if_pos hle)
        have HQ4 := HQ3; have HK4 := HK3
        clear hc hle HQ3 HK3
        go_wp2
        go_ret2
        have hin := enqIn (x := x) (now := now) HE.out
        rw [HV.out] at hin
        exact ⟨ret_pair hin.1.symm HE.out.symm, _, _, (by rw [hin.2, if_neg (by decide)]; exact ⟨HQ4.out, HC.out.1, HC.out.2⟩), HK4.out.mono (fun k e => .inl e), fun j k hj e => .inl (HV1.out j k hj e)⟩
      | false =>
        have hle : ¬ x.c.l ≤ (m : Int) := of_decide_eq_false hc
        have HLE := Lib.hid hle
        clear hc hle
        obtain ⟨sa, scap, hsv, _⟩ := (HQ3.out.q i HI.out).shape
        have cv := HQ3.out.seg HI.out
        rw [hsv] at cv
        obtain ⟨LL, hLL⟩ : ∃ n, ((collQ x now).F i).q.length = n := ⟨_, rfl⟩
        rw [hLL] at cv
        have HLL := Lib.hid hLL
        have cw : w3.cell? ⟨g, 3, none⟩ = some (.int .i64 x.c.w) := HQ3.out.cf (j := 3) (by omega)
        have b0 := HBX3.out.cell 0
        simp only [List.getElem?_toArray, List.getElem?_cons_zero, List.getElem?_cons_succ] at b0
        have hi8 : (i : Int) < 8 := by have := HI.out; omega
        clear hsv hLL
        go_wp2_with fail
        refine wp_region_sch (fun W => W.cell? ⟨g, 9 + i * 5 + 4, none⟩ = some (.slice sa LL scap) ∧ W.cell? ⟨g, 3, none⟩ = some (.int .i64 x.c.w) ∧ W.cell? ⟨w.heap.size, 0, none⟩ = some (.int .i64 (i : Int))) [(true, 0), (true, 1), (true, 2), (true, 3), (true, 4), (true, 5), (true, 6), (true, 7), (true, 8), (true, 9), (true, 10), (true, 11), (true, 12), (true, 13), (true, 14), (true, 15)] (by kernel_rfl) (by kernel_rfl) (by kernel_rfl) (by kernel_rfl) ⟨cv, cw, b0⟩ ?_
        have HQ4 := Lib.hid (HQ3.out.kept (Keep.refl _ w3).drew); have HK4 := Lib.hid HK3.out.drew; have HBX4 := Lib.hid (HBX3.out.keep (Keep.refl (fun _ => False) w3).drew id)
        clear cv cw b0 HQ3 HK3 HBX3
        generalize World.drew w3 = w4 at *
        (repeat (refine wpSch_yes (v := ?_) rfl (fun _ _ _ h => h) (by rfl) ?_ ?_; rotate_left; (next => (intro w hSw; (try dsimp only at hSw); obtain ⟨hS1, hS2, hS3⟩ := hSw; go_simp; (try with_reducible rfl))); (try simp only [Act.put, List.setIfInBounds_toArray, List.set_cons_zero, List.set_cons_succ])))
        refine wpSch_nil ?_
        obtain ⟨c, hc⟩ : ∃ c, decide (x.c.w ≤ (LL : Int)) = c := ⟨_, rfl⟩
        rw [hc]
        cases c with
        | true =>
          have hle : x.c.w ≤ (LL : Int) := of_decide_eq_true hc
          have HV : Hid (fateQ (collQ x now) ⟨(i : Int), f, l, t, a⟩ now = 3) := Lib.hid (by
            unfold fateQ
            rw [if_neg (by rw [HM.out]; have := HLE.out; show ¬ x.c.l ≤ (m : Int); omega), if_pos (by show x.c.w ≤ _; rw [show ((⟨(i : Int), f, l, t, a⟩ : Sg).s.toNat) = i from rfl, HLL.out]; exact hle)])
          clear hc hle hi8
          go_wp2
          go_ret2
          have hin := enqIn (x := x) (now := now) HE.out
          rw [HV.out] at hin
          exact ⟨ret_pair hin.1.symm HE.out.symm, _, _, (by rw [hin.2, if_neg (by decide)]; exact ⟨HQ4.out, HC.out.1, HC.out.2⟩), HK4.out.mono (fun k e => .inl e), fun j k hj e => .inl (HV1.out j k hj e)⟩
        | false =>
          have hle : ¬ x.c.w ≤ (LL : Int) := of_decide_eq_false hc
          have HFA : Hid (fateQ (collQ x now) ⟨(i : Int), f, l, t, a⟩ now = if L < t ∧ x.c.d = true then 4 else 0) := Lib.hid (by
            unfold fateQ
            rw [if_neg (by rw [HM.out]; have := HLE.out; show ¬ x.c.l ≤ (m : Int); omega), if_neg (by show ¬ x.c.w ≤ _; rw [show ((⟨(i : Int), f, l, t, a⟩ : Sg).s.toNat) = i from rfl, HLL.out]; exact hle), ← HL.out]
            rfl)
          have b3 := HBX4.out.cell 3
          simp only [List.getElem?_toArray, List.getElem?_cons_zero, List.getElem?_cons_succ] at b3
          obtain ⟨dd, hdd⟩ : ∃ d, x.c.d = d := ⟨_, rfl⟩
          have cd : w4.cell? ⟨g, 6, none⟩ = some (.bool dd) := by rw [← hdd]; exact HQ4.out.cf (j := 6) (by omega)
          rw [hdd] at HFA
          clear hc hle hi8 hdd
          by_cases hlt : L < t
          · have hn : ¬ t < L := by omega
            cases dd with
            | true =>
              have HV : Hid (fateQ (collQ x now) ⟨(i : Int), f, l, t, a⟩ now = 4) := Lib.hid (by rw [HFA.out]; exact if_pos ⟨hlt, rfl⟩)
              clear HFA
              go_wp2
              go_ret2
              have hin := enqIn (x := x) (now := now) HE.out
              rw [HV.out] at hin
              exact ⟨ret_pair hin.1.symm HE.out.symm, _, _, (by rw [hin.2, if_neg (by decide)]; exact ⟨HQ4.out, HC.out.1, HC.out.2⟩), HK4.out.mono (fun k e => .inl e), fun j k hj e => .inl (HV1.out j k hj e)⟩
            | false =>
              have HV : Hid (fateQ (collQ x now) ⟨(i : Int), f, l, t, a⟩ now = 0) := Lib.hid (by rw [HFA.out]; exact if_neg (fun h => by cases h.2))
              clear HFA
              have HMIN : Hid (min t L = L) := Lib.hid (by omega)
              have kb : Keep (fun k => k = w.heap.size) w4 (w4.setCell ⟨w.heap.size, 3, none⟩ (.int .u64 L)) := (Keep.refl (fun k => k = w.heap.size) w4).setCell (p := ⟨w.heap.size, 3, none⟩) (.inl rfl) _
              have HQ5 := Lib.hid (HQ4.out.keep kb (fun k hk e => by
                rcases hk with h | h | ⟨j, hj, h⟩
                · have := HLG.out; omega
                · have := HSO.out k h; omega
                · have := HOLD.out j k hj (HV1.out j k hj h); omega))
              have HK5 : Hid (Keep (fun k => k = g) w _) := Lib.hid (HK4.out.then kb (fun k e hlt => by omega))
              have b0 := HBX4.out.cell 0; have b1 := HBX4.out.cell 1; have b2 := HBX4.out.cell 2; have b4 := HBX4.out.cell 4
              simp only [List.getElem?_toArray, List.getElem?_cons_zero, List.getElem?_cons_succ] at b0 b1 b2 b4
              have g3 := HBX4.out.free 3
              have HSEG : Hid (segF (collQ x now) ⟨(i : Int), f, l, t, a⟩ now = ⟨(i : Int), f, l, L, a⟩) := Lib.hid (by
                have e1 : addS now (collQ x now).c.h = L := HL.out
                unfold segF
                dsimp only
                rw [e1, HMIN.out])
              clear kb HQ4 HK4
              go_wp2_with fail
              refine (FQat.put (S := S) (⟨HQ5.out, HC.out.1, HC.out.2⟩ : FQat _ g tg S cs1 v1 ks (collQ x now)) HI.out ⟨(i : Int), f, l, t, a⟩ ⟨(i : Int), f, l, L, a⟩ rfl now HSEG.out (take_ok HC.out.1 HE.out HN.out HF.out HST.out HV.out)).mono ?_
              rintro e w6 ⟨⟨u, rfl⟩, cs6, v6, hq6, hk6, hv6⟩
              have HQ6 := Lib.hid hq6; have HK6 := Lib.hid hk6; have HV6 := Lib.hid hv6
              clear hq6 hk6 hv6 b0 b1 b2 b3 b4 g3
              go_wp2
              go_ret2
              have hin := enqIn (x := x) (now := now) HE.out
              rw [HV.out, if_pos rfl] at hin
              refine ⟨ret_pair hin.1.symm HE.out.symm, _, _, by rw [hin.2]; exact HQ6.out, ?_, fun j k hj e => ?_⟩
              · exact (HK5.out.mono (fun k e => .inl e)).then HK6.out (fun k e hlt => e.elim .inl (fun h => .inr (.inr ⟨i, HI.out, HV1.out i k HI.out h⟩)))
              · rcases HV6.out j k hj e with h | h
                · exact .inl (HV1.out j k hj h)
                · have := HK5.out.size; exact .inr (by omega)
          · have HV : Hid (fateQ (collQ x now) ⟨(i : Int), f, l, t, a⟩ now = 0) := Lib.hid (by rw [HFA.out]; exact if_neg (fun h => hlt h.1))
            clear HFA
            rcases Int.lt_or_eq_of_le (Int.not_lt.1 hlt) with hl2 | hl2
            · have HMIN : Hid (min t L = t) := Lib.hid (by omega)
              have kb : Keep (fun k => k = w.heap.size) w4 (w4.setCell ⟨w.heap.size, 3, none⟩ (.int .u64 t)) := (Keep.refl (fun k => k = w.heap.size) w4).setCell (p := ⟨w.heap.size, 3, none⟩) (.inl rfl) _
              have HQ5 := Lib.hid (HQ4.out.keep kb (fun k hk e => by
                rcases hk with h | h | ⟨j, hj, h⟩
                · have := HLG.out; omega
                · have := HSO.out k h; omega
                · have := HOLD.out j k hj (HV1.out j k hj h); omega))
              have HK5 : Hid (Keep (fun k => k = g) w _) := Lib.hid (HK4.out.then kb (fun k e hlt => by omega))
              have b0 := HBX4.out.cell 0; have b1 := HBX4.out.cell 1; have b2 := HBX4.out.cell 2; have b4 := HBX4.out.cell 4
              simp only [List.getElem?_toArray, List.getElem?_cons_zero, List.getElem?_cons_succ] at b0 b1 b2 b4
              have g3 := HBX4.out.free 3
              have HSEG : Hid (segF (collQ x now) ⟨(i : Int), f, l, t, a⟩ now = ⟨(i : Int), f, l, t, a⟩) := Lib.hid (by
                have e1 : addS now (collQ x now).c.h = L := HL.out
                unfold segF
                dsimp only
                rw [e1, HMIN.out])
              clear kb HQ4 HK4
              go_wp2_with fail
              refine (FQat.put (S := S) (⟨HQ5.out, HC.out.1, HC.out.2⟩ : FQat _ g tg S cs1 v1 ks (collQ x now)) HI.out ⟨(i : Int), f, l, t, a⟩ ⟨(i : Int), f, l, t, a⟩ rfl now HSEG.out (take_ok HC.out.1 HE.out HN.out HF.out HST.out HV.out)).mono ?_
              rintro e w6 ⟨⟨u, rfl⟩, cs6, v6, hq6, hk6, hv6⟩
              have HQ6 := Lib.hid hq6; have HK6 := Lib.hid hk6; have HV6 := Lib.hid hv6
              clear hq6 hk6 hv6 b0 b1 b2 b3 b4 g3
              go_wp2
              go_ret2
              have hin := enqIn (x := x) (now := now) HE.out
              rw [HV.out, if_pos rfl] at hin
              refine ⟨ret_pair hin.1.symm HE.out.symm, _, _, by rw [hin.2]; exact HQ6.out, ?_, fun j k hj e => ?_⟩
              · exact (HK5.out.mono (fun k e => .inl e)).then HK6.out (fun k e hlt => e.elim .inl (fun h => .inr (.inr ⟨i, HI.out, HV1.out i k HI.out h⟩)))
              · rcases HV6.out j k hj e with h | h
                · exact .inl (HV1.out j k hj h)
                · have := HK5.out.size; exact .inr (by omega)
            · have HMIN : Hid (min t L = t) := Lib.hid (by omega)
              rw [← hl2]
              have hn := Int.lt_irrefl t
              clear hl2
              have kb : Keep (fun k => k = w.heap.size) w4 (w4.setCell ⟨w.heap.size, 3, none⟩ (.int .u64 t)) := (Keep.refl (fun k => k = w.heap.size) w4).setCell (p := ⟨w.heap.size, 3, none⟩) (.inl rfl) _
              have HQ5 := Lib.hid (HQ4.out.keep kb (fun k hk e => by
                rcases hk with h | h | ⟨j, hj, h⟩
                · have := HLG.out; omega
                · have := HSO.out k h; omega
                · have := HOLD.out j k hj (HV1.out j k hj h); omega))
              have HK5 : Hid (Keep (fun k => k = g) w _) := Lib.hid (HK4.out.then kb (fun k e hlt => by omega))
              have b0 := HBX4.out.cell 0; have b1 := HBX4.out.cell 1; have b2 := HBX4.out.cell 2; have b4 := HBX4.out.cell 4
              simp only [List.getElem?_toArray, List.getElem?_cons_zero, List.getElem?_cons_succ] at b0 b1 b2 b4
              have g3 := HBX4.out.free 3
              have HSEG : Hid (segF (collQ x now) ⟨(i : Int), f, l, t, a⟩ now = ⟨(i : Int), f, l, t, a⟩) := Lib.hid (by
                have e1 : addS now (collQ x now).c.h = L := HL.out
                unfold segF
                dsimp only
                rw [e1, HMIN.out])
              clear kb HQ4 HK4
              go_wp2_with fail
              refine (FQat.put (S := S) (⟨HQ5.out, HC.out.1, HC.out.2⟩ : FQat _ g tg S cs1 v1 ks (collQ x now)) HI.out ⟨(i : Int), f, l, t, a⟩ ⟨(i : Int), f, l, t, a⟩ rfl now HSEG.out (take_ok HC.out.1 HE.out HN.out HF.out HST.out HV.out)).mono ?_
              rintro e w6 ⟨⟨u, rfl⟩, cs6, v6, hq6, hk6, hv6⟩
              have HQ6 := Lib.hid hq6; have HK6 := Lib.hid hk6; have HV6 := Lib.hid hv6
              clear hq6 hk6 hv6 b0 b1 b2 b3 b4 g3
              go_wp2
              go_ret2
              have hin := enqIn (x := x) (now := now) HE.out
              rw [HV.out, if_pos rfl] at hin
              refine ⟨ret_pair hin.1.symm HE.out.symm, _, _, by rw [hin.2]; exact HQ6.out, ?_, fun j k hj e => ?_⟩
              · exact (HK5.out.mono (fun k e => .inl e)).then HK6.out (fun k e hlt => e.elim .inl (fun h => .inr (.inr ⟨i, HI.out, HV1.out i k HI.out h⟩)))
              · rcases HV6.out j k hj e with h | h
                · exact .inl (HV1.out j k hj h)
                · have := HK5.out.size; exact .inr (by omega)
end
end Go.Proofs.YtnljjdfajmjdjaaGreat
namespace Go.Proofs.YtnljjdfajmjdjaaGreat
open Go.RowKit Go.Shelf
set_option maxRecDepth 100000
set_option linter.unusedSimpArgs false

theorem wide_fn (f : FuncId) : Fence.wide.fn f = True := rfl
attribute [local go_sem] Oper.semAt_some wide_fn

theorem hd_drop {L : List (Nat × Key)} {k : Nat} {x : Nat × Key} (h : L[k]? = some x) : hd (L.drop k) = x.1 ∧ L.drop k = x :: L.drop (k + 1) ∧ L.take (k + 1) = L.take k ++ [x] := by
  obtain ⟨hk, rfl⟩ := List.getElem?_eq_some_iff.1 h
  have e := List.drop_eq_getElem_cons hk
  exact ⟨by rw [e]; rfl, e, List.take_succ_eq_append_getElem hk⟩
theorem take_at {α : Type} {L : List α} {k : Nat} {x : α} (h : L[k]? = some x) : L.take (k + 1) = L.take k ++ [x] := by
  obtain ⟨hk, rfl⟩ := List.getElem?_eq_some_iff.1 h
  exact List.take_succ_eq_append_getElem hk
theorem attach_at {α : Type} {L : List α} {k : Nat} (h : k < L.length) : ∃ y : {x // x ∈ L}, L.attach[k]? = some y ∧ L[k]? = some y.1 := by
  have hk : k < L.attach.length := by simpa using h
  refine ⟨L.attach[k], List.getElem?_eq_getElem hk, ?_⟩
  rw [List.getElem?_eq_getElem h]
  simp
theorem split_at : ∀ {A B L : List (Nat × Key)} {y : Nat × Key} {k : Nat} {x : Nat × Key}, L = A ++ y :: B → (L.map (·.1)).Nodup → L[k]? = some x → x.1 = y.1 → B = L.drop (k + 1)
  | [], B, L, y, k, x, e, hn, hk, hxy => by
    subst e
    cases k with
    | zero => rfl
    | succ k =>
      simp at hk
      simp only [List.nil_append, List.map_cons, List.nodup_cons] at hn
      exact absurd (by rw [← hxy]; exact List.mem_map.2 ⟨x, List.mem_of_getElem? hk, rfl⟩) hn.1
  | a :: A, B, L, y, k, x, e, hn, hk, hxy => by
    subst e
    simp only [List.cons_append, List.map_cons, List.nodup_cons] at hn
    cases k with
    | zero =>
      simp at hk
      subst hk
      exact absurd (by rw [hxy]; simp) hn.1
    | succ k =>
      simp only [List.cons_append, List.getElem?_cons_succ] at hk
      simp only [List.cons_append, List.drop_succ_cons]
      exact split_at rfl hn.2 hk hxy
/-- What stands behind a node. -/
theorem RepB.nextAt {m : Nat → Nd} {n tp : Nat} {z : Z} {t : T} {L : List (Nat × Key)} (h : RepB m n tp z t L) {k : Nat} {x : Nat × Key} (hk : L[k]? = some x) :
    ∃ z' kx c l r, RepB m n tp z' (.nd x.1 kx c l r) L ∧ r.its ++ z'.zr = L.drop (k + 1) := by
  obtain ⟨t', ht'⟩ := h.top
  have e : L = t'.its := by rw [← ht'.rep.its]; simp [Z.zl, Z.zr]
  obtain ⟨z', kx, c, l, r, hl⟩ := ht'.locate (i := x.1) (by rw [← e]; exact List.mem_map.2 ⟨x, List.mem_of_getElem? hk, rfl⟩)
  refine ⟨z', kx, c, l, r, hl, ?_⟩
  exact split_at (A := z'.zl ++ l.its) (y := (x.1, kx)) (by rw [← hl.rep.its]; simp [T.its]) ht'.rep.nodup hk rfl

/-- The blocks below n₀, and one more, are as they were. -/
def KpB (n₀ Bt : Nat) (A B : World) : Prop := Below n₀ A B ∧ B.heap[Bt]? = A.heap[Bt]?
theorem KpB.refl (n₀ Bt : Nat) (A : World) : KpB n₀ Bt A A := ⟨Below.refl _ _, rfl⟩
theorem KpB.trans {n₀ Bt : Nat} {A B C : World} (h : KpB n₀ Bt A B) (h' : KpB n₀ Bt B C) : KpB n₀ Bt A C := ⟨h.1.trans h'.1, h'.2.trans h.2⟩
theorem KpB.drewN {n₀ Bt : Nat} {A B : World} (h : KpB n₀ Bt A B) (k : Nat) : KpB n₀ Bt A (B.drewN k) := ⟨h.1.trans ⟨rfl, rfl, rfl, Nat.le_refl _, fun _ _ => rfl⟩, h.2⟩
theorem keep_of_below {n₀ : Nat} {A B : World} (h : Below n₀ A B) : Keep (fun k => n₀ ≤ k) A B := ⟨h.os, h.tape, h.output, h.size, fun k _ hs => h.block k (by omega)⟩
theorem TreeIn.below {w w' : World} {S : Nat → Prop} {g ga b cap n tp n₀ : Nat} {m : Nat → Nd} {L : List (Nat × Key)} {s : St} {Sa : Nat → Prop} (h : TreeIn w S g ga b cap n tp m L s Sa) (hb : Below n₀ w w') (hS : ∀ k, S k → k < n₀) : TreeIn w' S g ga b cap n tp m L s Sa :=
  have hk := keep_of_below hb
  ⟨h.tr.keep hk (fun h' => by have := hS g ((h.foot g).2 (.inl (.inl rfl))); omega) (fun h' => by have := hS b ((h.foot b).2 (.inl (.inr rfl))); omega), h.rep, h.sorted, h.ar.keep hk (fun k hk h' => by have := hS k ((h.foot k).2 (.inr hk)); omega), h.len, h.ids, h.cnt, h.ng, h.nb, h.foot⟩
theorem TreeIn.drewN {w : World} {S : Nat → Prop} {g ga b cap n tp : Nat} {m : Nat → Nd} {L : List (Nat × Key)} {s : St} {Sa : Nat → Prop} (h : TreeIn w S g ga b cap n tp m L s Sa) (k : Nat) : TreeIn (w.drewN k) S g ga b cap n tp m L s Sa :=
  ⟨h.tr.drewN k, h.rep, h.sorted, h.ar.keep (R := fun _ => False) ((Keep.refl _ _).drewN k) (fun _ _ h => h), h.len, h.ids, h.cnt, h.ng, h.nb, h.foot⟩
theorem TreeIn.at {w : World} {S : Nat → Prop} {g ga b cap n tp : Nat} {m : Nat → Nd} {L : List (Nat × Key)} {s : St} {Sa : Nat → Prop} (h : TreeIn w S g ga b cap n tp m L s Sa) : TreeAt w S g s.N (L.map (·.2)) := ⟨ga, b, cap, n, tp, m, L, s, Sa, h, rfl, rfl⟩

set_option maxRecDepth 100000 in
set_option maxHeartbeats 4000000 in
theorem rise1_in (n : Nat) (hn : 1 ≤ n) (l Bt n₀ : Nat) {S : Nat → Prop} {g ga b cap n' tp : Nat} {m : Nat → Nd} {L : List (Nat × Key)} {s : St} {Sa : Nat → Prop} (hS : ∀ k, S k → k < n₀) (J Jx : List {x : Nat × Key // x ∈ L} → World → Prop)
    (W : World) (hJd : ∀ pre W1 k, J pre W1 → J pre (W1.drewN k))
    (hY : ∀ pre x W1, J pre W1 → pre.length < L.length → YieldAt Fence.wide (n - 1) Tryz.prog l #[.int .i64 (x.1.1 : Int)] W1 fun e W' =>
      (e = .returned (.bool true) ∧ J (pre ++ [x]) W' ∧ KpB n₀ Bt W1 W') ∨ (e = .returned (.bool false) ∧ Jx (pre ++ [x]) W'))
    (hT : TreeIn W S g ga b cap n' tp m L s Sa) (hB : Boxed W Bt 71 (.pointer (some ⟨g, 0, none⟩))) (h0 : J [] W) :
    CallsIn Fence.wide n Tryz.prog 106 #[.func (.yield l) #[] #[], .pointer (some ⟨Bt, 0, none⟩)] W fun e W' => (∃ v, e = .returned v) ∧
      ((∃ ys, ys = L.attach ∧ J ys W') ∨ (∃ pre, pre <+: L.attach ∧ Jx pre W')) := by
  obtain ⟨t0, hrep⟩ := hT.rep
  obtain ⟨hnle, hlN, hN⟩ := hT.n_le
  have eL : L = t0.its := by rw [← hrep.rep.its]; simp [Z.zl, Z.zr]
  have HTP : Hid (tp = t0.root) := Lib.hid hrep.rep.up
  have HL0 : Hid (hd t0.its = hd (L.drop 0)) := Lib.hid (by rw [← eL]; rfl)
  have HREP := Lib.hid hrep
  have HT := Lib.hid hT
  have cb := hB.cell
  have c2 := hT.tr.st.cell 2
  have HLEAST := Lib.hid (fun w' (t' : Tr w' g b cap (.pointer (some ⟨ga, 0, none⟩)) n' tp m) => least_any w' t' HREP.out.rep)
  rw [← HTP.out] at HLEAST
  clear hrep hT eL
  refine callsIn_of_wp Tryz.func106 rfl trivial ?_ rfl
  simp only [Tryz.ntmps106, List.size_toArray, List.length_cons, List.length_nil, Nat.reduceAdd, Nat.reduceSub, Array.replicate_succ, Array.replicate_zero, List.push_toArray, List.append_toArray, List.nil_append, List.cons_append]
  gi_wp2
  gi_quiet ((gi_at_call 101; exact CallsIn.quiet_of_same (callsIn_wide.2 (HLEAST.out _ (HT.out.tr.drewN _)))))
  rw [HL0.out]
  have HT1 := Lib.hid (HT.out.drewN nq)
  have HK1 : Hid (KpB n₀ Bt W (W.drewN nq)) := Lib.hid ((KpB.refl n₀ Bt W).drewN nq)
  have HJ1 := Lib.hid (hJd _ _ nq h0)
  have HB1 := Lib.hid (show Boxed (W.drewN nq) Bt 71 (.pointer (some ⟨g, 0, none⟩)) from hB)
  have HLN : Hid ((L.map (·.2)).length = L.length) := Lib.hid (List.length_map _)
  clear cb c2 HLEAST HTP HL0 hB h0 HT
  generalize W.drewN nq = W1 at *
  have cb := HB1.out.cell
  have HLEN := Lib.hid (tlen_any W1 HT1.out.at)
  rw [HLN.out] at HLEN
  gi_wp2_with (gi_at_call 107; refine (callsIn_wide.2 HLEN.out).mono ?_; rintro e W2 ⟨rfl, k2, hw2⟩; have HW2 := Lib.hid hw2; clear hw2)
  gi_loopw [3, 12] (fun a3 a12 wr => ∃ k : Nat, k ≤ L.length ∧ a12 = .int .i64 k ∧ a3 = .int .i64 (hd (L.drop k) : Int) ∧ J (L.attach.take k) wr ∧ KpB n₀ Bt W1 wr)
    (fun _ i _ => L.length - (intOf i).toNat)
  case atStart => exact ⟨0, Nat.zero_le _, rfl, rfl, by rw [HW2.out]; exact hJd _ _ _ HJ1.out, by rw [HW2.out]; exact (KpB.refl _ _ _).drewN _⟩
  case round =>
    obtain ⟨k, hk, rfl, rfl, hJs, hK⟩ := hrel
    have HK := Lib.hid hK; have HJs := Lib.hid hJs
    clear hK hJs cb HLEN
    by_cases hlt : k < L.length
    · obtain ⟨y, hay, hx⟩ := attach_at hlt
      obtain ⟨x, hxy⟩ : ∃ x, x = y.1 := ⟨_, rfl⟩
      rw [← hxy] at hx
      obtain ⟨hd1, hd2, hd3⟩ := hd_drop hx
      obtain ⟨z', kx, c, l', r, hpos, hnext⟩ := HREP.out.nextAt hx
      have hx0 := (HREP.out.keyAt x (List.mem_of_getElem? hx)).2.1
      have hx' : ((x.1 : Int) == 0) = false := by rw [beq_eq_false_iff_ne]; omega
      obtain ⟨fn, tmps, assign, body, hy, hR⟩ := hY (L.attach.take k) y wr HJs.out (by simp; omega)
      rw [← hxy] at hy
      have HNEXT := Lib.hid (fun w' (t' : Tr w' g b cap (.pointer (some ⟨ga, 0, none⟩)) n' tp m) => next_any w' t' hpos.rep)
      rw [hnext] at HNEXT
      have HTK : Hid (L.attach.take k ++ [y] = L.attach.take (k + 1)) := Lib.hid (take_at hay).symm
      have HPRE : Hid (L.attach.take (k + 1) <+: L.attach) := Lib.hid (List.take_prefix _ _)
      have hki : (k : Int) < (L.length : Int) := by omega
      have HR := Lib.hid hR
      rw [hd1]
      clear hpos hnext hx hd1 hd2 hd3 hR hxy hay
      gi_wp2
      refine HR.out.mono ?_
      rintro e W3 (⟨rfl, hJ3, hk3⟩ | ⟨rfl, hJx3⟩)
      · have HK3 := Lib.hid (HK.out.trans hk3)
        rw [HTK.out] at hJ3
        have HJ3 := Lib.hid hJ3
        have HT3 := Lib.hid (HT1.out.below HK3.out.1 hS)
        have cb : W3.cell? ⟨Bt, 0, none⟩ = some (.pointer (some ⟨g, 0, none⟩)) := (World.cell?_of_block HK3.out.2).trans HB1.out.cell
        clear hJ3 hk3
        gi_wp2_with (gi_at_call 78; refine (callsIn_wide.2 (HNEXT.out _ HT3.out.tr)).mono ?_; rintro e W4 ⟨rfl, k4, hw4⟩; have HW4 := Lib.hid hw4; clear hw4)
        go_roundw
        case rel => exact ⟨k + 1, by omega, by go_num, rfl, by rw [HW4.out]; exact hJd _ _ _ HJ3.out, by rw [HW4.out]; exact HK3.out.drewN _⟩
        case measure => simp [intOf]; omega
      · rw [HTK.out] at hJx3
        gi_wp2
        refine bodyPost_ret (results_none rfl _ _ _) rfl ?_
        exact ⟨⟨_, rfl⟩, .inr ⟨_, HPRE.out, hJx3⟩⟩
    · obtain rfl : k = L.length := by omega
      have hJL : J L.attach wr := by have := HJs.out; rwa [List.take_of_length_le (by simp)] at this
      gi_wp2
      go_end0
      exact ⟨⟨_, rfl⟩, .inl ⟨_, rfl, hJL⟩⟩

theorem rise_stops (n : Nat) (hn : 1 ≤ n) (Bt n₀ : Nat) {S : Nat → Prop} {g ga b cap n' tp : Nat} {m : Nat → Nd} {L : List (Nat × Key)} {s : St} {Sa : Nat → Prop} (w : World) (hS : ∀ k, S k → k < n₀) (hn₀ : n₀ ≤ w.heap.size)
    (hT : TreeIn w S g ga b cap n' tp m L s Sa) (hB : Boxed w Bt 71 (.pointer (some ⟨g, 0, none⟩))) :
    SeqStopsK Fence.wide n Tryz.prog 106 #[.pointer (some ⟨Bt, 0, none⟩)] (fun x : {x : Nat × Key // x ∈ L} => #[Value.int .i64 (x.1.1 : Int)]) (KpB n₀ Bt) (fun ys => ys = L.attach) (fun pre => pre <+: L.attach) L.length w := fun l J Jx W hW hJ _ hY h0 => by
  have hB' : Boxed W Bt 71 (.pointer (some ⟨g, 0, none⟩)) := (hW.block Bt hB.lt).trans hB
  exact rise1_in n hn l Bt n₀ hS J Jx W (fun pre W1 k h => hJ pre W1 _ none h ⟨rfl, rfl, rfl, Nat.le_refl _, fun _ _ _ => rfl⟩ (fun r e => by cases e)) hY (hT.below (hW.mono hn₀) hS) hB' h0
end Go.Proofs.YtnljjdfajmjdjaaGreat
