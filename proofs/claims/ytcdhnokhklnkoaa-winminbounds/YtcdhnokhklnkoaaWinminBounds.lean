/-
  Proved: canterlaw09.WinminBounds answers true at every number and two lists of numbers, and leaves its arguments as they were. Conditions: none.
-/
import Derived.Test.YtcdhnokhklnkoaaRows
import Derived.WalkKit
import Derived.ProofKit
import Derived.OpenShut
import Derived.ShutString
import Derived.ChangeOld
import Derived.Below
import Derived.Test.YtcdhnokhklnkoaaAwakeN
import Derived.Test.YtcdhnokhklnkoaaWinCame
namespace Go.Proofs.Ytcdhnokhklnkoaa.winminBounds
open Go.ChangeShapes Go.WideShapes Go.ChangeAt Go.RowKit
open Go.ChangeMaps (open_string shut_string)
set_option linter.unusedVariables false

theorem own : ownKnob Try.prog.godebug = none := by kernel_rfl
theorem laidOut : laidOutB Try.prog = true := by kernel_rfl

def IsRow (k : IntKind) (w : World) (a : Option Addr) (len cap : Nat) (zs : List Int) : Prop :=
  (a = none ∧ len = 0 ∧ cap = 0 ∧ zs = []) ∨
  ∃ x, a = some x ∧ len ≤ cap ∧ cap ≤ maxLen ∧ zs.length = cap ∧ (∀ i, i < zs.length → w.cell? (x.add i) = some (.int k (zs.getD i 0))) ∧ ∀ n ∈ zs, (Lit.int k n).wf = true

theorem rd_of_row {w : World} {a : Option Addr} {len cap : Nat} {z : List Int} (h : IsRow .u64 w a len cap z) :
    (z.take len).length = len ∧ len ≤ 9223372036854775807 ∧ Rd .u64 w a (z.take len) ∧ ∀ k, k < (z.take len).length → 0 ≤ (z.take len).getD k 0 ∧ (z.take len).getD k 0 ≤ 18446744073709551615 := by
  rcases h with ⟨rfl, rfl, rfl, rfl⟩ | ⟨x, rfl, hl, hm, hz, hc, hw⟩
  · exact ⟨rfl, by omega, fun i hi => by simp at hi, fun k hk => by simp at hk⟩
  · have hlen : (z.take len).length = len := by simp; omega
    have eg : ∀ i, i < len → (z.take len).getD i 0 = z.getD i 0 := fun i hi => by simp [List.getD_eq_getElem?_getD, hi]
    refine ⟨hlen, by unfold maxLen at hm; omega, fun i hi => ?_, fun k hk => ?_⟩
    · rw [hlen] at hi
      obtain ⟨b, off, e, hat⟩ := ints_at hc (by omega)
      subst e
      have hcell := hat i (by omega)
      exact ⟨b, off, rfl, lt_of_cell hcell, by rw [eg i hi]; exact hcell⟩
    · rw [hlen] at hk
      rw [eg k hk, List.getD_eq_getElem?_getD, List.getElem?_eq_getElem (by omega)]
      exact bounds_u64 (hw _ (List.getElem_mem _))
/-- The law's things in memory: the window at g, both lists, apart. -/
structure Held (wB w : World) (g : Nat) (W : Int) (A B : Value) (ts vs : List Int) (x : Tri) : Prop where
  at_ : MinAt w g W x
  a : Owns w 22 A (us ts)
  b : Owns w 22 B (us vs)
  pa : ∀ j, A.ownBlock = some j → wB.heap.size ≤ j ∧ j ≠ g ∧ B.ownBlock ≠ some j
  pb : ∀ j, B.ownBlock = some j → wB.heap.size ≤ j ∧ j ≠ g
  lo : wB.heap.size ≤ g
  bel : Below wB.heap.size wB w
section
variable {wB wr w6 w7 : World} {g : Nat} {W : Int} {A B A' B' : Value} {ts vs : List Int} {x y : Tri}
theorem Held.app (h : Held wB wr g W A B ts vs x) {z v : Int} {o o' : Obj} (o6 : Owns w6 22 A' (us (ts ++ [z]))) (k6 : Keep (fun k => A.ownBlock = some k) (wr.alloc o) w6) (n6 : ∀ k, A'.ownBlock = some k → A.ownBlock = some k ∨ (wr.alloc o).heap.size ≤ k)
    (o7 : Owns w7 22 B' (us (vs ++ [v]))) (k7 : Keep (fun k => B.ownBlock = some k) (w6.alloc o') w7) (n7 : ∀ k, B'.ownBlock = some k → B.ownBlock = some k ∨ (w6.alloc o').heap.size ≤ k) : Held wB w7 g W A' B' (ts ++ [z]) (vs ++ [v]) x := by
  have hs6 := k6.size
  have hs7 := k7.size
  have hsb := h.bel.size
  have hg := h.at_.lt
  rw [World.size_alloc] at hs6 hs7
  have hAB : ∀ j, A'.ownBlock = some j → B.ownBlock ≠ some j := fun j e e' => by
    rcases n6 j e with e | e
    · exact (h.pa j e).2.2 e'
    · rw [World.size_alloc] at e; have := h.b.lt e'; omega
  refine ⟨?_, ?_, o7, fun j e => ?_, fun j e => ?_, h.lo, ?_⟩
  · refine (((h.at_.alloc o).keep k6 (fun e => (h.pa g e).2.1 rfl)).alloc o').keep k7 (fun e => (h.pb g e).2 rfl)
  · exact (o6.alloc o').keep k7 hAB
  · refine ⟨?_, ?_, fun e' => ?_⟩
    · rcases n6 j e with e | e
      · exact (h.pa j e).1
      · rw [World.size_alloc] at e; omega
    · rcases n6 j e with e | e
      · exact (h.pa j e).2.1
      · rw [World.size_alloc] at e; omega
    · rcases n7 j e' with e' | e'
      · exact hAB j e e'
      · rw [World.size_alloc] at e'; have := o6.lt e; omega
  · rcases n7 j e with e | e
    · exact h.pb j e
    · rw [World.size_alloc] at e; exact ⟨by omega, by omega⟩
  · refine (h.bel.trans (b := wr) (c := w6) ?_).trans (c := w7) ?_
    · exact ((Keep.refl (fun k => A.ownBlock = some k) wr).alloc o |>.trans k6).below hsb (fun i e => (h.pa i e).1)
    · exact ((Keep.refl (fun k => B.ownBlock = some k) w6).alloc o' |>.trans k7).below (by omega) (fun i e => (h.pb i e).1)
theorem Held.upd (h : Held wB wr g W A B ts vs x) (hy : MinAt w6 g W y) (hk : Keep (fun k => k = g) wr w6) : Held wB w6 g W A B ts vs y :=
  ⟨hy, h.a.keep hk (fun j e e' => (h.pa j e).2.1 e'), h.b.keep hk (fun j e e' => (h.pb j e).2 e'), h.pa, h.pb, h.lo, h.bel.trans (hk.below h.bel.size (fun i e => by subst e; exact h.lo))⟩
end

set_option maxHeartbeats 4000000 in
set_option maxRecDepth 100000 in
theorem walk (a0 : Int) (a1 : Option Addr) (len1 cap1 : Nat) (z1 : List Int) (a2 : Option Addr) (len2 cap2 : Nat) (z2 : List Int) (w : World) (w0 : (Lit.int .u64 a0).wf = true) (w1 : IsRow .u64 w a1 len1 cap1 z1) (w2 : IsRow .u64 w a2 len2 cap2 z2) :
    Calls Try.prog 5 #[.int .u64 a0, .slice a1 len1 cap1, .slice a2 len2 cap2] w fun e w' => e = .returned (.bool true) ∧ Below w.heap.size w w' := by
  have b0 := bounds_u64 w0
  obtain ⟨hlen1, hmax1, hrd1, hbd1⟩ := rd_of_row w1
  obtain ⟨hlen2, hmax2, hrd2, hbd2⟩ := rd_of_row w2
  clear w0 w1 w2
  generalize z1.take len1 = zs at *
  generalize z2.take len2 = ys at *
  subst hlen1 hlen2
  have HD1 := Lib.hid hrd1; have HN1 := Lib.hid hbd1; have HD2 := Lib.hid hrd2; have HN2 := Lib.hid hbd2; clear hrd1 hbd1 hrd2 hbd2
  go_enter Try.func5, Try.ntmps5
  go_wp2_with fail
  obtain ⟨W, hW⟩ : ∃ W, a0 % 1000 = W := ⟨_, rfl⟩
  have hW0 : 0 ≤ W := by omega
  have hW1 : W ≤ 1000 := by omega
  rw [hW]
  clear hW b0
  refine (nnew_any W ⟨by omega, by omega⟩ _).mono ?_
  rintro e w1 ⟨rfl, h1, k1⟩
  have H1 := Lib.hid h1; have K1 := Lib.hid k1; clear h1 k1
  go_wp2_with fail
  refine (awaken_any _).mono ?_
  rintro e w2 ⟨rfl, k2⟩
  have H2 := Lib.hid (H1.out.kept k2); have K2 := Lib.hid ((K1.out.trans k2).below (Nat.le_refl _) (fun _ h => h.elim)); clear k2 H1 K1
  obtain ⟨g, hg⟩ : ∃ g, w.heap.size = g := ⟨_, rfl⟩
  rw [hg] at H2 ⊢
  have hgle : w.heap.size ≤ g := by omega
  clear hg
  go_wp2
  go_loopw [8, 9, 10, 11] (fun T A B i wr => ∃ (k : Nat) (ts vs : List Int) (t : Int) (x : Tri), k ≤ zs.length ∧ k ≤ ys.length ∧ k ≤ 80 ∧ i = .int .i64 k ∧ T = .int .u64 t ∧ Sofar true W k ts vs t x ∧ Held w wr g W A B ts vs x) (fun _ _ _ i _ => 80 - (intOf i).toNat)
  case atStart => exact ⟨0, [], [], 0, _, Nat.zero_le _, Nat.zero_le _, by omega, rfl, rfl, Sofar.zero, H2.out, Owns.nil _ _, Owns.nil _ _, fun j e => (by cases e), fun j e => (by cases e), hgle, K2.out⟩
  case round =>
    obtain ⟨k, ts, vs, t, x, hk1, hk2, hk80, rfl, rfl, hS, hH⟩ := hrel
    obtain ⟨aa, ca, rfl, _⟩ := hH.a.shape
    obtain ⟨ab, cb, rfl, _⟩ := hH.b.shape
    rw [show (us ts).length = k by rw [len_us]; exact hS.lt, show (us vs).length = k by rw [len_us]; exact hS.lv] at hH ⊢
    have HS := Lib.hid hS; have HH := Lib.hid hH; clear hS hH H2 K2
    by_cases hlt : k < zs.length ∧ k < ys.length ∧ k < 80
    · obtain ⟨hl1, hl2, hl3⟩ := hlt
      obtain ⟨b1, off1, rfl, hb1, hc1⟩ := HD1.out k hl1
      obtain ⟨b2, off2, rfl, hb2, hc2⟩ := HD2.out k hl2
      have n1 := HN1.out k hl1
      have n2 := HN2.out k hl2
      have d1 : wr.cell? ⟨b1, off1 + k, none⟩ = some (.int .u64 (zs.getD k 0)) := (HH.out.bel.cell (p := ⟨b1, off1 + k, none⟩) hb1).trans hc1
      have d2 : wr.cell? ⟨b2, off2 + k, none⟩ = some (.int .u64 (ys.getD k 0)) := (HH.out.bel.cell (p := ⟨b2, off2 + k, none⟩) hb2).trans hc2
      generalize zs.getD k 0 = z at *
      generalize ys.getD k 0 = v at *
      have hi1 : (k : Int) < (zs.length : Int) := by omega
      have hi2 : (k : Int) < (ys.length : Int) := by omega
      have hi3 : (k : Int) < 80 := by omega
      have ht0 := HS.out.t0
      have ht1 := HS.out.t1
      clear hc1 hc2 hb1 hb2 HD1 HD2 HN1 HN2
      obtain ⟨i0, hi, hz0, hz1, hz2⟩ := info_parts Try.infoU
      have HI := Lib.hid hi; have HZ0 := Lib.hid hz0; have HZ1 := Lib.hid hz1; have HZ2 := Lib.hid hz2; clear hi hz0 hz1 hz2
      obtain ⟨D, hD⟩ : ∃ D, z % 400 = D := ⟨_, rfl⟩
      have hD0 : 0 ≤ D := by omega
      have hD1 : D ≤ 399 := by omega
      go_wp2_with (first
        | (at_builtin; refine wpList_append_owns rfl _ _ 40 rfl 22 i0 (.int .u64 0) 8 Try.underlying40 HI.out HZ0.out HZ1.out HZ2.out rfl (.slice aa k ca) (us ts) rfl (HH.out.a.alloc _) (some ⟨wr.heap.size, 0, none⟩) 1 1 [.int .u64 (t + D)] rfl rfl (fun h => (by cases h)) (one_news _ _ _) (one_us [t + D]) (by unfold maxLen; rw [len_us, HS.out.lt]; omega) (by rw [len_us, HS.out.lt]; omega) ?_; intro A' w6 hown hk hnew hnil; rw [app_us] at hown; obtain ⟨aa', ca', e6, _⟩ := hown.shape; rw [show (us (ts ++ [t + D])).length = k + 1 from (by rw [len_us]; simp [HS.out.lt])] at e6; subst e6; have HO6 := Lib.hid hown; have HK6 := Lib.hid hk; have HN6 := Lib.hid hnew; have HB6 := Lib.hid ((HH.out.b.alloc _).keep hk (fun j e e' => (HH.out.pa j e').2.2 e)); clear hown hk hnew hnil)
        | (at_builtin; refine wpList_append_owns rfl _ _ 40 rfl 22 i0 (.int .u64 0) 8 Try.underlying40 HI.out HZ0.out HZ1.out HZ2.out rfl (.slice ab k cb) (us vs) rfl (HB6.out.alloc _) (some ⟨w6.heap.size, 0, none⟩) 1 1 [.int .u64 v] rfl rfl (fun h => (by cases h)) (one_news _ _ _) (one_us [v]) (by unfold maxLen; rw [len_us, HS.out.lv]; omega) (by rw [len_us, HS.out.lv]; omega) ?_; intro B' w7 hown hk hnew hnil; rw [app_us] at hown; obtain ⟨ab', cb', e7, _⟩ := hown.shape; rw [show (us (vs ++ [v])).length = k + 1 from (by rw [len_us]; simp [HS.out.lv])] at e7; subst e7; have HH7 := Lib.hid (HH.out.app HO6.out HK6.out HN6.out hown hk hnew); clear hown hk hnew hnil))
      have NV : Hid (Num v) := Lib.hid n2
      refine (nupd_any g W (t + D) v x _ HH7.out.at_ ⟨by omega, by omega⟩ NV.out).mono ?_
      rintro e w8 ⟨rfl, h8, k8⟩
      have HH8 := Lib.hid (HH7.out.upd h8 k8)
      have HS8 := Lib.hid (HS.out.next (v := v) hD0 hD1 hW0 NV.out)
      have hbN := h8.fit.b0
      obtain ⟨hvb, k0, s0, hk0t, hk0v, hnear⟩ := HS.out.told (v := v) hD0 hW0 NV.out
      have hvb : (updT true W x (t + D) v).v0 ≤ v := hvb
      have hT0 : 0 ≤ t + D := by omega
      have hT1 : t + D ≤ 40000 := by omega
      clear h8 k8 HH7 HO6 HK6 HN6 HB6 HI HZ0 HZ1 HZ2 HH HS d1 d2
      generalize updT true W x (t + D) v = y at *
      generalize t + D = T at *
      generalize ts ++ [T] = ts' at *
      generalize vs ++ [v] = vs' at *
      have hk0 : k0 < k + 1 := by rw [← HS8.out.lt]; exact (List.getElem?_eq_some_iff.1 hk0t).1
      have HB : Hid (Num y.v0) := Lib.hid hbN
      generalize hbb : y.v0 = bb at *
      unfold Num at hbN
      have n2' : 0 ≤ v ∧ v ≤ 18446744073709551615 := NV.out
      go_wp2
      go_loop [14, 15] (fun S c => ∃ (j : Nat) (sb : Bool), j ≤ k + 1 ∧ c = .int .i64 j ∧ S = .bool sb ∧ (k0 < j → sb = true)) (fun _ c => k + 1 - (intOf c).toNat)
      case atStart => exact ⟨0, false, Nat.zero_le _, rfl, rfl, fun h => absurd h (Nat.not_lt_zero _)⟩
      case round =>
        obtain ⟨j, sb, hj, rfl, rfl, hrel⟩ := hrel
        have HREL := Lib.hid hrel; clear hrel
        by_cases hjk : j < k + 1
        · obtain ⟨tj, htj⟩ : ∃ z, ts'[j]? = some z := ⟨_, List.getElem?_eq_getElem (by rw [HS8.out.lt]; exact hjk)⟩
          obtain ⟨vj, hvj⟩ : ∃ z, vs'[j]? = some z := ⟨_, List.getElem?_eq_getElem (by rw [HS8.out.lv]; exact hjk)⟩
          obtain ⟨ga, rfl, ca⟩ := HH8.out.a.rdu htj
          obtain ⟨gb, rfl, cb⟩ := HH8.out.b.rdu hvj
          obtain ⟨tj0, tj1⟩ := HS8.out.ht j tj htj
          obtain ⟨vj0, vj1⟩ := HS8.out.hv j vj hvj
          have HKK : Hid (k0 = j → vj = bb ∧ T - tj ≤ W) := Lib.hid (fun e => by
            subst e
            rw [hk0t] at htj; rw [hk0v] at hvj
            cases htj; cases hvj
            exact ⟨rfl, hnear⟩)
          have hji : (j : Int) < (k : Int) + 1 := by omega
          clear htj hvj hk0t hk0v hnear
          cases sb
          · by_cases hvb' : vj = bb
            · have hq : (vj == bb) = true := by simpa using hvb'
              clear hvb'
              by_cases hwin : T - tj ≤ W
              · go_wp2
                go_round
                case rel => exact ⟨j + 1, true, by omega, by go_num, rfl, fun _ => rfl⟩
                case measure => simp [intOf]; omega
              · go_wp2
                go_round
                case rel => exact ⟨j + 1, false, by omega, by go_num, rfl, fun h => by
                  have H := HREL.out; have H' := HKK.out
                  by_cases e : k0 = j
                  · exact absurd (H' e).2 hwin
                  · exact H (by omega)⟩
                case measure => simp [intOf]; omega
            · have hq : (vj == bb) = false := by simpa using hvb'
              go_wp2
              go_round
              case rel => exact ⟨j + 1, false, by omega, by go_num, rfl, fun h => by
                have H := HREL.out; have H' := HKK.out
                by_cases e : k0 = j
                · exact absurd (H' e).1 hvb'
                · exact H (by omega)⟩
              case measure => simp [intOf]; omega
          · skip
            go_wp2
            go_round
            case rel => exact ⟨j + 1, true, by omega, by go_num, rfl, fun _ => rfl⟩
            case measure => simp [intOf]; omega
        · obtain rfl : j = k + 1 := by omega
          obtain rfl := HREL.out hk0
          have hkk : ¬ ((k : Int) + 1 < (k : Int) + 1) := by omega
          have hbq : (bb != bb) = false := by simp
          clear HREL hjk hk0t hk0v hnear hj
          go_wp2_with (go_at_call 13; refine (nbest_is (a := bb) hbb _ _ HH8.out.at_).mono ?_; rintro e w9 ⟨rfl, rfl⟩)
          go_roundw
          case rel => exact ⟨k + 1, ts', vs', T, y, by omega, by omega, by omega, by go_num, rfl, HS8.out, HH8.out⟩
          case measure => simp [intOf]; omega
    · have hend : ¬ ((k : Int) < (zs.length : Int)) ∨ ((k : Int) < (zs.length : Int) ∧ ¬ ((k : Int) < (ys.length : Int))) ∨ ((k : Int) < (zs.length : Int) ∧ (k : Int) < (ys.length : Int) ∧ ¬ ((k : Int) < 80)) := by omega
      clear hlt HD1 HD2 HN1 HN2
      rcases hend with hf | ⟨hf1, hf⟩ | ⟨hf1, hf2, hf⟩
      · go_wp2
        go_ret
        exact ⟨rfl, HH.out.bel⟩
      · go_wp2
        go_ret
        exact ⟨rfl, HH.out.bel⟩
      · go_wp2
        go_ret
        exact ⟨rfl, HH.out.bel⟩

set_option maxRecDepth 100000 in
theorem lifted (os : Os) (started : os.Started) (H : Type) (enc : TypeId × Value → H) :
    ReturnsInHanded {} Try.checked os 5 .any (Rows.winminBoundsSpec.pre6 enc Try.prog Try.f5 Rows.winminBoundsRow.domain false) (Rows.winminBoundsSpec.post enc Try.prog Try.f5 false true false false) := by
  refine returnsInHanded_of_change (C := Try.checked) own started (by kernel_rfl) Try.func5
    (ChangeSpec.witness6 (enc := enc) (C := Try.checked) false ⟨#[], #[.int .u64 0, .slice none 0 0, .slice none 0 0], []⟩ 8 (by kernel_rfl) (by kernel_rfl) (by kernel_rfl) (by kernel_rfl)) ?_
  intro W base args ds gs before hval0 hW hcnd _
  have hval : ∀ (j : Nat) t v, Try.f5.params[j]? = some t → args[j]? = some v → Value.okWide Try.prog W .any base t v := hval0
  have hW' := hW
  obtain ⟨p, q, hA0, hV, rfl, hfz, hnd⟩ := hW
  have hA : DataW.TrodAll enc Try.prog W 0 (fun _ => true) true Try.f5.params.toList args.toList ds p := hA0
  rw [Try.params5] at hA hval
  obtain ⟨v0, vs0, d0, ds0, p0, q0, hargs, rfl, rfl, h0, r0⟩ := trodAll_cons hA
  obtain ⟨v1, vs1, d1, ds1, p1, q1, rfl, rfl, rfl, h1, r1⟩ := trodAll_cons r0
  obtain ⟨v2, vs2, d2, ds2, p2, q2, rfl, rfl, rfl, h2, r2⟩ := trodAll_cons r1
  obtain ⟨rfl, rfl, rfl⟩ := trodAll_nil r2
  obtain rfl : args = #[v0, v1, v2] := by cases args; simp_all
  obtain ⟨rfl, rfl⟩ := trodVars_none hV
  obtain ⟨a0, rfl, rfl, rfl, w0⟩ := open_int Try.underlying22 (hval 0 22 v0 rfl rfl) h0
  obtain ⟨a1, len1, cap1, rfl⟩ := okWide_slice Try.underlying40 (hval 1 40 v1 rfl rfl)
  have k1 := h1
  have lt1 : ∀ x ∈ p1, x.block < W.heap.size := by obtain ⟨m, hm⟩ := k1; exact DataW.trod_lt m _ _ _ hm
  obtain ⟨z1, w1⟩ : ∃ zs, IsRow .u64 W a1 len1 cap1 zs := by
    obtain ⟨fuel, hf⟩ := h1
    rcases open_ints Try.underlying40 Try.underlying22 (by kernel_rfl) hf with ⟨hcs, _⟩ | ⟨x, l, c, zs, hcs, _, hl, hm, hz, _, hcell, hwz⟩
    · simp [Value.cells] at hcs
      obtain ⟨rfl, rfl, rfl⟩ := hcs
      exact ⟨[], .inl ⟨rfl, rfl, rfl, rfl⟩⟩
    · simp [Value.cells] at hcs
      obtain ⟨rfl, rfl, rfl⟩ := hcs
      exact ⟨zs, .inr ⟨_, rfl, hl, hm, by simpa using hz, hcell, hwz⟩⟩
  obtain ⟨a2, len2, cap2, rfl⟩ := okWide_slice Try.underlying40 (hval 2 40 v2 rfl rfl)
  have k2 := h2
  have lt2 : ∀ x ∈ p2, x.block < W.heap.size := by obtain ⟨m, hm⟩ := k2; exact DataW.trod_lt m _ _ _ hm
  obtain ⟨z2, w2⟩ : ∃ zs, IsRow .u64 W a2 len2 cap2 zs := by
    obtain ⟨fuel, hf⟩ := h2
    rcases open_ints Try.underlying40 Try.underlying22 (by kernel_rfl) hf with ⟨hcs, _⟩ | ⟨x, l, c, zs, hcs, _, hl, hm, hz, _, hcell, hwz⟩
    · simp [Value.cells] at hcs
      obtain ⟨rfl, rfl, rfl⟩ := hcs
      exact ⟨[], .inl ⟨rfl, rfl, rfl, rfl⟩⟩
    · simp [Value.cells] at hcs
      obtain ⟨rfl, rfl, rfl⟩ := hcs
      exact ⟨zs, .inr ⟨_, rfl, hl, hm, by simpa using hz, hcell, hwz⟩⟩
  clear hA0 hval0
  refine (walk a0 a1 len1 cap1 z1 a2 len2 cap2 z2 W w0 w1 w2).mono fun e W' ⟨he, bel⟩ => ?_
  subst he
  exact ⟨_, rfl, _, _, _, [], _, [], hW', trodAll_mk1 (shut_bool Try.underlying4 _), (trodAll_cons_mk (shut_int Try.underlying22 w0) (trodAll_cons_mk (Below.trod laidOut (by kernel_rfl) (of_decide_eq_true (by kernel_rfl)) k1 bel lt1) (trodAll_cons_mk (Below.trod laidOut (by kernel_rfl) (of_decide_eq_true (by kernel_rfl)) k2 bel lt2) trodAll_mk0))), rfl, bel.frame _, fun h => by cases h⟩

theorem over : Rows.winminBoundsRow.holds Try.pinned (OpenSpec.ofChange Rows.winminBoundsSpec) :=
  OpenClaim.holds_of_wide 5 Try.f5 rfl rfl rfl rfl rfl rfl rfl ⟨rfl, rfl, rfl, rfl, rfl⟩ rfl rfl rfl rfl rfl (by kernel_rfl) Try.func5 (by kernel_rfl)
    (of_decide_eq_true (by kernel_rfl)) (by unfold Func.isWrapper; first | (rw [if_pos (by decide +kernel)]; kernel_rfl) | (rw [if_neg (by decide +kernel)]; exact ⟨rfl, rfl⟩))
    (fun os started H enc _ => lifted os started H enc)

theorem proved : Rows.WinminBoundsSaid := over
end Go.Proofs.Ytcdhnokhklnkoaa.winminBounds
namespace Go.Proofs.Ytcdhnokhklnkoaa
theorem winminBounds_holds : Rows.WinminBoundsSaid := winminBounds.proved
#print axioms winminBounds_holds
end Go.Proofs.Ytcdhnokhklnkoaa
