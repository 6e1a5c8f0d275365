/-
  canterhelp.Plain of keys that are alike; canterlaw05.low, awake answer true. Conditions: those of each theorem.
-/
import Derived.Test.YtfbbmpmgceghfaaHelpK
namespace Go.Proofs.Ytfbbmpmgceghfaa
open Go.RowKit
set_option maxRecDepth 100000
set_option linter.unusedSimpArgs false

theorem eq_key (x : Key) (w : World) :
    Calls Try.prog 40 #[kv x, kv x] w fun e w' => e = .returned (.bool true) ∧ Keep (fun _ => False) w w' := by
  have heq := Try.eqKey
  obtain ⟨a, b⟩ := x
  unfold kv
  dsimp only
  have hb : (a == a && b == b) = true := by simp
  go_enter Try.func40, Try.ntmps40
  go_wp2
  go_ret
  exact ⟨rfl, ((Keep.refl _ _).alloc _).alloc _⟩

set_option maxHeartbeats 1000000 in
set_option maxRecDepth 100000 in
theorem same_key (a b : Option Addr) (ca cb : Nat) (ks : List Key) (w : World) (hlen : ks.length ≤ 100000) (ha : RdK w a ks) (hb : RdK w b ks) :
    Calls Try.prog 39 #[.slice a ks.length ca, .slice b ks.length cb, .func (.func 40) #[] #[]] w fun e w' => e = .returned (.bool true) ∧ Keep (fun _ => False) w w' := by
  have HA := Lib.hid ha; have HB := Lib.hid hb; clear ha hb
  go_enter Try.func39, Try.ntmps39
  go_wp2
  go_loopw [7] (fun i wr => ∃ k : Nat, k ≤ ks.length ∧ i = .int .i64 k ∧ Keep (fun _ => False) w wr) (fun i _ => ks.length - (intOf i).toNat)
  case atStart => exact ⟨0, Nat.zero_le _, rfl, Keep.refl _ _⟩
  case round =>
    obtain ⟨k, hk, rfl, hkp⟩ := hrel
    have HK := Lib.hid hkp; clear hkp
    by_cases hlt : k < ks.length
    · obtain ⟨b1, o1, rfl, hb1, c1, c2⟩ := HA.out k ks[k] (List.getElem?_eq_getElem hlt)
      obtain ⟨b2, o2, rfl, hb2, c3, c4⟩ := HB.out k ks[k] (List.getElem?_eq_getElem hlt)
      have HC : Hid (∀ W, Keep (fun _ => False) w W → W.cell? ⟨b1, o1 + k * 2, none⟩ = some (.int .u64 ks[k].a) ∧ W.cell? ⟨b1, o1 + k * 2 + 1, none⟩ = some (.int .u64 ks[k].b) ∧ W.cell? ⟨b2, o2 + k * 2, none⟩ = some (.int .u64 ks[k].a) ∧ W.cell? ⟨b2, o2 + k * 2 + 1, none⟩ = some (.int .u64 ks[k].b)) :=
        Lib.hid fun W hW => ⟨(hW.cell (p := ⟨b1, _, none⟩) hb1 (fun h => h)).trans c1, (hW.cell (p := ⟨b1, _, none⟩) hb1 (fun h => h)).trans c2, (hW.cell (p := ⟨b2, _, none⟩) hb2 (fun h => h)).trans c3, (hW.cell (p := ⟨b2, _, none⟩) hb2 (fun h => h)).trans c4⟩
      have HEQ := Lib.hid (eq_key ks[k])
      clear c1 c2 c3 c4 HA HB
      generalize ks[k] = x at *
      obtain ⟨xa, xb⟩ := x
      dsimp only at HC
      have hi1 : (k : Int) < (ks.length : Int) := by omega
      go_wp2
      refine wp_region_sch (fun W => W.cell? ⟨b1, o1 + k * 2, none⟩ = some (.int .u64 xa) ∧ W.cell? ⟨b1, o1 + k * 2 + 1, none⟩ = some (.int .u64 xb) ∧ W.cell? ⟨b2, o2 + k * 2, none⟩ = some (.int .u64 xa) ∧ W.cell? ⟨b2, o2 + k * 2 + 1, none⟩ = some (.int .u64 xb)) [(true, 0), (true, 1), (true, 2), (true, 3), (true, 4), (true, 5), (true, 6), (true, 7), (true, 8), (false, 9), (true, 10)] (by kernel_rfl) (by kernel_rfl) (by kernel_rfl) (by kernel_rfl) (HC.out _ HK.out.drew) ?_
      (repeat (refine wpSch_yes (v := ?_) rfl (fun _ _ _ h => h) (by rfl) ?_ ?_; rotate_left; (next => (intro w hSw; (try dsimp only at hSw); obtain ⟨hS1, hS2, hS3, hS4⟩ := hSw; go_simp; (try with_reducible rfl))); (try simp only [Act.put, List.setIfInBounds_toArray, List.set_cons_zero, List.set_cons_succ])))
      refine wpSch_call rfl (by rfl) (fun K hK => ?_)
      go_simp
      refine (HEQ.out _).mono ?_
      rintro e w' ⟨rfl, hk2⟩
      have HK2 := Lib.hid (HK.out.drew.trans hk2); clear hk2
      refine hK.out _ _ (HC.out _ HK2.out) (fun hHeld => ?_)
      clear hK K
      (try simp only [Act.put, List.setIfInBounds_toArray, List.set_cons_zero, List.set_cons_succ])
      (repeat (refine wpSch_yes (v := ?_) rfl (fun _ _ _ h => h) (by rfl) ?_ ?_; rotate_left; (next => (intro w hSw; (try dsimp only at hSw); obtain ⟨hS1, hS2, hS3, hS4⟩ := hSw; go_simp; (try with_reducible rfl))); (try simp only [Act.put, List.setIfInBounds_toArray, List.set_cons_zero, List.set_cons_succ])))
      refine wpSch_nil ?_
      go_wp2
      go_roundw
      case rel => exact ⟨k + 1, by omega, by go_num, HK2.out⟩
      case measure => simp [intOf]; omega
    · clear HA HB
      go_wp2
      go_ret
      exact ⟨rfl, HK.out⟩

theorem plain_key (a b : Option Addr) (n n' ca cb : Nat) (ks : List Key) (w : World) (hn : n = ks.length) (hn' : n' = ks.length) (hlen : ks.length ≤ 100000) (ha : RdK w a ks) (hb : RdK w b ks) :
    Calls Try.prog 19 #[.slice a n ca, .slice b n' cb] w fun e w' => e = .returned (.bool true) ∧ Keep (fun _ => False) w w' := by
  subst hn hn'
  have HA := Lib.hid ha; have HB := Lib.hid hb; clear ha hb
  go_enter Try.func19, Try.ntmps19
  go_wp2_with fail
  refine (same_key a b ca cb ks w hlen HA.out HB.out).mono ?_
  rintro e w' ⟨rfl, k⟩
  have HK := Lib.hid k; clear k
  go_wp2
  go_ret
  exact ⟨rfl, HK.out⟩

section
variable {S : Nat → Prop} {g N : Nat} {ks : List Key}
set_option maxHeartbeats 1000000 in
set_option maxRecDepth 100000 in
theorem low_any (w : World) (h : TreeAt w S g N ks) : Calls Try.prog 16 #[.pointer (some ⟨g, 0, none⟩)] w fun e w' => e = .returned (.bool true) ∧ Keep (fun _ => False) w w' := by
  have hfew := h.few
  have H := Lib.hid h; clear h
  obtain ⟨n, hn⟩ : ∃ n, n = ks.length := ⟨_, rfl⟩
  have hn5 : n ≤ 4096 := by omega
  have HLEN := Lib.hid (fun W (h : TreeAt W S g N ks) => tlen_any W h)
  have HHT := Lib.hid (fun W (h : TreeAt W S g N ks) => theight_any W h)
  rw [← hn] at HLEN HHT
  have hbl : bitsN (n + 1) ≤ 13 := bitsN_le (by omega)
  obtain ⟨bb, hbb⟩ : ∃ bb, bb = bitsN (n + 1) := ⟨_, rfl⟩
  rw [← hbb] at HHT hbl
  have HBB := Lib.hid hbb
  clear hbb
  go_enter Try.func16, Try.ntmps16
  go_wp2_with fail
  refine (HLEN.out _ H.out).mono ?_
  rintro e w1 ⟨rfl, k1, hw1⟩
  have H1 := Lib.hid (hw1 ▸ H.out.drewN k1 : TreeAt w1 S g N ks)
  have K1 := Lib.hid (hw1 ▸ ((Keep.refl (fun _ => False) w).drewN k1) : Keep (fun _ => False) w w1)
  clear hw1 H
  have HN := Lib.hid hn
  clear hn
  go_wp2
  go_loopg [3, 4] (n + 1) (fun j a3 a4 wr => ∃ c v : Nat, a3 = .int .i64 (c : Int) ∧ a4 = .int .i64 (v : Int) ∧ c + bitsN v = bb ∧ v ≤ n + 1 ∧ v ≤ j ∧ wr = w1)
  case atStart => exact ⟨0, n + 1, rfl, by go_num, by rw [HBB.out]; omega, Nat.le_refl _, Nat.le_refl _, rfl⟩
  case round =>
    obtain ⟨c, v, rfl, rfl, hc, hv, hj, rfl⟩ := hrel
    by_cases hv0 : v = 0
    · subst hv0
      rw [bitsN_zero] at hc
      obtain rfl : c = bb := by omega
      clear hc hv hj
      go_wp2_with fail
      refine (HHT.out _ H1.out).mono ?_
      rintro e w2 ⟨x, rfl, hx1, hx2, k2⟩
      have H2 := Lib.hid (H1.out.kept k2); have K2 := Lib.hid (K1.out.trans k2)
      clear k2
      have g1 : (0 : Int) ≤ (x : Int) := by omega
      have g2 : (x : Int) ≤ 2 * (c : Int) := by omega
      by_cases hn0 : 0 < n
      · have g3 : (0 : Int) < (x : Int) := by have := hx2.2 hn0; omega
        have g4 : (0 : Int) < (n : Int) := by omega
        clear hx2
        go_wp2_with fail
        refine (HLEN.out _ H2.out).mono ?_
        rintro e w3 ⟨rfl, k3, hw3⟩
        have K3 := Lib.hid (hw3 ▸ K2.out.drewN k3 : Keep (fun _ => False) w w3)
        clear hw3
        go_wp2
        go_ret
        exact ⟨by first | rfl | (simp; omega), K3.out⟩
      · have g3 : ¬ (0 : Int) < (x : Int) := by have := fun h => hn0 (hx2.1 h); omega
        have g4 : ¬ (0 : Int) < (n : Int) := by omega
        clear hx2
        go_wp2_with fail
        refine (HLEN.out _ H2.out).mono ?_
        rintro e w3 ⟨rfl, k3, hw3⟩
        have K3 := Lib.hid (hw3 ▸ K2.out.drewN k3 : Keep (fun _ => False) w w3)
        clear hw3
        go_wp2
        go_ret
        exact ⟨by first | rfl | (simp; omega), K3.out⟩
    · have hd : bitsN v = 1 + bitsN (v / 2) := bitsN_pos (by omega)
      have hq : ((v : Int).tdiv 2) = ((v / 2 : Nat) : Int) := by rw [Int.tdiv_eq_ediv_of_nonneg (by omega)]; omega
      have hv1 : (v : Int) > 0 := by omega
      go_wp2
      go_roundg (gk - 1)
      case measure => omega
      case rel => exact ⟨c + 1, v / 2, by go_num, by first | rfl | (rw [hq]) | go_num, by omega, by omega, by omega, rfl⟩

theorem insert_is {S : Nat → Prop} {g N : Nat} {ks ks' : List Key} {k : Key} {c : Int} (e : insE N ks k = c ∧ insS N ks k = ks') (w : World) (h : TreeAt w S g N ks) :
    Calls Try.prog 8 #[.pointer (some ⟨g, 0, none⟩), kv k] w fun e w' => e = .returned (.int .i64 c) ∧ ∃ S', TreeAt w' S' g N ks' ∧ Step S S' w w' := by
  have := tins_any k w h
  rwa [e.1, e.2] at this
theorem delete_is {S : Nat → Prop} {g N : Nat} {ks ks' : List Key} {k : Key} {c : Int} (e : delE ks k = c ∧ delS ks k = ks') (w : World) (h : TreeAt w S g N ks) :
    Calls Try.prog 17 #[.pointer (some ⟨g, 0, none⟩), kv k] w fun e w' => e = .returned (.int .i64 c) ∧ ∃ S', TreeAt w' S' g N ks' ∧ Step S S' w w' := by
  have := tdel_any k w h
  rwa [e.1, e.2] at this
theorem tnew_is {n : Int} {N : Nat} (e : capN n = N) (w : World) : Calls Try.prog 6 #[.int .i64 n] w fun e w' => ∃ g S, e = .returned (.pointer (some ⟨g, 0, none⟩)) ∧ TreeAt w' S g N [] ∧ (∀ k, S k → w.heap.size ≤ k) ∧ Keep (fun _ => False) w w' := by
  subst e; exact tnew_any n w

set_option maxHeartbeats 1000000 in
set_option maxRecDepth 100000 in
theorem awaket_any (w : World) : Calls Try.prog 7 #[] w fun e w' => e = .returned (.bool true) ∧ Keep (fun _ => False) w w' := by
  have heq := Try.eqKey
  go_enter Try.func7, Try.ntmps7
  go_wp2_with fail
  refine (tnew_is (N := 5) rfl _).mono ?_
  rintro e w1 ⟨g, S1, rfl, h1, s1, k1⟩
  have H1 := Lib.hid h1; have K1 := Lib.hid k1; have HS1 := Lib.hid s1; clear h1 k1 s1
  go_wp2_with fail
  refine (insert_is (k := ⟨2, 1⟩) (c := 0) (ks' := [⟨2, 1⟩]) (by decide) _ H1.out).mono ?_
  rintro e w2 ⟨rfl, S2, h2, t2⟩
  have H2 := Lib.hid h2; have T2 := Lib.hid t2; clear h2 t2
  go_wp2_with fail
  refine (insert_is (k := ⟨1, 9⟩) (c := 0) (ks' := [⟨1, 9⟩, ⟨2, 1⟩]) (by decide) _ H2.out).mono ?_
  rintro e w3 ⟨rfl, S3, h3, t3⟩
  have H3 := Lib.hid h3; have T3 := Lib.hid t3; clear h3 t3
  have K3 : Hid (Keep (fun _ => False) w w3) := Lib.hid (K1.out.then (T2.out.trans T3.out).1 (fun i e hlt => by have := HS1.out i e; omega))
  go_wp2_with fail
  refine (tmin_any _ H3.out).mono ?_
  rintro e w4 ⟨rfl, k4⟩
  have H4 := Lib.hid (H3.out.kept k4); have K4 := Lib.hid (K3.out.trans k4); clear k4 H1 H2 T2 T3 K1 K3 HS1
  simp only [hdK, hdB, kv]
  have H4' := Lib.hid (H4.out.kept ((Keep.refl _ _).alloc (.cells #[.int .u64 1, .int .u64 9] 30)))
  have K4' : Hid (Keep (fun _ => False) w (w4.alloc (.cells #[.int .u64 1, .int .u64 9] 30))) := Lib.hid (K4.out.alloc _)
  go_wp2_with fail
  refine (tlen_any _ H4'.out).mono ?_
  rintro e w5 ⟨rfl, k5, hw5⟩
  have H5 := Lib.hid (hw5 ▸ H4'.out.drewN k5 : TreeAt w5 S3 g 5 [⟨1, 9⟩, ⟨2, 1⟩])
  have K5 := Lib.hid (hw5 ▸ K4'.out.drewN k5 : Keep (fun _ => False) w w5)
  clear hw5 H4 K4 H4' K4'
  go_wp2_with fail
  refine (tall_any _ _).mono ?_
  rintro e w6 ⟨rfl, hw6⟩
  have HB6 := Lib.hid (hw6 ▸ Boxed.new w5 23 (.pointer (some ⟨g, 0, none⟩)) : Boxed w6 w5.heap.size 23 (.pointer (some ⟨g, 0, none⟩)))
  have H6 := Lib.hid (hw6 ▸ H5.out.kept ((Keep.refl _ _).alloc (.cells #[.pointer (some ⟨g, 0, none⟩)] 23)) : TreeAt w6 S3 g 5 [⟨1, 9⟩, ⟨2, 1⟩])
  have K6 := Lib.hid (hw6 ▸ K5.out.alloc (.cells #[.pointer (some ⟨g, 0, none⟩)] 23) : Keep (fun _ => False) w w6)
  clear hw6 H5 K5
  have hh := hallk_any w5.heap.size 9 w6 H6.out HB6.out
  rw [show ([(⟨1, 9⟩ : Key), ⟨2, 1⟩].take (max 1 (9 : Int).toNat)) = [⟨1, 9⟩, ⟨2, 1⟩] from rfl] at hh
  have HH := Lib.hid hh; clear hh
  go_wp2_with fail
  refine HH.out.mono ?_
  rintro e w7 ⟨a, c, rfl, _, _, k7⟩
  have K7 := Lib.hid (K6.out.trans k7); clear k7
  go_wp2
  go_ret
  exact ⟨rfl, K7.out⟩
end
end Go.Proofs.Ytfbbmpmgceghfaa
