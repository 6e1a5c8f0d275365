/-
  Package fq: what only reads: within, isSock, a flow's time, its key, its place, how long it has rested, the rate. Conditions: the queue lies in memory.
-/
import Derived.Test.YtoekmdidonnamaaFqSt
import Derived.Test.YtoekmdidonnamaaDel
import Derived.Test.YtoekmdidonnamaaSched
import Derived.OwnWalk
import Derived.BigQuiet
import Derived.BigRegion
import Derived.Deep.QuietTactic
import Derived.Deep.DeepCutAuto
namespace Go.Proofs.Ytoekmdidonnamaa
open Go.RowKit
set_option maxRecDepth 100000

theorem within_any (v a b : Int) (c : Bool) (hc : c = decide (a ≤ v ∧ v ≤ b)) (w : World) :
    Calls Try.prog 25 #[.int .i64 v, .int .i64 a, .int .i64 b] w fun e w' => e = .returned (.bool c) ∧ w = w' := by
  by_cases h1 : a ≤ v
  · by_cases h2 : v ≤ b
    · obtain rfl : c = true := by rw [hc]; simp [h1, h2]
      clear hc
      go_enter Try.func25, Try.ntmps25
      go_wp2
      go_ret
      exact ⟨rfl, rfl⟩
    · obtain rfl : c = false := by rw [hc]; simp [h2]
      clear hc
      go_enter Try.func25, Try.ntmps25
      go_wp2
      go_ret
      exact ⟨rfl, rfl⟩
  · obtain rfl : c = false := by rw [hc]; simp [h1]
    clear hc
    go_enter Try.func25, Try.ntmps25
    go_wp2
    go_ret
    exact ⟨rfl, rfl⟩
theorem issock_any (v : Int) (c : Bool) (hc : c = decide (0 ≤ v ∧ v < 8)) (w : World) :
    Calls Try.prog 24 #[.int .i64 v] w fun e w' => e = .returned (.bool c) ∧ w = w' := by
  have HC : Hid (c = decide (0 ≤ v ∧ v ≤ 7)) := Lib.hid (by rw [hc]; congr 1; apply propext; omega)
  clear hc
  go_enter Try.func24, Try.ntmps24
  go_wp2_with fail
  refine (within_any v 0 7 c HC.out w).mono ?_
  rintro e w' ⟨rfl, rfl⟩
  go_wp2
  go_ret
  exact ⟨rfl, rfl⟩

set_option maxHeartbeats 1000000 in
/-- The time of a flow whose cells lie from B on. -/
theorem ftime_any (g B : Nat) (n t : Int) (v : Value) (l : List Sg) (w : World) (c2 : w.cell? ⟨g, B + 2, none⟩ = some (.int .u64 n)) (c4 : w.cell? ⟨g, B + 4, none⟩ = some v) (h : SgAt w v l) (ht : t = max n (l.headD Sg.zero).t) (hn : 0 ≤ n) :
    Calls Try.prog 36 #[.pointer (some ⟨g, B, none⟩)] w fun e w' => e = .returned (.int .u64 t) ∧ ∃ n, w' = w.drewN n := by
  cases l with
  | nil =>
    obtain ⟨a, cap, rfl, _⟩ := h.shape
    obtain rfl : t = n := by rw [ht]; show max n 0 = n; omega
    clear h ht
    simp only [List.length_nil] at c4
    go_enter Try.func36, Try.ntmps36
    go_wp2
    go_ret
    exact ⟨rfl, 0, rfl⟩
  | cons s r =>
    obtain ⟨b, o, cap, rfl, hc1, hc2, _, _, _, _, c3, _⟩ := h.head
    have ht' : t = max n s.t := ht
    have hz : ((((r.length + 1 : Nat) : Int)) == 0) = false := by simp; omega
    have hz2 : (0 : Int) < ((r.length + 1 : Nat) : Int) := by omega
    generalize s.t = p at *
    generalize r.length + 1 = m at *
    have HT := Lib.hid ht'
    clear h ht ht'
    rcases Int.lt_trichotomy n p with hl | hl | hl
    · have hl2 : ¬ p < n := by omega
      go_enter Try.func36, Try.ntmps36
      go_wp2
      go_quiet (fail)
      go_wp2
      go_ret
      exact ⟨ret_i (by rw [HT.out]; omega), _, rfl⟩
    · subst hl
      have hl2 := Int.lt_irrefl n
      go_enter Try.func36, Try.ntmps36
      go_wp2
      go_quiet (fail)
      go_wp2
      go_ret
      exact ⟨ret_i (by rw [HT.out]; omega), _, rfl⟩
    · have hl2 : ¬ n < p := by omega
      go_enter Try.func36, Try.ntmps36
      go_wp2
      go_quiet (fail)
      go_wp2
      go_ret
      exact ⟨ret_i (by rw [HT.out]; omega), _, rfl⟩
section
variable {w w' : World} {g tg : Nat} {S : Nat → Prop} {cs : Array Value} {v : Nat → Value} {ks : List Key} {x : Qm}
theorem FQw.time (h : FQw w g tg S cs v ks x) {i : Nat} (hi : i < 8) (hn : 0 ≤ (x.F i).n) {t : Int} (ht : timeF (x.F i) = t) :
    Calls Try.prog 36 #[.pointer (some ⟨g, 9 + i * 5, none⟩)] w fun e w' => e = .returned (.int .u64 t) ∧ ∃ n, w' = w.drewN n :=
  ftime_any g (9 + i * 5) (x.F i).n t (v i) (x.F i).q w (h.next hi) (h.seg hi) (h.q i hi) ht.symm hn
set_option maxHeartbeats 400000 in
theorem FQw.key (h : FQw w g tg S cs v ks x) {i : Nat} (hi : i < 8) (hn : 0 ≤ (x.F i).n) {t : Int} (ht : timeF (x.F i) = t) :
    Calls Try.prog 38 #[.pointer (some ⟨g, 0, none⟩), .int .i64 (i : Int)] w fun e w' => e = .returned (kv ⟨t, (i : Int)⟩) ∧ Keep (fun _ => False) w w' := by
  have HK := Lib.hid ((Keep.refl (fun _ => False) w).alloc (.cells #[.int .u64 0, .int .u64 0] 87))
  have H := Lib.hid (h.kept HK.out)
  have HN := Lib.hid hn; have HT := Lib.hid ht
  have hi8 : (i : Int) < 8 := by omega
  have hw : IntKind.u64.wrap (i : Int) = (i : Int) := by rw [IntKind.wrap_u64]; omega
  have HI := Lib.hid hi
  unfold kv
  clear h hn ht hi
  go_enter Try.func38, Try.ntmps38
  go_wp2_with fail
  refine (H.out.time HI.out HN.out HT.out).mono ?_
  rintro e w1 ⟨rfl, n1, rfl⟩
  go_wp2
  refine bodyPost_ret (v := .agg #[.int .u64 t, .int .u64 (i : Int)]) (by rw [results_cell1 rfl]; go_simp) rfl ?_
  exact ⟨rfl, ((HK.out.drewN n1).setCell (.inr (Nat.le_refl _)) _).setCell (.inr (Nat.le_refl _)) _⟩

set_option maxHeartbeats 1000000 in
theorem FQw.place (h : FQw w g tg S cs v ks x) (hok : LsOk x.N x.O) {i : Nat} (hi : i < 8) (hn : 0 ≤ (x.F i).n) {p : Int} (hp : placeK x ks i = p) :
    Calls Try.prog 29 #[.pointer (some ⟨g, 0, none⟩), .int .i64 (i : Int)] w fun e w' => e = .returned (.int .i64 p) ∧ Keep (fun _ => False) w w' := by
  have H := Lib.hid h; have HI := Lib.hid hi; have HN := Lib.hid hn; have HP := Lib.hid hp; have HOK := Lib.hid hok
  obtain ⟨t, ht⟩ : ∃ t, timeF (x.F i) = t := ⟨_, rfl⟩
  have HT := Lib.hid ht
  have cw : w.drew.cell? ⟨g, 67, none⟩ = some (.pointer (some ⟨tg, 0, none⟩)) := h.wait
  have K0 := Lib.hid (Keep.refl (fun _ => False) w).drew
  clear h hi hn hp hok ht
  go_enter Try.func29, Try.ntmps29
  go_wp2
  go_cut [12] (fun s12 wx => s12 = .bool (decide (keyF x i ∈ ks)) ∧ Keep (fun _ => False) w wx)
  case first =>
    refine wp_region_sch (fun W => W.cell? ⟨g, 67, none⟩ = some (.pointer (some ⟨tg, 0, none⟩))) [(true, 0), (true, 1), (true, 2), (true, 3), (true, 4), (true, 5), (false, 6), (false, 7)] (by kernel_rfl) (by kernel_rfl) (by kernel_rfl) (by kernel_rfl) cw ?_
    generalize w.drew = w0 at *
    (repeat (refine wpSch_yes (v := ?_) rfl (fun _ _ _ h => h) (by rfl) ?_ ?_; rotate_left; (next => (intro w hSw; (try dsimp only at hSw); (have hS1 := hSw); go_simp; (try with_reducible rfl))); (try simp only [Act.put, List.setIfInBounds_toArray, List.set_cons_zero, List.set_cons_succ])))
    refine wpSch_call rfl (by rfl) (fun K hK => ?_); go_simp
    refine ((H.out.kept K0.out).key HI.out HN.out HT.out).mono ?_
    rintro e w1 ⟨rfl, k1⟩
    have K1 := Lib.hid (K0.out.trans k1); clear k1
    refine hK.out _ _ ?_ (fun hHeld => ?_)
    · exact (H.out.kept K1.out).wait
    clear hK K hHeld
    (try simp only [Act.put, List.setIfInBounds_toArray, List.set_cons_zero, List.set_cons_succ])
    refine wpSch_call rfl (by rfl) (fun K hK => ?_); go_simp
    refine (thas_any ⟨t, (i : Int)⟩ w1 (H.out.kept K1.out).tree).mono ?_
    rintro e w2 ⟨rfl, k2⟩
    have K2 := Lib.hid (K1.out.trans k2); clear k2
    refine hK.out _ _ ?_ (fun hHeld => ?_)
    · exact (H.out.kept K2.out).wait
    clear hK K hHeld
    (try simp only [Act.put, List.setIfInBounds_toArray, List.set_cons_zero, List.set_cons_succ])
    refine wpSch_nil ?_
    go_wp2
    go_meet
    exact ⟨by unfold keyF; rw [HT.out], K2.out⟩
  case rest =>
  obtain ⟨rfl, hk⟩ := hcut
  have K2 := Lib.hid hk
  clear hk cw
  by_cases hm : keyF x i ∈ ks
  · have hd : decide (keyF x i ∈ ks) = true := by simpa using hm
    have HM := Lib.hid hm
    rw [hd]
    clear hd hm
    go_wp2
    go_ret
    exact ⟨ret_i (by rw [← HP.out]; unfold placeK; rw [if_pos HM.out]), K2.out⟩
  · have hd : decide (keyF x i ∈ ks) = false := by simpa using hm
    have HM := Lib.hid hm
    rw [hd]
    clear hd hm
    go_wp2_with fail
    refine (place_any _ x.N x.O (i : Int) _ ((H.out.kept K2.out).ls HOK.out).is HOK.out.len1 HOK.out.len2).mono ?_
    rintro e w3 ⟨rfl, k3⟩
    have K3 := Lib.hid (K2.out.trans k3); clear k3
    go_wp2
    go_ret
    exact ⟨ret_i (by rw [← HP.out]; unfold placeK; rw [if_neg HM.out]), K3.out⟩

set_option maxHeartbeats 400000 in
theorem FQw.rested (h : FQw w g tg S cs v ks x) (hok : LsOk x.N x.O) {i : Nat} (hi : i < 8) (hn : 0 ≤ (x.F i).n) (hu : U64 (x.F i).u) (long now : Int) (hl : U64 long) {b : Bool} (hb : (decide (placeK x ks i = 0) && decide (addS (x.F i).u long ≤ now)) = b) :
    Calls Try.prog 47 #[.pointer (some ⟨g, 0, none⟩), .int .i64 (i : Int), .int .u64 long, .int .u64 now] w fun e w' => e = .returned (.bool b) ∧ Keep (fun _ => False) w w' := by
  have H := Lib.hid h; have HI := Lib.hid hi; have HN := Lib.hid hn; have HOK := Lib.hid hok; have HB := Lib.hid hb; have HU := Lib.hid hu; have HL := Lib.hid hl
  have hi8 : (i : Int) < 8 := by omega
  obtain ⟨p, hp⟩ : ∃ p, placeK x ks i = p := ⟨_, rfl⟩
  have HP := Lib.hid hp
  clear h hi hn hok hb hp hu hl
  go_enter Try.func47, Try.ntmps47
  go_wp2_with fail
  refine (H.out.place HOK.out HI.out HN.out HP.out).mono ?_
  rintro e w1 ⟨rfl, k1⟩
  have K1 := Lib.hid k1
  have cu := (H.out.kept k1).since HI.out
  clear k1
  by_cases hp0 : p = 0
  · subst hp0
    have HP0 : decide (placeK x ks i = 0) = true := by simpa using HP.out
    go_wp2_with fail
    refine (add_any (x.F i).u long HU.out.1 HU.out.2 HL.out.1 HL.out.2 w1).mono ?_
    rintro e w2 ⟨rfl, rfl⟩
    obtain ⟨q, hq⟩ : ∃ q, satAdd (x.F i).u long = q := ⟨_, rfl⟩
    have HQ : Hid (addS (x.F i).u long = q) := Lib.hid hq
    rw [hq]
    clear hq
    by_cases hle : q ≤ now
    · have HLE : Hid (q ≤ now) := Lib.hid hle
      go_wp2
      go_ret
      exact ⟨ret_b (by rw [← HB.out, HP0, HQ.out, Bool.true_and]; exact (decide_eq_true HLE.out).symm), K1.out⟩
    · have HLE : Hid (¬ q ≤ now) := Lib.hid hle
      go_wp2
      go_ret
      exact ⟨ret_b (by rw [← HB.out, HP0, HQ.out, Bool.true_and]), K1.out⟩
  · have HP0 : decide (placeK x ks i = 0) = false := by rw [HP.out]; simpa using hp0
    have hz : (p == 0) = false := by simpa using hp0
    clear hp0
    go_wp2
    go_ret
    exact ⟨ret_b (by rw [← HB.out, HP0]; rfl), K1.out⟩
end
end Go.Proofs.Ytoekmdidonnamaa
