/-
  Package fq: what only reads: within, isSock, a flow's time, its key, its place, how long it has rested, the rate. Conditions: the queue lies in memory.
  Package fq: collect: the flows that are nowhere for long are there no more. Conditions: the queue lies in memory.
  A region that draws its order and whose last stores hit what it has loaded ('x = append(x, ..)' of boxed variables), walked in few orders: what is loaded is taken as soon as it may come up; behind the late operations, each of which waits for all that is taken so, nothing more is asked of the world. No program is spoken of. Conditions: those of each theorem.
-/
import Derived.Test.YtnljjdfajmjdjaaJ18
import Derived.Test.YtnljjdfajmjdjaaJ20
import Derived.Test.YtnljjdfajmjdjaaJ09
import Derived.OwnWalk
import Derived.BigQuiet
import Derived.BigRegion
import Derived.Deep.QuietTactic
import Derived.Deep.DeepCutAuto
import Derived.LoopTactic
namespace Go.Proofs.Ytnljjdfajmjdjaa
open Go.RowKit
set_option maxRecDepth 100000

theorem within_any (v a b : Int) (c : Bool) (hc : c = decide (a ≤ v ∧ v ≤ b)) (w : World) :
    Calls Try.prog 34 #[.int .i64 v, .int .i64 a, .int .i64 b] w fun e w' => e = .returned (.bool c) ∧ w = w' := by
  by_cases h1 : a ≤ v
  · by_cases h2 : v ≤ b
    · obtain rfl : c = true := by rw [hc]; simp [h1, h2]
      clear hc
      go_enter Try.func34, Try.ntmps34
      go_wp2
      go_ret
      exact ⟨rfl, rfl⟩
    · obtain rfl : c = false := by rw [hc]; simp [h2]
      clear hc
      go_enter Try.func34, Try.ntmps34
      go_wp2
      go_ret
      exact ⟨rfl, rfl⟩
  · obtain rfl : c = false := by rw [hc]; simp [h1]
    clear hc
    go_enter Try.func34, Try.ntmps34
    go_wp2
    go_ret
    exact ⟨rfl, rfl⟩
theorem issock_any (v : Int) (c : Bool) (hc : c = decide (0 ≤ v ∧ v < 8)) (w : World) :
    Calls Try.prog 33 #[.int .i64 v] w fun e w' => e = .returned (.bool c) ∧ w = w' := by
  have HC : Hid (c = decide (0 ≤ v ∧ v ≤ 7)) := Lib.hid (by rw [hc]; congr 1; apply propext; omega)
  clear hc
  go_enter Try.func33, Try.ntmps33
  go_wp2_with fail
  refine (within_any v 0 7 c HC.out w).mono ?_
  rintro e w' ⟨rfl, rfl⟩
  go_wp2
  go_ret
  exact ⟨rfl, rfl⟩

set_option maxHeartbeats 1000000 in
/-- The time of a flow whose cells lie from B on. -/
theorem ftime_any (g B : Nat) (n t : Int) (v : Value) (l : List Sg) (w : World) (c2 : w.cell? ⟨g, B + 2, none⟩ = some (.int .u64 n)) (c4 : w.cell? ⟨g, B + 4, none⟩ = some v) (h : SgAt w v l) (ht : t = max n (l.headD Sg.zero).t) (hn : 0 ≤ n) :
    Calls Try.prog 45 #[.pointer (some ⟨g, B, none⟩)] w fun e w' => e = .returned (.int .u64 t) ∧ ∃ n, w' = w.drewN n := by
  cases l with
  | nil =>
    obtain ⟨a, cap, rfl, _⟩ := h.shape
    obtain rfl : t = n := by rw [ht]; show max n 0 = n; omega
    clear h ht
    simp only [List.length_nil] at c4
    go_enter Try.func45, Try.ntmps45
    go_wp2
    go_ret
    exact ⟨rfl, 0, rfl⟩
  | cons s r =>
    obtain ⟨b, o, cap, rfl, hc1, hc2, _, _, _, _, c3, _⟩ := h.head
    have ht' : t = max n s.t := ht
    have hz : ((((r.length + 1 : Nat) : Int)) == 0) = false := by simp; omega
    have hz2 : (0 : Int) < ((r.length + 1 : Nat) : Int) := by omega
    generalize s.t = p at *
    generalize r.length + 1 = m at *
    have HT := Lib.hid ht'
    clear h ht ht'
    rcases Int.lt_trichotomy n p with hl | hl | hl
    · have hl2 : ¬ p < n := by omega
      go_enter Try.func45, Try.ntmps45
      go_wp2
      go_quiet (fail)
      go_wp2
      go_ret
      exact ⟨ret_i (by rw [HT.out]; omega), _, rfl⟩
    · subst hl
      have hl2 := Int.lt_irrefl n
      go_enter Try.func45, Try.ntmps45
      go_wp2
      go_quiet (fail)
      go_wp2
      go_ret
      exact ⟨ret_i (by rw [HT.out]; omega), _, rfl⟩
    · have hl2 : ¬ n < p := by omega
      go_enter Try.func45, Try.ntmps45
      go_wp2
      go_quiet (fail)
      go_wp2
      go_ret
      exact ⟨ret_i (by rw [HT.out]; omega), _, rfl⟩
section
variable {w w' : World} {g tg : Nat} {S : Nat → Prop} {cs : Array Value} {v : Nat → Value} {ks : List Key} {x : Qm}
theorem FQw.time (h : FQw w g tg S cs v ks x) {i : Nat} (hi : i < 8) (hn : 0 ≤ (x.F i).n) {t : Int} (ht : timeF (x.F i) = t) :
    Calls Try.prog 45 #[.pointer (some ⟨g, 9 + i * 5, none⟩)] w fun e w' => e = .returned (.int .u64 t) ∧ ∃ n, w' = w.drewN n :=
  ftime_any g (9 + i * 5) (x.F i).n t (v i) (x.F i).q w (h.next hi) (h.seg hi) (h.q i hi) ht.symm hn
set_option maxHeartbeats 400000 in
theorem FQw.key (h : FQw w g tg S cs v ks x) {i : Nat} (hi : i < 8) (hn : 0 ≤ (x.F i).n) {t : Int} (ht : timeF (x.F i) = t) :
    Calls Try.prog 47 #[.pointer (some ⟨g, 0, none⟩), .int .i64 (i : Int)] w fun e w' => e = .returned (kv ⟨t, (i : Int)⟩) ∧ Keep (fun _ => False) w w' := by
  have HK := Lib.hid ((Keep.refl (fun _ => False) w).alloc (.cells #[.int .u64 0, .int .u64 0] 96))
  have H := Lib.hid (h.kept HK.out)
  have HN := Lib.hid hn; have HT := Lib.hid ht
  have hi8 : (i : Int) < 8 := by omega
  have hw : IntKind.u64.wrap (i : Int) = (i : Int) := by rw [IntKind.wrap_u64]; omega
  have HI := Lib.hid hi
  unfold kv
  clear h hn ht hi
  go_enter Try.func47, Try.ntmps47
  go_wp2_with fail
  refine (H.out.time HI.out HN.out HT.out).mono ?_
  rintro e w1 ⟨rfl, n1, rfl⟩
  go_wp2
  refine bodyPost_ret (v := .agg #[.int .u64 t, .int .u64 (i : Int)]) (by rw [results_cell1 rfl]; go_simp) rfl ?_
  exact ⟨rfl, ((HK.out.drewN n1).setCell (.inr (Nat.le_refl _)) _).setCell (.inr (Nat.le_refl _)) _⟩

set_option maxHeartbeats 1000000 in
theorem FQw.place (h : FQw w g tg S cs v ks x) (hok : LsOk x.N x.O) {i : Nat} (hi : i < 8) (hn : 0 ≤ (x.F i).n) {p : Int} (hp : placeK x ks i = p) :
    Calls Try.prog 38 #[.pointer (some ⟨g, 0, none⟩), .int .i64 (i : Int)] w fun e w' => e = .returned (.int .i64 p) ∧ Keep (fun _ => False) w w' := by
  have H := Lib.hid h; have HI := Lib.hid hi; have HN := Lib.hid hn; have HP := Lib.hid hp; have HOK := Lib.hid hok
  obtain ⟨t, ht⟩ : ∃ t, timeF (x.F i) = t := ⟨_, rfl⟩
  have HT := Lib.hid ht
  have cw : w.drew.cell? ⟨g, 67, none⟩ = some (.pointer (some ⟨tg, 0, none⟩)) := h.wait
  have K0 := Lib.hid (Keep.refl (fun _ => False) w).drew
  clear h hi hn hp hok ht
  go_enter Try.func38, Try.ntmps38
  go_wp2
  go_cut [12] (fun s12 wx => s12 = .bool (decide (keyF x i ∈ ks)) ∧ Keep (fun _ => False) w wx)
  case first =>
    refine wp_region_sch (fun W => W.cell? ⟨g, 67, none⟩ = some (.pointer (some ⟨tg, 0, none⟩))) [(true, 0), (true, 1), (true, 2), (true, 3), (true, 4), (true, 5), (false, 6), (false, 7)] (by kernel_rfl) (by kernel_rfl) (by kernel_rfl) (by kernel_rfl) cw ?_
    generalize w.drew = w0 at *
    (repeat (refine wpSch_yes (v := ?_) rfl (fun _ _ _ h => h) (by rfl) ?_ ?_; rotate_left; (next => (intro w hSw; (try dsimp only at hSw); (have hS1 := hSw); go_simp; (try with_reducible rfl))); (try simp only [Act.put, List.setIfInBounds_toArray, List.set_cons_zero, List.set_cons_succ])))
    refine wpSch_call rfl (by rfl) (fun K hK => ?_); go_simp
    refine ((H.out.kept K0.out).key HI.out HN.out HT.out).mono ?_
    rintro e w1 ⟨rfl, k1⟩
    have K1 := Lib.hid (K0.out.trans k1); clear k1
    refine hK.out _ _ ?_ (fun hHeld => ?_)
    · exact (H.out.kept K1.out).wait
    clear hK K hHeld
    (try simp only [Act.put, List.setIfInBounds_toArray, List.set_cons_zero, List.set_cons_succ])
    refine wpSch_call rfl (by rfl) (fun K hK => ?_); go_simp
    refine (thas_any ⟨t, (i : Int)⟩ w1 (H.out.kept K1.out).tree).mono ?_
    rintro e w2 ⟨rfl, k2⟩
    have K2 := Lib.hid (K1.out.trans k2); clear k2
    refine hK.out _ _ ?_ (fun hHeld => ?_)
    · exact (H.out.kept K2.out).wait
    clear hK K hHeld
    (try simp only [Act.put, List.setIfInBounds_toArray, List.set_cons_zero, List.set_cons_succ])
    refine wpSch_nil ?_
    go_wp2
    go_meet
    exact ⟨by unfold keyF; rw [HT.out], K2.out⟩
  case rest =>
  obtain ⟨rfl, hk⟩ := hcut
  have K2 := Lib.hid hk
  clear hk cw
  by_cases hm : keyF x i ∈ ks
  · have hd : decide (keyF x i ∈ ks) = true := by simpa using hm
    have HM := Lib.hid hm
    rw [hd]
    clear hd hm
    go_wp2
    go_ret
    exact ⟨ret_i (by rw [← HP.out]; unfold placeK; rw [if_pos HM.out]), K2.out⟩
  · have hd : decide (keyF x i ∈ ks) = false := by simpa using hm
    have HM := Lib.hid hm
    rw [hd]
    clear hd hm
    go_wp2_with fail
    refine (place_any _ x.N x.O (i : Int) _ ((H.out.kept K2.out).ls HOK.out).is HOK.out.len1 HOK.out.len2).mono ?_
    rintro e w3 ⟨rfl, k3⟩
    have K3 := Lib.hid (K2.out.trans k3); clear k3
    go_wp2
    go_ret
    exact ⟨ret_i (by rw [← HP.out]; unfold placeK; rw [if_neg HM.out]), K3.out⟩

set_option maxHeartbeats 400000 in
theorem FQw.rested (h : FQw w g tg S cs v ks x) (hok : LsOk x.N x.O) {i : Nat} (hi : i < 8) (hn : 0 ≤ (x.F i).n) (hu : U64 (x.F i).u) (long now : Int) (hl : U64 long) {b : Bool} (hb : (decide (placeK x ks i = 0) && decide (addS (x.F i).u long ≤ now)) = b) :
    Calls Try.prog 57 #[.pointer (some ⟨g, 0, none⟩), .int .i64 (i : Int), .int .u64 long, .int .u64 now] w fun e w' => e = .returned (.bool b) ∧ Keep (fun _ => False) w w' := by
  have H := Lib.hid h; have HI := Lib.hid hi; have HN := Lib.hid hn; have HOK := Lib.hid hok; have HB := Lib.hid hb; have HU := Lib.hid hu; have HL := Lib.hid hl
  have hi8 : (i : Int) < 8 := by omega
  obtain ⟨p, hp⟩ : ∃ p, placeK x ks i = p := ⟨_, rfl⟩
  have HP := Lib.hid hp
  clear h hi hn hok hb hp hu hl
  go_enter Try.func57, Try.ntmps57
  go_wp2_with fail
  refine (H.out.place HOK.out HI.out HN.out HP.out).mono ?_
  rintro e w1 ⟨rfl, k1⟩
  have K1 := Lib.hid k1
  have cu := (H.out.kept k1).since HI.out
  clear k1
  by_cases hp0 : p = 0
  · subst hp0
    have HP0 : decide (placeK x ks i = 0) = true := by simpa using HP.out
    go_wp2_with fail
    refine (add_any (x.F i).u long HU.out.1 HU.out.2 HL.out.1 HL.out.2 w1).mono ?_
    rintro e w2 ⟨rfl, rfl⟩
    obtain ⟨q, hq⟩ : ∃ q, satAdd (x.F i).u long = q := ⟨_, rfl⟩
    have HQ : Hid (addS (x.F i).u long = q) := Lib.hid hq
    rw [hq]
    clear hq
    by_cases hle : q ≤ now
    · have HLE : Hid (q ≤ now) := Lib.hid hle
      go_wp2
      go_ret
      exact ⟨ret_b (by rw [← HB.out, HP0, HQ.out, Bool.true_and]; exact (decide_eq_true HLE.out).symm), K1.out⟩
    · have HLE : Hid (¬ q ≤ now) := Lib.hid hle
      go_wp2
      go_ret
      exact ⟨ret_b (by rw [← HB.out, HP0, HQ.out, Bool.true_and]), K1.out⟩
  · have HP0 : decide (placeK x ks i = 0) = false := by rw [HP.out]; simpa using hp0
    have hz : (p == 0) = false := by simpa using hp0
    clear hp0
    go_wp2
    go_ret
    exact ⟨ret_b (by rw [← HB.out, HP0]; rfl), K1.out⟩
end
end Go.Proofs.Ytnljjdfajmjdjaa
namespace Go.Proofs.Ytnljjdfajmjdjaa
open Go.RowKit
set_option maxRecDepth 100000

/-! ### Five cells at once -/
def set5 (cs : Array Value) (o : Nat) (a b c d e : Value) : Array Value := ((((cs.setIfInBounds o a).setIfInBounds (o + 1) b).setIfInBounds (o + 2) c).setIfInBounds (o + 3) d).setIfInBounds (o + 4) e
theorem set5_size (cs : Array Value) (o : Nat) (a b c d e : Value) : (set5 cs o a b c d e).size = cs.size := by simp [set5]
theorem set5_ne (cs : Array Value) (o : Nat) (a b c d e : Value) {j : Nat} (h : j < o ∨ o + 5 ≤ j) : (set5 cs o a b c d e)[j]? = cs[j]? := by
  unfold set5
  rw [Array.getElem?_setIfInBounds_ne (by omega), Array.getElem?_setIfInBounds_ne (by omega), Array.getElem?_setIfInBounds_ne (by omega), Array.getElem?_setIfInBounds_ne (by omega), Array.getElem?_setIfInBounds_ne (by omega)]
theorem set5_at (cs : Array Value) (o : Nat) (a b c d e : Value) (h : o + 5 ≤ cs.size) :
    (set5 cs o a b c d e)[o]? = some a ∧ (set5 cs o a b c d e)[o + 1]? = some b ∧ (set5 cs o a b c d e)[o + 2]? = some c ∧ (set5 cs o a b c d e)[o + 3]? = some d ∧ (set5 cs o a b c d e)[o + 4]? = some e := by
  unfold set5
  refine ⟨?_, ?_, ?_, ?_, ?_⟩
  · rw [Array.getElem?_setIfInBounds_ne (by omega), Array.getElem?_setIfInBounds_ne (by omega), Array.getElem?_setIfInBounds_ne (by omega), Array.getElem?_setIfInBounds_ne (by omega), Array.getElem?_setIfInBounds_self_of_lt (by omega)]
  · rw [Array.getElem?_setIfInBounds_ne (by omega), Array.getElem?_setIfInBounds_ne (by omega), Array.getElem?_setIfInBounds_ne (by omega), Array.getElem?_setIfInBounds_self_of_lt (by simp; omega)]
  · rw [Array.getElem?_setIfInBounds_ne (by omega), Array.getElem?_setIfInBounds_ne (by omega), Array.getElem?_setIfInBounds_self_of_lt (by simp; omega)]
  · rw [Array.getElem?_setIfInBounds_ne (by omega), Array.getElem?_setIfInBounds_self_of_lt (by simp; omega)]
  · rw [Array.getElem?_setIfInBounds_self_of_lt (by simp; omega)]
def put5 (w : World) (g o : Nat) (a b c d e : Value) : World := ((((w.setCell ⟨g, o, none⟩ a).setCell ⟨g, o + 1, none⟩ b).setCell ⟨g, o + 2, none⟩ c).setCell ⟨g, o + 3, none⟩ d).setCell ⟨g, o + 4, none⟩ e
theorem Whole.put5 {w : World} {g : Nat} {t : TypeId} {cs : Array Value} (h : Whole w g t cs) (o : Nat) (a b c d e : Value) : Whole (put5 w g o a b c d e) g t (set5 cs o a b c d e) :=
  ((((h.put o a).put (o + 1) b).put (o + 2) c).put (o + 3) d).put (o + 4) e
theorem keep_put5 (w : World) (g o : Nat) (a b c d e : Value) : Keep (fun k => k = g) w (put5 w g o a b c d e) :=
  (((((Keep.refl (fun k => k = g) w).setCell (.inl rfl) _).setCell (.inl rfl) _).setCell (.inl rfl) _).setCell (.inl rfl) _).setCell (.inl rfl) _
section
variable {w w' : World} {g tg : Nat} {S : Nat → Prop} {cs : Array Value} {v : Nat → Value} {ks : List Key} {x : Qm}
/-- A flow is there no more. -/
theorem FQw.zero (h : FQw w g tg S cs v ks x) {i : Nat} (hi : i < 8) :
    FQw (put5 w g (9 + i * 5) (.bool false) (.int .i64 0) (.int .u64 0) (.int .u64 0) (.slice none 0 0)) g tg S (set5 cs (9 + i * 5) (.bool false) (.int .i64 0) (.int .u64 0) (.int .u64 0) (.slice none 0 0)) (upF v i (.slice none 0 0)) ks { x with F := upF x.F i Fl.zero, T := upF x.T i false } := by
  have hs := h.c.size
  obtain ⟨q0, q1, q2, q3, q4⟩ := set5_at cs (9 + i * 5) (.bool false) (.int .i64 0) (.int .u64 0) (.int .u64 0) (.slice none 0 0) (by omega)
  refine h.segs hi (R := fun k => k = g) (h.whole.put5 _ _ _ _ _ _) (keep_put5 _ _ _ _ _ _ _ _) (fun k e => .inl e) (h.c.turn hi (set5_size _ _ _ _ _ _ _) (fun j hj => ?_) (fun j hj => set5_ne _ _ _ _ _ _ _ hj)) (SgAt.nil _) (fun k e => by cases e)
  match j, hj with
  | 0, _ => exact q0
  | 1, _ => exact q1
  | 2, _ => exact q2
  | 3, _ => exact q3
  | 4, _ => exact q4
/-- The first k flows have been looked at. -/
def collK (x : Qm) (now : Int) (k : Nat) : Qm := { x with F := fun i => if i < k ∧ deadF x now i = true then Fl.zero else x.F i, T := fun i => if i < k ∧ deadF x now i = true then false else x.T i }
theorem collK_at (x : Qm) (now : Int) (k : Nat) : (collK x now k).F k = x.F k ∧ (collK x now k).T k = x.T k := by
  unfold collK
  exact ⟨by dsimp only; rw [if_neg (by omega)], by dsimp only; rw [if_neg (by omega)]⟩
theorem collK_zero (x : Qm) (now : Int) : Seen x (collK x now 0) :=
  ⟨rfl, rfl, rfl, fun i _ => by simp [collK], fun i _ => by simp [collK], fun i _ => by simp [collK], fun i _ => by simp [collK], fun i _ => by simp [collK]⟩
theorem seen_of {x y : Qm} (hc : y.c = x.c) (hN : y.N = x.N) (hO : y.O = x.O) (hT : ∀ i, i < 8 → y.T i = x.T i) (hF : ∀ i, i < 8 → y.F i = x.F i) : Seen x y :=
  ⟨hc, hN, hO, hT, fun i hi => by rw [hF i hi], fun i hi => by rw [hF i hi], fun i hi => by rw [hF i hi], fun i hi => by rw [hF i hi]⟩
theorem collK_eight (x : Qm) (now : Int) : Seen (collK x now 8) (collQ x now) := by
  refine seen_of rfl rfl rfl (fun i hi => ?_) (fun i hi => ?_)
  · unfold collK collQ
    dsimp only
    by_cases hd : deadF x now i = true
    · rw [if_pos ⟨hi, hd⟩, hd]; simp
    · rw [if_neg (fun h => hd h.2)]; simp [hd]
  · unfold collK collQ
    dsimp only
    by_cases hd : deadF x now i = true
    · simp [hd, hi]
    · simp [hd]
theorem collK_no {x : Qm} {now : Int} {k : Nat} (h : deadF x now k = false) : Seen (collK x now k) (collK x now (k + 1)) := by
  refine seen_of rfl rfl rfl (fun i hi => ?_) (fun i hi => ?_)
  all_goals
    unfold collK
    dsimp only
    by_cases e : i = k
    · subst e; rw [h]; simp
    · have : (i < k + 1) = (i < k) := by apply propext; omega
      simp only [this]
theorem collK_yes {x : Qm} (hx : x.Ok) {now : Int} {k : Nat} (hk : k < 8) (h : x.T k = false ∨ deadF x now k = true) : Seen { collK x now k with F := upF (collK x now k).F k Fl.zero, T := upF (collK x now k).T k false } (collK x now (k + 1)) := by
  refine seen_of rfl rfl rfl (fun i hi => ?_) (fun i hi => ?_)
  all_goals
    dsimp only
    by_cases e : i = k
    · subst e
      rw [upF_at]
      unfold collK
      dsimp only
      by_cases hd : deadF x now i = true
      · rw [if_pos ⟨by omega, hd⟩]
      · rw [if_neg (fun h => hd h.2)]
        have ht := h.resolve_right hd
        first
          | exact ht
          | exact hx.no i hk ht
    · rw [upF_ne _ _ e]
      unfold collK
      dsimp only
      have : (i < k + 1) = (i < k) := by apply propext; omega
      simp only [this]
theorem ks_coll {x : Qm} {ks : List Key} (h : KsOf x ks) (now : Int) : KsOf (collQ x now) ks := fun k => by
  rw [h]
  have hd : ∀ i : Nat, (x.F i).p = 3 → deadF x now i = false := fun i hp => by unfold deadF; rw [hp]; simp
  constructor
  · rintro ⟨i, hi, h1, h2, h3⟩
    refine ⟨i, hi, ?_, ?_, ?_⟩
    · unfold collQ; dsimp only; rw [hd i h2, h1]; rfl
    · unfold collQ; dsimp only; rw [hd i h2]; exact h2
    · unfold keyF collQ; dsimp only; rw [hd i h2]; exact h3
  · rintro ⟨i, hi, h1, h2, h3⟩
    have hdi : deadF x now i = false := by
      cases hb : deadF x now i with
      | false => rfl
      | true => unfold collQ at h1; dsimp only at h1; rw [hb] at h1; simp at h1
    unfold keyF collQ at h3; unfold collQ at h1 h2
    dsimp only at h1 h2 h3
    rw [hdi] at h1 h2 h3
    exact ⟨i, hi, by simpa using h1, h2, h3⟩
theorem rested_dead {x : Qm} {ks : List Key} (hx : x.Ok) (hk : KsOf x ks) {k : Nat} (h8 : k < 8) (now : Int) {b : Bool} (hb : (decide (placeK x ks k = 0) && decide (addS (x.F k).u 3000000000 ≤ now)) = b) :
    (b = true → x.T k = false ∨ deadF x now k = true) ∧ (b = false → deadF x now k = false) := by
  rw [placeK_is hx hk h8] at hb
  unfold deadF
  cases ht : x.T k with
  | false => exact ⟨fun _ => .inl rfl, fun _ => by simp⟩
  | true =>
    rw [ht, if_pos rfl] at hb
    subst hb
    refine ⟨fun h => .inr ?_, fun h => ?_⟩
    · simp only [Bool.and_eq_true, decide_eq_true_eq] at h
      simp [h.1, h.2]
    · cases hp : decide ((x.F k).p = 0) with
      | false =>
        have : ¬ (x.F k).p = 0 := by simpa using hp
        simp [this]
      | true =>
        rw [hp] at h
        simp only [Bool.true_and, decide_eq_false_iff_not] at h
        simp [h]

set_option maxRecDepth 100000 in
set_option maxHeartbeats 2000000 in
theorem FQat.collect (h : FQat w g tg S cs v ks x) (now : Int) :
    Calls Try.prog 35 #[.pointer (some ⟨g, 0, none⟩), .int .u64 now] w fun e w' => (∃ u, e = .returned u) ∧ ∃ cs' v', FQat w' g tg S cs' v' ks (collQ x now) ∧ Keep (fun k => k = g) w w' ∧ ∀ i k, i < 8 → (v' i).ownBlock = some k → (v i).ownBlock = some k := by
  have H := Lib.hid h
  clear h
  go_enter Try.func35, Try.ntmps35
  go_wp2
  go_loopw [5] (fun i wr => ∃ (k : Nat) (cs' : Array Value) (v' : Nat → Value), k ≤ 8 ∧ i = .int .i64 k ∧ FQw wr g tg S cs' v' ks (collK x now k) ∧ Keep (fun k => k = g) w wr ∧ ∀ i k, i < 8 → (v' i).ownBlock = some k → (v i).ownBlock = some k) (fun i _ => 8 - (intOf i).toNat)
  case atStart => exact ⟨0, cs, v, by omega, rfl, H.out.w.seen (collK_zero x now), Keep.refl _ _, fun _ _ _ h => h⟩
  case round =>
    obtain ⟨k, cs', v', hk, rfl, hq, hkp, hv⟩ := hrel
    have HQ := Lib.hid hq; have HK := Lib.hid hkp; have HV := Lib.hid hv
    clear hq hkp hv
    by_cases hlt : k < 8
    · have hi1 : (k : Int) < 8 := by omega
      have HI := Lib.hid hlt
      have hat := collK_at x now k
      have hun : U64 ((collK x now k).F k).u ∧ 0 ≤ ((collK x now k).F k).n := by
        rw [hat.1]
        cases ht : x.T k with
        | true => exact ⟨(H.out.ok.is k hlt ht).hu, (H.out.ok.is k hlt ht).hn.1⟩
        | false => rw [H.out.ok.no k hlt ht]; exact ⟨⟨by decide, by decide⟩, by decide⟩
      have HUN := Lib.hid hun
      obtain ⟨b, hb⟩ : ∃ b, (decide (placeK (collK x now k) ks k = 0) && decide (addS ((collK x now k).F k).u 3000000000 ≤ now)) = b := ⟨_, rfl⟩
      have HB := Lib.hid hb
      have hpl : placeK (collK x now k) ks k = placeK x ks k := by unfold placeK keyF; rw [hat.1]; rfl
      rw [hpl, hat.1] at hb
      have HD := Lib.hid (rested_dead H.out.ok H.out.ks hlt now hb)
      clear hat hun hb hpl hlt
      go_wp2_with fail
      refine (HQ.out.rested H.out.ok.ls HI.out HUN.out.2 HUN.out.1 3000000000 now ⟨by decide, by decide⟩ HB.out).mono ?_
      rintro e w2 ⟨rfl, k2⟩
      have HQ2 := Lib.hid (HQ.out.kept k2)
      have HK2 := Lib.hid (HK.out.trans (k2.mono (fun _ h => h.elim)))
      clear k2 HQ HK
      cases b with
      | true =>
        have HS := Lib.hid (collK_yes H.out.ok HI.out (HD.out.1 rfl))
        obtain ⟨sa, scap, hsv, _⟩ := (HQ2.out.q k HI.out).shape
        have c0 := HQ2.out.there HI.out; have c1 := HQ2.out.credit HI.out; have c2 := HQ2.out.next HI.out; have c3 := HQ2.out.since HI.out; have c4 := HQ2.out.seg HI.out
        rw [hsv] at c4
        have f0 := HQ2.out.whole.free (9 + k * 5); have f1 := HQ2.out.whole.free (9 + k * 5 + 1); have f2 := HQ2.out.whole.free (9 + k * 5 + 2); have f3 := HQ2.out.whole.free (9 + k * 5 + 3); have f4 := HQ2.out.whole.free (9 + k * 5 + 4)
        clear hsv
        go_wp2
        go_roundw
        case rel =>
          refine ⟨k + 1, _, _, by omega, by go_num, (HQ2.out.zero HI.out).seen HS.out, HK2.out.trans (keep_put5 _ _ _ _ _ _ _ _), fun i k' hi e => ?_⟩
          by_cases e1 : i = k
          · subst e1; rw [upF_at] at e; cases e
          · rw [upF_ne _ _ e1] at e; exact HV.out i k' hi e
        case measure => simp [intOf]; omega
      | false =>
        have HS := Lib.hid (collK_no (HD.out.2 rfl))
        go_wp2
        go_roundw
        case rel => exact ⟨k + 1, _, _, by omega, by go_num, HQ2.out.seen HS.out, HK2.out, HV.out⟩
        case measure => simp [intOf]; omega
    · obtain rfl : k = 8 := by omega
      clear hlt
      go_wp2
      go_end0
      exact ⟨⟨_, rfl⟩, _, _, ⟨HQ.out.seen (collK_eight x now), coll_ok H.out.ok now, ks_coll H.out.ks now⟩, HK.out, HV.out⟩
end
end Go.Proofs.Ytnljjdfajmjdjaa
namespace Go.Proofs.Ytnljjdfajmjdjaa

section
variable {P : Program} {ops : List Oper} {Q : Exit → Act → World → Prop} {S : World → Prop} {late : List Nat}

def wpAnyL (P : Program) (ops : List Oper) (Q : Exit → Act → World → Prop) (S : World → Prop) (late : List Nat) : Nat → Array Bool → Act → World → Prop
  | 0, listed, a, w => Region.ready .any ops.toArray listed = [] ∧ Q .normal a w
  | fuel + 1, listed, a, w => (Region.ready .any ops.toArray listed = [] → Q .normal a w) ∧
      ∀ i ∈ Region.ready .any ops.toArray listed, wpOp P ops.toArray Q i (fun a' w' => (late.contains i = false → S w') ∧ wpAnyL P ops Q S late fuel (listed.setIfInBounds i true) a' w') a w

theorem wpAny_of_late : ∀ (fuel : Nat) (listed : Array Bool) (a : Act) (w : World), wpAnyL P ops Q S late fuel listed a w → wpAny P .any ops.toArray Q fuel listed a w
  | 0, _, _, _, h => h
  | fuel + 1, _, _, _, h => ⟨h.1, fun i hi => wpOp_mono (fun a' w' h' => wpAny_of_late fuel _ a' w' h'.2) (h.2 i hi)⟩

/-- Does number j wait for number i, be it by others? -/
def waits (ops : List Oper) (i : Nat) : Nat → Nat → Bool
  | 0, _ => false
  | n + 1, j => match nthOp ops j with
    | none => false
    | some o => o.after.toList.any fun e => Region.binds .any e && (e.on == i || waits ops i n e.on)
/-- Whatever has come up, what it waits for has. -/
def Down (ops : List Oper) (L : Array Bool) : Prop := ∀ j o, ops.toArray[j]? = some o → L.getD j false = true → ∀ e ∈ o.after, Region.binds .any e = true → L.getD e.on false = true
theorem waits_down {L : Array Bool} (hd : Down ops L) {i : Nat} : ∀ (n j : Nat) (o : Oper), ops.toArray[j]? = some o → (∀ e ∈ o.after, Region.binds .any e = true → L.getD e.on false = true) → waits ops i n j = true → L.getD i false = true
  | 0, _, _, _, _, h => by simp [waits] at h
  | n + 1, j, o, ho, hall, h => by
    rw [nthOp_get] at ho
    simp only [waits, ho, List.any_eq_true, Bool.and_eq_true, Bool.or_eq_true, beq_iff_eq] at h
    obtain ⟨e, he, hb, h⟩ := h
    have he' : e ∈ o.after := by simpa using he
    have hl := hall e he' hb
    rcases h with rfl | h
    · exact hl
    · cases hx : ops.toArray[e.on]? with
      | none =>
        rw [nthOp_get] at hx
        cases n with
        | zero => simp [waits] at h
        | succ n => simp [waits, hx] at h
      | some o' => exact waits_down hd n e.on o' hx (hd _ _ hx hl) h
theorem Down.start (n : Nat) : Down ops (Array.replicate n false) := fun j o _ h => by
  by_cases hj : j < n
  · simp [hj] at h
  · simp [hj] at h
theorem Down.set {L : Array Bool} (hd : Down ops L) {j : Nat} (hj : j ∈ Region.ready .any ops.toArray L) : Down ops (L.setIfInBounds j true) := fun k o hk h e he hb => by
  by_cases hjk : j = k
  · subst hjk
    obtain ⟨_, o', ho', hall⟩ := mem_ready.1 hj
    rw [ho'] at hk; cases hk
    exact getD_set_true (hall e he hb)
  · rw [getD_set_ne false hjk] at h
    exact getD_set_true (hd k o hk h e he hb)
theorem not_listed {L : Array Bool} {i : Nat} (hi : i ∈ Region.ready .any ops.toArray L) : L.getD i false = false := by
  have h := (mem_ready.1 hi).1
  by_cases hj : i < L.size
  · simpa [hj] using h
  · simp [hj] at h

theorem wpAnyL_first {i : Nat} {oi : Oper} {v : Value} (hi : ops.toArray[i]? = some oi) (hsel : ∀ (j : Nat) (o : Oper) cs b, ops.toArray[j]? = some o → o.op ≠ .select cs b)
    (hQ : ∀ c a w, Q (.panic c) (a.put oi.dst v) w → Q (.panic c) a w) {n : Nat} (hw : ∀ j ∈ late, waits ops i n j = true) :
    ∀ (fuel : Nat) (L : Array Bool) (a : Act) (w : World), Down ops L →
      (∀ j oj, ops.toArray[j]? = some oj → j ≠ i → L.getD j true = false → (∀ e ∈ oj.after, Region.binds .any e = true → e.on ≠ i) → oi.apart ops.toArray oj = true) →
      i ∈ Region.ready .any ops.toArray L → YieldsIf P ops.toArray S oi v a → S w →
      wpAnyL P ops Q S late fuel (L.setIfInBounds i true) (a.put oi.dst v) w → wpAnyL P ops Q S late (fuel + 1) L a w := by
  intro fuel
  induction fuel with
  | zero =>
    intro L a w _ _ hr hy hS H
    refine ⟨fun h => (by rw [h] at hr; cases hr), fun j hj => ?_⟩
    by_cases hji : j = i
    · subst hji; exact hy.wpOp hi hS ⟨fun _ => hS, H⟩
    · have h0 := ready_mono hj hji
      rw [H.1] at h0
      cases h0
  | succ fuel ih =>
    intro L a w hd hfree hr hy hS H
    refine ⟨fun h => (by rw [h] at hr; cases hr), fun j hj => ?_⟩
    by_cases hji : j = i
    · subst hji; exact hy.wpOp hi hS ⟨fun _ => hS, H⟩
    obtain ⟨hjun, oj, hoj, hall⟩ := mem_ready.1 hj
    have hun := not_listed hr
    have hnl : late.contains j = false := by
      cases hc : late.contains j with
      | false => rfl
      | true =>
        have := waits_down hd n j oj hoj hall (hw j (by simpa using hc))
        rw [hun] at this; cases this
    have hnot : ∀ e ∈ oj.after, Region.binds .any e = true → e.on ≠ i := fun e he hb heq => by
      have h1 := hall e he hb
      rw [heq, hun] at h1; cases h1
    have h2 := wpOp_putIf hoj (hfree j oj hoj hji hjun hnot) (fun cs b => hsel i oi cs b hi) (fun cs b => hsel j oj cs b hoj) hQ hy (H.2 j (ready_mono hj hji))
    refine wpOp_mono (fun a' w' h3 => ⟨h3.2.1, ih _ a' w' (hd.set hj) (fun k ok hk hki hun' hno => hfree k ok hk hki ?_ hno) (ready_mono hr (Ne.symm hji)) h3.1 (h3.2.1 hnl) ?_⟩) h2
    · by_cases hjk : j = k
      · subst hjk; exact hjun
      · rwa [getD_set_ne true hjk] at hun'
    · rw [Array.setIfInBounds_comm _ _ hji]; exact h3.2.2

def early (late : List Nat) (L : Array Bool) : Bool := late.all fun j => !(L.getD j false)
def schOKL (ops : List Oper) (late : List Nat) : Sch → Array Bool → Bool
  | .nil, L => (Region.ready .any ops.toArray L).isEmpty
  | .yes i r, L => early late L && (late.all fun j => waits ops i ops.length j) && (Region.ready .any ops.toArray L).contains i && Region.free .any ops.toArray L i && schOKL ops late r (L.setIfInBounds i true)
  | .one i r, L => (Region.ready .any ops.toArray L == [i]) && schOKL ops late r (L.setIfInBounds i true)
  | .two i r j s, L => (Region.ready .any ops.toArray L == [i, j]) && schOKL ops late r (L.setIfInBounds i true) && schOKL ops late s (L.setIfInBounds j true)
def wpOneL (P : Program) (ops : List Oper) (Q : Exit → Act → World → Prop) (S : World → Prop) (late : List Nat) (i : Nat) (R : Act → World → Prop) (a : Act) (w : World) : Prop :=
  ∃ o, nthOp ops i = some o ∧ ∀ K' : Act → World → Prop, Shut (∀ a w, (late.contains i = false → S w) → ((late.contains i = false → S w) → R a w) → K' a w) →
      if Region.wanted o (yielded ops.toArray a.tmps) = true then Oper.wp P o a w K' Q else K' (a.put o.dst undef) w
def wpSchL (P : Program) (ops : List Oper) (Q : Exit → Act → World → Prop) (S : World → Prop) (late : List Nat) : Sch → Act → World → Prop
  | .nil, a, w => Q .normal a w
  | .yes i r, a, w => ∃ o v, nthOp ops i = some o ∧ (∀ c a w, Q (.panic c) (a.put o.dst v) w → Q (.panic c) a w) ∧ YieldsIf P ops.toArray S o v a ∧ wpSchL P ops Q S late r (a.put o.dst v) w
  | .one i r, a, w => wpOneL P ops Q S late i (wpSchL P ops Q S late r) a w
  | .two i r j s, a, w => wpOneL P ops Q S late i (wpSchL P ops Q S late r) a w ∧ wpOneL P ops Q S late j (wpSchL P ops Q S late s) a w

theorem wpOp_of_oneL {i : Nat} {a : Act} {w : World} {R R' : Act → World → Prop} (h : wpOneL P ops Q S late i R a w) (hR : ∀ a w, (late.contains i = false → S w) → R a w → R' a w) :
    wpOp P ops.toArray Q i (fun a' w' => (late.contains i = false → S w') ∧ R' a' w') a w := by
  obtain ⟨o, ho, h⟩ := h
  unfold wpOp
  rw [nthOp_get, ho]
  have := h (fun a' w' => (late.contains i = false → S w') ∧ R' a' w') (fun a w hs hr => ⟨hs, hR a w hs (hr hs)⟩)
  dsimp only
  split
  · rename_i hw; rw [if_pos hw] at this; exact .inl this
  · rename_i hw; rw [if_neg hw] at this; exact this

theorem early_set {L : Array Bool} {i : Nat} (hi : i ∈ Region.ready .any ops.toArray L) (h : early late (L.setIfInBounds i true) = true) : late.contains i = false := by
  cases hc : late.contains i with
  | false => rfl
  | true =>
    have hm : i ∈ late := by simpa using hc
    have h1 := List.all_eq_true.1 h i hm
    have hlt : i < L.size := by
      have h := (mem_ready.1 hi).1
      by_cases hj : i < L.size
      · exact hj
      · simp [hj] at h
    simp [hlt] at h1

theorem wpAnyL_of_sch (hs : Region.noSelect ops.toArray = true) : ∀ (l : Sch) (fuel : Nat) (L : Array Bool) (a : Act) (w : World), l.len ≤ fuel → schOKL ops late l L = true → Down ops L → (early late L = true → S w) → wpSchL P ops Q S late l a w → wpAnyL P ops Q S late fuel L a w
  | .nil, fuel, L, a, w, _, hc, _, _, h => by
    have hr : Region.ready .any ops.toArray L = [] := by simpa [schOKL] using hc
    cases fuel with
    | zero => exact ⟨hr, h⟩
    | succ n => exact ⟨fun _ => h, by rw [hr]; simp⟩
  | .yes _ _, 0, _, _, _, hf, _, _, _, _ => by simp [Sch.len] at hf
  | .one _ _, 0, _, _, _, hf, _, _, _, _ => by simp [Sch.len] at hf
  | .two _ _ _ _, 0, _, _, _, hf, _, _, _, _ => by simp [Sch.len] at hf
  | .yes i r, fuel + 1, L, a, w, hf, hc, hd, hS, h => by
    obtain ⟨o, v, ho, hQ, hy, h⟩ := h
    simp only [schOKL, Bool.and_eq_true] at hc
    obtain ⟨⟨⟨⟨c1, c2⟩, c3⟩, c4⟩, c5⟩ := hc
    have hr : i ∈ Region.ready .any ops.toArray L := by simpa using c3
    have hi : ops.toArray[i]? = some o := by rw [nthOp_get, ho]
    exact wpAnyL_first hi (Region.noSelect_spec hs) hQ (fun j hj => List.all_eq_true.1 c2 j hj) fuel L a w hd (Region.free_spec hi c4) hr hy (hS c1)
      (wpAnyL_of_sch hs r fuel _ _ _ (by simp [Sch.len] at hf; omega) c5 (hd.set hr) (fun _ => hS c1) h)
  | .one i r, fuel + 1, L, a, w, hf, hc, hd, hS, h => by
    simp only [schOKL, Bool.and_eq_true, beq_iff_eq] at hc
    refine ⟨fun h0 => (by rw [hc.1] at h0; cases h0), fun j hj => ?_⟩
    have hj0 := hj
    rw [hc.1, List.mem_singleton] at hj
    subst hj
    exact wpOp_of_oneL h (fun a w hs' h => wpAnyL_of_sch hs r fuel _ _ _ (by simp [Sch.len] at hf; omega) hc.2 (hd.set hj0) (fun he => hs' (early_set hj0 he)) h)
  | .two i r j s, fuel + 1, L, a, w, hf, hc, hd, hS, h => by
    simp only [schOKL, Bool.and_eq_true, beq_iff_eq] at hc
    refine ⟨fun h0 => (by rw [hc.1.1] at h0; cases h0), fun k hk => ?_⟩
    have hk0 := hk
    rw [hc.1.1] at hk
    simp only [List.mem_cons, List.not_mem_nil, or_false] at hk
    rcases hk with rfl | rfl
    · exact wpOp_of_oneL h.1 (fun a w hs' h => wpAnyL_of_sch hs r fuel _ _ _ (by simp [Sch.len] at hf; omega) hc.1.2 (hd.set hk0) (fun he => hs' (early_set hk0 he)) h)
    · exact wpOp_of_oneL h.2 (fun a w hs' h => wpAnyL_of_sch hs s fuel _ _ _ (by simp [Sch.len] at hf; omega) hc.2 (hd.set hk0) (fun he => hs' (early_set hk0 he)) h)

/-- The beginning. -/
theorem wp_region_late (S : World → Prop) (late : List Nat) (l : Sch) {id : Nat} {a : Act} {w : World} (hm : P.follows .mixedOrders = true) (hs : Region.noSelect ops.toArray = true) (hl : Nat.ble l.len ops.toArray.size = true)
    (hc : schOKL ops late l (Array.replicate ops.toArray.size false) = true) (hS : S w.drew) (h : wpSchL P ops Q S late l a w.drew) : (Code.region id ops.toArray true).wp P Q a w :=
  wp_region_any hm (wpAny_of_late (S := S) (late := late) _ _ _ _ (wpAnyL_of_sch hs l _ _ _ _ (Nat.le_of_ble_eq_true hl) hc (Down.start _) (fun _ => hS) h))

theorem wpSchL_nil {a : Act} {w : World} (h : Q .normal a w) : wpSchL P ops Q S late .nil a w := h
theorem wpSchL_yes {i : Nat} {r : Sch} {a : Act} {w : World} {o : Oper} {v : Value} (ho : nthOp ops i = some o) (hQ : ∀ c a w, Q (.panic c) (a.put o.dst v) w → Q (.panic c) a w)
    (hw : Region.wanted o (yielded ops.toArray a.tmps) = true) (hy : ∀ w, S w → (execOp a.eval o).run P w = .ok (.value v) w) (h : wpSchL P ops Q S late r (a.put o.dst v) w) : wpSchL P ops Q S late (.yes i r) a w :=
  ⟨o, v, ho, hQ, .inl ⟨hw, hy⟩, h⟩
theorem wpOneL_call {i : Nat} {R : Act → World → Prop} {a : Act} {w : World} {o : Oper} (ho : nthOp ops i = some o)
    (hw : Region.wanted o (yielded ops.toArray a.tmps) = true) (h : ∀ K' : Act → World → Prop, Shut (∀ a w, (late.contains i = false → S w) → ((late.contains i = false → S w) → R a w) → K' a w) → Oper.wp P o a w K' Q) : wpOneL P ops Q S late i R a w :=
  ⟨o, ho, fun K hK => by rw [if_pos hw]; exact h K hK⟩
theorem wpSchL_one {i : Nat} {r : Sch} {a : Act} {w : World} (h : wpOneL P ops Q S late i (wpSchL P ops Q S late r) a w) : wpSchL P ops Q S late (.one i r) a w := h
theorem wpSchL_two {i j : Nat} {r s : Sch} {a : Act} {w : World} (h : wpOneL P ops Q S late i (wpSchL P ops Q S late r) a w) (h' : wpOneL P ops Q S late j (wpSchL P ops Q S late s) a w) : wpSchL P ops Q S late (.two i r j s) a w := ⟨h, h'⟩
end
end Go.Proofs.Ytnljjdfajmjdjaa
