/-
  Package fq: collect: the flows that are nowhere for long are there no more. Conditions: the queue lies in memory.
-/
import Derived.Test.YtoekmdidonnamaaFqWk
import Derived.Test.YtoekmdidonnamaaFqAsk
import Derived.LoopTactic
namespace Go.Proofs.Ytoekmdidonnamaa
open Go.RowKit
set_option maxRecDepth 100000

/-! ### Five cells at once -/
def set5 (cs : Array Value) (o : Nat) (a b c d e : Value) : Array Value := ((((cs.setIfInBounds o a).setIfInBounds (o + 1) b).setIfInBounds (o + 2) c).setIfInBounds (o + 3) d).setIfInBounds (o + 4) e
theorem set5_size (cs : Array Value) (o : Nat) (a b c d e : Value) : (set5 cs o a b c d e).size = cs.size := by simp [set5]
theorem set5_ne (cs : Array Value) (o : Nat) (a b c d e : Value) {j : Nat} (h : j < o ∨ o + 5 ≤ j) : (set5 cs o a b c d e)[j]? = cs[j]? := by
  unfold set5
  rw [Array.getElem?_setIfInBounds_ne (by omega), Array.getElem?_setIfInBounds_ne (by omega), Array.getElem?_setIfInBounds_ne (by omega), Array.getElem?_setIfInBounds_ne (by omega), Array.getElem?_setIfInBounds_ne (by omega)]
theorem set5_at (cs : Array Value) (o : Nat) (a b c d e : Value) (h : o + 5 ≤ cs.size) :
    (set5 cs o a b c d e)[o]? = some a ∧ (set5 cs o a b c d e)[o + 1]? = some b ∧ (set5 cs o a b c d e)[o + 2]? = some c ∧ (set5 cs o a b c d e)[o + 3]? = some d ∧ (set5 cs o a b c d e)[o + 4]? = some e := by
  unfold set5
  refine ⟨?_, ?_, ?_, ?_, ?_⟩
  · rw [Array.getElem?_setIfInBounds_ne (by omega), Array.getElem?_setIfInBounds_ne (by omega), Array.getElem?_setIfInBounds_ne (by omega), Array.getElem?_setIfInBounds_ne (by omega), Array.getElem?_setIfInBounds_self_of_lt (by omega)]
  · rw [Array.getElem?_setIfInBounds_ne (by omega), Array.getElem?_setIfInBounds_ne (by omega), Array.getElem?_setIfInBounds_ne (by omega), Array.getElem?_setIfInBounds_self_of_lt (by simp; omega)]
  · rw [Array.getElem?_setIfInBounds_ne (by omega), Array.getElem?_setIfInBounds_ne (by omega), Array.getElem?_setIfInBounds_self_of_lt (by simp; omega)]
  · rw [Array.getElem?_setIfInBounds_ne (by omega), Array.getElem?_setIfInBounds_self_of_lt (by simp; omega)]
  · rw [Array.getElem?_setIfInBounds_self_of_lt (by simp; omega)]
def put5 (w : World) (g o : Nat) (a b c d e : Value) : World := ((((w.setCell ⟨g, o, none⟩ a).setCell ⟨g, o + 1, none⟩ b).setCell ⟨g, o + 2, none⟩ c).setCell ⟨g, o + 3, none⟩ d).setCell ⟨g, o + 4, none⟩ e
theorem Whole.put5 {w : World} {g : Nat} {t : TypeId} {cs : Array Value} (h : Whole w g t cs) (o : Nat) (a b c d e : Value) : Whole (put5 w g o a b c d e) g t (set5 cs o a b c d e) :=
  ((((h.put o a).put (o + 1) b).put (o + 2) c).put (o + 3) d).put (o + 4) e
theorem keep_put5 (w : World) (g o : Nat) (a b c d e : Value) : Keep (fun k => k = g) w (put5 w g o a b c d e) :=
  (((((Keep.refl (fun k => k = g) w).setCell (.inl rfl) _).setCell (.inl rfl) _).setCell (.inl rfl) _).setCell (.inl rfl) _).setCell (.inl rfl) _
section
variable {w w' : World} {g tg : Nat} {S : Nat → Prop} {cs : Array Value} {v : Nat → Value} {ks : List Key} {x : Qm}
/-- A flow is there no more. -/
theorem FQw.zero (h : FQw w g tg S cs v ks x) {i : Nat} (hi : i < 8) :
    FQw (put5 w g (9 + i * 5) (.bool false) (.int .i64 0) (.int .u64 0) (.int .u64 0) (.slice none 0 0)) g tg S (set5 cs (9 + i * 5) (.bool false) (.int .i64 0) (.int .u64 0) (.int .u64 0) (.slice none 0 0)) (upF v i (.slice none 0 0)) ks { x with F := upF x.F i Fl.zero, T := upF x.T i false } := by
  have hs := h.c.size
  obtain ⟨q0, q1, q2, q3, q4⟩ := set5_at cs (9 + i * 5) (.bool false) (.int .i64 0) (.int .u64 0) (.int .u64 0) (.slice none 0 0) (by omega)
  refine h.segs hi (R := fun k => k = g) (h.whole.put5 _ _ _ _ _ _) (keep_put5 _ _ _ _ _ _ _ _) (fun k e => .inl e) (h.c.turn hi (set5_size _ _ _ _ _ _ _) (fun j hj => ?_) (fun j hj => set5_ne _ _ _ _ _ _ _ hj)) (SgAt.nil _) (fun k e => by cases e)
  match j, hj with
  | 0, _ => exact q0
  | 1, _ => exact q1
  | 2, _ => exact q2
  | 3, _ => exact q3
  | 4, _ => exact q4
/-- The first k flows have been looked at. -/
def collK (x : Qm) (now : Int) (k : Nat) : Qm := { x with F := fun i => if i < k ∧ deadF x now i = true then Fl.zero else x.F i, T := fun i => if i < k ∧ deadF x now i = true then false else x.T i }
theorem collK_at (x : Qm) (now : Int) (k : Nat) : (collK x now k).F k = x.F k ∧ (collK x now k).T k = x.T k := by
  unfold collK
  exact ⟨by dsimp only; rw [if_neg (by omega)], by dsimp only; rw [if_neg (by omega)]⟩
theorem collK_zero (x : Qm) (now : Int) : Seen x (collK x now 0) :=
  ⟨rfl, rfl, rfl, fun i _ => by simp [collK], fun i _ => by simp [collK], fun i _ => by simp [collK], fun i _ => by simp [collK], fun i _ => by simp [collK]⟩
theorem seen_of {x y : Qm} (hc : y.c = x.c) (hN : y.N = x.N) (hO : y.O = x.O) (hT : ∀ i, i < 8 → y.T i = x.T i) (hF : ∀ i, i < 8 → y.F i = x.F i) : Seen x y :=
  ⟨hc, hN, hO, hT, fun i hi => by rw [hF i hi], fun i hi => by rw [hF i hi], fun i hi => by rw [hF i hi], fun i hi => by rw [hF i hi]⟩
theorem collK_eight (x : Qm) (now : Int) : Seen (collK x now 8) (collQ x now) := by
  refine seen_of rfl rfl rfl (fun i hi => ?_) (fun i hi => ?_)
  · unfold collK collQ
    dsimp only
    by_cases hd : deadF x now i = true
    · rw [if_pos ⟨hi, hd⟩, hd]; simp
    · rw [if_neg (fun h => hd h.2)]; simp [hd]
  · unfold collK collQ
    dsimp only
    by_cases hd : deadF x now i = true
    · simp [hd, hi]
    · simp [hd]
theorem collK_no {x : Qm} {now : Int} {k : Nat} (h : deadF x now k = false) : Seen (collK x now k) (collK x now (k + 1)) := by
  refine seen_of rfl rfl rfl (fun i hi => ?_) (fun i hi => ?_)
  all_goals
    unfold collK
    dsimp only
    by_cases e : i = k
    · subst e; rw [h]; simp
    · have : (i < k + 1) = (i < k) := by apply propext; omega
      simp only [this]
theorem collK_yes {x : Qm} (hx : x.Ok) {now : Int} {k : Nat} (hk : k < 8) (h : x.T k = false ∨ deadF x now k = true) : Seen { collK x now k with F := upF (collK x now k).F k Fl.zero, T := upF (collK x now k).T k false } (collK x now (k + 1)) := by
  refine seen_of rfl rfl rfl (fun i hi => ?_) (fun i hi => ?_)
  all_goals
    dsimp only
    by_cases e : i = k
    · subst e
      rw [upF_at]
      unfold collK
      dsimp only
      by_cases hd : deadF x now i = true
      · rw [if_pos ⟨by omega, hd⟩]
      · rw [if_neg (fun h => hd h.2)]
        have ht := h.resolve_right hd
        first
          | exact ht
          | exact hx.no i hk ht
    · rw [upF_ne _ _ e]
      unfold collK
      dsimp only
      have : (i < k + 1) = (i < k) := by apply propext; omega
      simp only [this]
theorem ks_coll {x : Qm} {ks : List Key} (h : KsOf x ks) (now : Int) : KsOf (collQ x now) ks := fun k => by
  rw [h]
  have hd : ∀ i : Nat, (x.F i).p = 3 → deadF x now i = false := fun i hp => by unfold deadF; rw [hp]; simp
  constructor
  · rintro ⟨i, hi, h1, h2, h3⟩
    refine ⟨i, hi, ?_, ?_, ?_⟩
    · unfold collQ; dsimp only; rw [hd i h2, h1]; rfl
    · unfold collQ; dsimp only; rw [hd i h2]; exact h2
    · unfold keyF collQ; dsimp only; rw [hd i h2]; exact h3
  · rintro ⟨i, hi, h1, h2, h3⟩
    have hdi : deadF x now i = false := by
      cases hb : deadF x now i with
      | false => rfl
      | true => unfold collQ at h1; dsimp only at h1; rw [hb] at h1; simp at h1
    unfold keyF collQ at h3; unfold collQ at h1 h2
    dsimp only at h1 h2 h3
    rw [hdi] at h1 h2 h3
    exact ⟨i, hi, by simpa using h1, h2, h3⟩
theorem rested_dead {x : Qm} {ks : List Key} (hx : x.Ok) (hk : KsOf x ks) {k : Nat} (h8 : k < 8) (now : Int) {b : Bool} (hb : (decide (placeK x ks k = 0) && decide (addS (x.F k).u 3000000000 ≤ now)) = b) :
    (b = true → x.T k = false ∨ deadF x now k = true) ∧ (b = false → deadF x now k = false) := by
  rw [placeK_is hx hk h8] at hb
  unfold deadF
  cases ht : x.T k with
  | false => exact ⟨fun _ => .inl rfl, fun _ => by simp⟩
  | true =>
    rw [ht, if_pos rfl] at hb
    subst hb
    refine ⟨fun h => .inr ?_, fun h => ?_⟩
    · simp only [Bool.and_eq_true, decide_eq_true_eq] at h
      simp [h.1, h.2]
    · cases hp : decide ((x.F k).p = 0) with
      | false =>
        have : ¬ (x.F k).p = 0 := by simpa using hp
        simp [this]
      | true =>
        rw [hp] at h
        simp only [Bool.true_and, decide_eq_false_iff_not] at h
        simp [h]

set_option maxRecDepth 100000 in
set_option maxHeartbeats 2000000 in
theorem FQat.collect (h : FQat w g tg S cs v ks x) (now : Int) :
    Calls Try.prog 26 #[.pointer (some ⟨g, 0, none⟩), .int .u64 now] w fun e w' => (∃ u, e = .returned u) ∧ ∃ cs' v', FQat w' g tg S cs' v' ks (collQ x now) ∧ Keep (fun k => k = g) w w' ∧ ∀ i k, i < 8 → (v' i).ownBlock = some k → (v i).ownBlock = some k := by
  have H := Lib.hid h
  clear h
  go_enter Try.func26, Try.ntmps26
  go_wp2
  go_loopw [5] (fun i wr => ∃ (k : Nat) (cs' : Array Value) (v' : Nat → Value), k ≤ 8 ∧ i = .int .i64 k ∧ FQw wr g tg S cs' v' ks (collK x now k) ∧ Keep (fun k => k = g) w wr ∧ ∀ i k, i < 8 → (v' i).ownBlock = some k → (v i).ownBlock = some k) (fun i _ => 8 - (intOf i).toNat)
  case atStart => exact ⟨0, cs, v, by omega, rfl, H.out.w.seen (collK_zero x now), Keep.refl _ _, fun _ _ _ h => h⟩
  case round =>
    obtain ⟨k, cs', v', hk, rfl, hq, hkp, hv⟩ := hrel
    have HQ := Lib.hid hq; have HK := Lib.hid hkp; have HV := Lib.hid hv
    clear hq hkp hv
    by_cases hlt : k < 8
    · have hi1 : (k : Int) < 8 := by omega
      have HI := Lib.hid hlt
      have hat := collK_at x now k
      have hun : U64 ((collK x now k).F k).u ∧ 0 ≤ ((collK x now k).F k).n := by
        rw [hat.1]
        cases ht : x.T k with
        | true => exact ⟨(H.out.ok.is k hlt ht).hu, (H.out.ok.is k hlt ht).hn.1⟩
        | false => rw [H.out.ok.no k hlt ht]; exact ⟨⟨by decide, by decide⟩, by decide⟩
      have HUN := Lib.hid hun
      obtain ⟨b, hb⟩ : ∃ b, (decide (placeK (collK x now k) ks k = 0) && decide (addS ((collK x now k).F k).u 3000000000 ≤ now)) = b := ⟨_, rfl⟩
      have HB := Lib.hid hb
      have hpl : placeK (collK x now k) ks k = placeK x ks k := by unfold placeK keyF; rw [hat.1]; rfl
      rw [hpl, hat.1] at hb
      have HD := Lib.hid (rested_dead H.out.ok H.out.ks hlt now hb)
      clear hat hun hb hpl hlt
      go_wp2_with fail
      refine (HQ.out.rested H.out.ok.ls HI.out HUN.out.2 HUN.out.1 3000000000 now ⟨by decide, by decide⟩ HB.out).mono ?_
      rintro e w2 ⟨rfl, k2⟩
      have HQ2 := Lib.hid (HQ.out.kept k2)
      have HK2 := Lib.hid (HK.out.trans (k2.mono (fun _ h => h.elim)))
      clear k2 HQ HK
      cases b with
      | true =>
        have HS := Lib.hid (collK_yes H.out.ok HI.out (HD.out.1 rfl))
        obtain ⟨sa, scap, hsv, _⟩ := (HQ2.out.q k HI.out).shape
        have c0 := HQ2.out.there HI.out; have c1 := HQ2.out.credit HI.out; have c2 := HQ2.out.next HI.out; have c3 := HQ2.out.since HI.out; have c4 := HQ2.out.seg HI.out
        rw [hsv] at c4
        have f0 := HQ2.out.whole.free (9 + k * 5); have f1 := HQ2.out.whole.free (9 + k * 5 + 1); have f2 := HQ2.out.whole.free (9 + k * 5 + 2); have f3 := HQ2.out.whole.free (9 + k * 5 + 3); have f4 := HQ2.out.whole.free (9 + k * 5 + 4)
        clear hsv
        go_wp2
        go_roundw
        case rel =>
          refine ⟨k + 1, _, _, by omega, by go_num, (HQ2.out.zero HI.out).seen HS.out, HK2.out.trans (keep_put5 _ _ _ _ _ _ _ _), fun i k' hi e => ?_⟩
          by_cases e1 : i = k
          · subst e1; rw [upF_at] at e; cases e
          · rw [upF_ne _ _ e1] at e; exact HV.out i k' hi e
        case measure => simp [intOf]; omega
      | false =>
        have HS := Lib.hid (collK_no (HD.out.2 rfl))
        go_wp2
        go_roundw
        case rel => exact ⟨k + 1, _, _, by omega, by go_num, HQ2.out.seen HS.out, HK2.out, HV.out⟩
        case measure => simp [intOf]; omega
    · obtain rfl : k = 8 := by omega
      clear hlt
      go_wp2
      go_end0
      exact ⟨⟨_, rfl⟩, _, _, ⟨HQ.out.seen (collK_eight x now), coll_ok H.out.ok now, ks_coll H.out.ks now⟩, HK.out, HV.out⟩
end
end Go.Proofs.Ytoekmdidonnamaa
