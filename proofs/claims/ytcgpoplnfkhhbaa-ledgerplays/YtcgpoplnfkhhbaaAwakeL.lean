/-
  canterlaw07.awake answers true. Conditions: none.
-/
import Derived.Test.YtcgpoplnfkhhbaaLedTold
namespace Go.Proofs.Ytcgpoplnfkhhbaa
open Go.RowKit

theorem note_is {n : Nat} {F F' : Nat → Int} {s f c : Int} (e : noteE F s f = c ∧ noteF F s f = F') (g : Nat) (w : World) (hn : n ≤ 1000) (h : LedAt w g n F) :
    Calls Try.prog 8 #[.pointer (some ⟨g, 0, none⟩), .int .i64 s, .int .i64 f] w fun e w' => e = .returned (.int .i64 c) ∧ LedAt w' g (n + 1) F' ∧ Keep (fun k => k = g) w w' := by
  have := note_any g n F s f w hn h; rwa [e.1, e.2] at this
theorem lcount_is {n : Nat} {F : Nat → Int} {s c x0 x1 x2 x3 x4 x5 x6 x7 : Int} (e : countC F s = ⟨x0, x1, x2, x3, x4, x5, x6, x7⟩ ∧ checkE s = c) (g : Nat) (w : World) (hn : n ≤ 1000) (h : LedAt w g n F) :
    Calls Try.prog 10 #[.pointer (some ⟨g, 0, none⟩), .int .i64 s] w fun e w' => e = .returned (.tuple #[.agg #[.int .i64 x0, .int .i64 x1, .int .i64 x2, .int .i64 x3, .int .i64 x4, .int .i64 x5, .int .i64 x6, .int .i64 x7], .int .i64 c]) ∧ Keep (fun _ => False) w w' := by
  have := lcount_any g n F s w hn h; rw [e.1, e.2] at this; exact this
theorem balanced_is {x0 x1 x2 x3 x4 x5 x6 x7 : Int} (w : World) (hb : Bal ⟨x0, x1, x2, x3, x4, x5, x6, x7⟩) :
    Calls Try.prog 12 #[.agg #[.int .i64 x0, .int .i64 x1, .int .i64 x2, .int .i64 x3, .int .i64 x4, .int .i64 x5, .int .i64 x6, .int .i64 x7]] w fun e w' => e = .returned (.bool true) ∧ Keep (fun _ => False) w w' := balanced_any ⟨x0, x1, x2, x3, x4, x5, x6, x7⟩ w hb
/-- The collector's answer, where its length is known. -/
theorem hallc_is {n₀ k : Nat} {m : Int} {cs : List Cnt} (e : (cs.take (max 1 m.toNat)).length = k) (Bg : Nat) (hlen : cs.length ≤ 4096) (w : World) (hT : TellsC n₀ w Bg cs) :
    Calls Try.prog 14 #[.func (.func 24) #[] #[.pointer (some ⟨Bg, 0, none⟩)], .int .i64 m] w fun e w' =>
      ∃ a c, e = .returned (.slice a k c) ∧ OwnsC w' (.slice a k c) (cs.take (max 1 m.toNat)) ∧ (∀ j, (Value.slice a k c).ownBlock = some j → w.heap.size ≤ j) ∧ Keep (fun _ => False) w w' := by
  refine (hallc_any Bg m cs hlen w hT).mono ?_
  rintro e w' ⟨v, rfl, ho, hn, hk⟩
  obtain ⟨a, c, rfl, _⟩ := ho.shape
  rw [e] at *
  exact ⟨a, c, rfl, ho, hn, hk⟩

def F1 : Nat → Int := updN (fun _ => 0) 6 1
theorem note1 : noteE (fun _ => 0) 1 0 = 0 ∧ noteF (fun _ => 0) 1 0 = F1 := ⟨rfl, rfl⟩
theorem count1 : countC F1 1 = ⟨1, 1, 0, 0, 0, 0, 0, 1⟩ ∧ checkE 1 = 0 := ⟨rfl, rfl⟩
theorem known1 : knownL F1 8 = [⟨1, 1, 0, 0, 0, 0, 0, 1⟩] := rfl

set_option maxHeartbeats 1000000 in
set_option maxRecDepth 100000 in
theorem awakel_any (w : World) : Calls Try.prog 7 #[] w fun e w' => e = .returned (.bool true) ∧ Keep (fun _ => False) w w' := by
  go_enter Try.func7, Try.ntmps7
  go_wp2_with fail
  refine (lnew_any _).mono ?_
  rintro e w1 ⟨rfl, h1, k1⟩
  have H1 := Lib.hid h1; have K1 := Lib.hid k1; clear h1 k1
  go_wp2_with fail
  refine (note_is note1 _ _ (by decide) H1.out).mono ?_
  rintro e w2 ⟨rfl, h2, k2⟩
  have H2 := Lib.hid h2; have K2 := Lib.hid (K1.out.then k2 (fun i e hlt => by omega)); clear h2 k2
  go_wp2_with fail
  refine (lcount_is count1 _ _ (by decide) H2.out).mono ?_
  rintro e w3 ⟨rfl, k3⟩
  have k3' := k3.alloc (.cells #[.int .i64 1, .int .i64 1, .int .i64 0, .int .i64 0, .int .i64 0, .int .i64 0, .int .i64 0, .int .i64 1] 28)
  have H3 := Lib.hid (H2.out.kept k3'); have K3 := Lib.hid (K2.out.trans k3'); clear k3 k3'
  go_wp2_with fail
  refine (balanced_is _ ⟨by decide, by decide, by decide, by decide, by decide, by decide, by decide, by decide, by decide⟩).mono ?_
  rintro e w4 ⟨rfl, k4⟩
  have H4 := Lib.hid (H3.out.kept k4); have K4 := Lib.hid (K3.out.trans k4); clear k4
  go_wp2_with fail
  refine (lall_any _ _ _ _ (by decide) H4.out).mono ?_
  rintro e w5 ⟨B, rfl, t5, _, k5⟩
  rw [known1] at t5
  have T5 := Lib.hid t5; have K5 := Lib.hid (K4.out.trans k5); clear t5 k5
  go_wp2_with fail
  refine (hallc_is (k := 1) rfl _ (by decide) _ T5.out).mono ?_
  rintro e w6 ⟨a, c, rfl, _, _, k6⟩
  have K6 := Lib.hid (K5.out.trans k6); clear k6
  go_wp2
  go_ret
  exact ⟨rfl, K6.out⟩
end Go.Proofs.Ytcgpoplnfkhhbaa
