/-
  canterlaw16.steady makes a policer that has seen so many samples at a steady pace; canterlaw16.awake answers true; a Policer among other things in memory: its calls leave the others. Conditions: at most a hundred samples, of small numbers.
-/
import Derived.Test.YtagdhafggebkpaaPolWalk
import Derived.Test.YtagdhafggebkpaaPolMore
import Derived.Test.YtagdhafggebkpaaRoom
import Derived.Deep.LoopGhost
import Derived.OwnWalk
set_option linter.unusedVariables false
namespace Go.Proofs.Ytagdhafggebkpaa
open Go.RowKit

theorem polupd_is {x y : Pol} {st : Bool} {s : Spl} (e : updPol x st s = y) (g : Nat) (w : World) (h : PolAt w g x) (hs : s.Fit) :
    Calls Try.prog 8 #[.pointer (some ⟨g, 0, none⟩), .bool st, s.v] w fun e w' => (∃ v, e = .returned v) ∧ PolAt w' g y ∧ Keep (fun k => k = g) w w' := e ▸ polupd_any g x st s w h hs
theorem poluse_is {x : Pol} {v : Int} {b : Bool} (e : useV x = v ∧ x.u = b) (g : Nat) (w : World) (h : PolAt w g x) : Calls Try.prog 10 #[.pointer (some ⟨g, 0, none⟩)] w fun e w' => e = .returned (.tuple #[.int .u64 v, .bool b]) ∧ w = w' := by
  have := poluse_any g x w h
  rw [e.1, e.2] at this
  exact this
def polT (g : Nat) (x : Pol) : Thing := ⟨fun w => PolAt w g x, fun k => k = g, fun h hk hs => h.keep hk (hs g rfl), fun h e => e ▸ h.lt⟩
section
variable {wB w : World} {L : List Thing} {t0 : Thing} {g : Nat} {x y : Pol} {v : Int} {st b : Bool} {s : Spl}
theorem Room.polnew (h : Room wB w L) : Calls Try.prog 6 #[] w fun e w' => e = .returned (.pointer (some ⟨w.heap.size, 0, none⟩)) ∧ Room wB w' (polT w.heap.size newPol :: L) :=
  (polnew_any w).mono fun _ _ ⟨he, h1, k1⟩ => ⟨he, h.add (t := polT w.heap.size newPol) h1 k1 (fun k e => by subst e; exact Nat.le_refl _)⟩
theorem Room.polupd (h : Room wB w (polT g x :: L)) (e : updPol x st s = y) (hs : s.Fit) :
    Calls Try.prog 8 #[.pointer (some ⟨g, 0, none⟩), .bool st, s.v] w fun e w' => (∃ v, e = .returned v) ∧ Room wB w' (polT g y :: L) :=
  (polupd_is e g w h.get0 hs).mono fun _ _ ⟨he, h1, k1⟩ => ⟨he, h.step0 (t' := polT g y) h1 k1 own_same⟩
theorem Room.polupd1 (h : Room wB w (t0 :: polT g x :: L)) (e : updPol x st s = y) (hs : s.Fit) :
    Calls Try.prog 8 #[.pointer (some ⟨g, 0, none⟩), .bool st, s.v] w fun e w' => (∃ v, e = .returned v) ∧ Room wB w' (t0 :: polT g y :: L) :=
  (polupd_is e g w h.get1 hs).mono fun _ _ ⟨he, h1, k1⟩ => ⟨he, h.step1 (t' := polT g y) h1 k1 own_same⟩
theorem Room.poluse (h : Room wB w (polT g x :: L)) (e : useV x = v ∧ x.u = b) : Calls Try.prog 10 #[.pointer (some ⟨g, 0, none⟩)] w fun e w' => e = .returned (.tuple #[.int .u64 v, .bool b]) ∧ w = w' := poluse_is e g w h.get0
theorem Room.poluse1 (h : Room wB w (t0 :: polT g x :: L)) (e : useV x = v ∧ x.u = b) : Calls Try.prog 10 #[.pointer (some ⟨g, 0, none⟩)] w fun e w' => e = .returned (.tuple #[.int .u64 v, .bool b]) ∧ w = w' := poluse_is e g w h.get1
end
theorem smp_fit {k bw lost : Int} (k0 : 0 ≤ k) (k1 : k ≤ 100) (b0 : 0 ≤ bw) (b1 : bw ≤ 2000000) (l0 : 0 ≤ lost) (l1 : lost ≤ 2000000) : (smpStd k bw lost).Fit := by
  have h := prod_bd k0 k1 b0 b1
  have n0 : Num 0 := num00
  exact ⟨⟨by show 0 ≤ k * 1000000000; omega, by show k * 1000000000 ≤ _; omega⟩, ⟨h.1, by show k * bw ≤ _; omega⟩, n0, n0, n0, ⟨b0, by show bw ≤ _; omega⟩, ⟨l0, by show lost ≤ _; omega⟩, n0⟩
set_option maxHeartbeats 1000000 in
set_option maxRecDepth 100000 in
theorem steady_any (n : Nat) (bw lost : Int) (hn : n ≤ 100) (b0 : 0 ≤ bw) (b1 : bw ≤ 2000000) (l0 : 0 ≤ lost) (l1 : lost ≤ 2000000) (w : World) :
    Calls Try.prog 11 #[.int .i64 n, .int .u64 bw, .int .u64 lost] w fun e w' => e = .returned (.pointer (some ⟨w.heap.size, 0, none⟩)) ∧ PolAt w' w.heap.size (stdPol bw lost n) ∧ Keep (fun _ => False) w w' := by
  have HB : Hid (0 ≤ bw ∧ bw ≤ 2000000 ∧ 0 ≤ lost ∧ lost ≤ 2000000 ∧ n ≤ 100) := Lib.hid ⟨b0, b1, l0, l1, hn⟩
  clear b0 b1 l0 l1 hn
  go_enter Try.func11, Try.ntmps11
  go_wp2_with fail
  refine (polnew_any _).mono ?_
  rintro e w1 ⟨rfl, h1, k1⟩
  have H1 := Lib.hid h1; have K1 := Lib.hid k1; clear h1 k1
  obtain ⟨g, hg⟩ : ∃ g, w.heap.size = g := ⟨_, rfl⟩
  rw [hg] at H1 ⊢
  have HG := Lib.hid hg
  clear hg
  go_wp2
  go_loopg [8] n (fun j i wr => ∃ (k : Nat), k + j = n ∧ i = .int .i64 k ∧ PolAt wr g (stdPol bw lost k) ∧ Keep (fun _ => False) w wr)
  case atStart => exact ⟨0, by omega, rfl, H1.out, K1.out⟩
  case round =>
    obtain ⟨k, hkn, rfl, hP, hK⟩ := hrel
    have HP := Lib.hid hP; have HK := Lib.hid hK; clear hP hK H1 K1
    by_cases hlt : k < n
    · have hi : (k : Int) < (n : Int) := by omega
      have hi2 : (k : Int) < 100 := by have := HB.out.2.2.2.2; omega
      have hwk : IntKind.u64.wrap (k : Int) = (k : Int) := by have := HB.out.2.2.2.2; rw [IntKind.wrap_u64]; omega
      have hw1 : IntKind.u64.wrap ((k : Int) * 1000000000) = (k : Int) * 1000000000 := by have := HB.out.2.2.2.2; rw [IntKind.wrap_u64]; omega
      have hw2 : IntKind.u64.wrap ((k : Int) * bw) = (k : Int) * bw := by
        obtain ⟨q1, q2, q3, q4, q5⟩ := HB.out
        have := prod_bd (k := k) (c := 100) (by omega) (by omega) q1 q2
        rw [IntKind.wrap_u64]; omega
      have HF : Hid ((smpStd k bw lost).Fit) := Lib.hid (by
        obtain ⟨q1, q2, q3, q4, q5⟩ := HB.out
        exact smp_fit (by omega) (by omega) q1 q2 q3 q4)
      go_wp2_with fail
      refine (polupd_is (y := stdPol bw lost (k + 1)) (s := smpStd k bw lost) rfl g _ HP.out HF.out).mono ?_
      rintro e w4 ⟨⟨_, rfl⟩, h4, k4⟩
      have H4 := Lib.hid h4; have K4 := Lib.hid (HK.out.then k4 (fun i e hl => by have := HG.out; omega)); clear h4 k4 HP HK
      go_wp2
      go_roundg (gk - 1)
      case measure => omega
      case rel =>
        clear hwk hw1 hw2
        have hn := HB.out.2.2.2.2
        exact ⟨k + 1, by omega, by go_num, H4.out, K4.out⟩
    · have hi : ¬ (k : Int) < (n : Int) := by omega
      obtain rfl : k = n := by omega
      go_wp2
      go_ret
      rw [HG.out]
      exact ⟨rfl, HP.out, HK.out⟩
theorem steady_is {n : Nat} {bw lost : Int} {x : Pol} (e : stdPol bw lost n = x) (hn : n ≤ 100) (b0 : 0 ≤ bw) (b1 : bw ≤ 2000000) (l0 : 0 ≤ lost) (l1 : lost ≤ 2000000) (w : World) :
    Calls Try.prog 11 #[.int .i64 n, .int .u64 bw, .int .u64 lost] w fun e w' => e = .returned (.pointer (some ⟨w.heap.size, 0, none⟩)) ∧ PolAt w' w.heap.size x ∧ Keep (fun _ => False) w w' := e ▸ steady_any n bw lost hn b0 b1 l0 l1 w
set_option maxHeartbeats 1000000 in
set_option maxRecDepth 100000 in
theorem awakeq_any (w : World) : Calls Try.prog 7 #[] w fun e w' => e = .returned (.bool true) ∧ Keep (fun _ => False) w w' := by
  have HE : Hid (stdPol 100000 50000 12 = manyAt 100000 50000 12) := Lib.hid (std_many (by decide) (by decide) (by decide) 12 (by decide))
  go_enter Try.func7, Try.ntmps7
  go_wp2_with fail
  refine (steady_is (n := 12) (bw := 100000) (lost := 50000) HE.out (by decide) (by decide) (by decide) (by decide) (by decide) _).mono ?_
  rintro e w1 ⟨rfl, h1, k1⟩
  have H1 := Lib.hid h1; have K1 := Lib.hid k1; clear h1 k1
  go_wp2_with fail
  refine (poluse_is (v := 100000) (b := true) ⟨by decide, by decide⟩ _ _ H1.out).mono ?_
  rintro e w2 ⟨rfl, rfl⟩
  go_wp2
  go_ret
  exact ⟨rfl, K1.out⟩
theorem Room.awakeq {wB w : World} {L : List Thing} (h : Room wB w L) : Calls Try.prog 7 #[] w fun e w' => e = .returned (.bool true) ∧ Room wB w' L := (awakeq_any w).mono fun _ _ ⟨he, k⟩ => ⟨he, h.kept k⟩
end Go.Proofs.Ytagdhafggebkpaa
