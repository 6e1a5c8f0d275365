/-
  canterlaw14.awake answers true; a Cycle among other things in memory: its calls leave the others. Conditions: none.
-/
import Derived.Test.YtaghndfoepkgnaaCyc
import Derived.Test.YtaghndfoepkgnaaRoom
namespace Go.Proofs.Ytaghndfoepkgnaa
open Go.RowKit

theorem cystart_is {x y : Cst} {n p : Int} (e : startC n p = y) (g : Nat) (w : World) (h : CycAt w g x) (hn : Num n) :
    Calls Try.prog 7 #[.pointer (some ⟨g, 0, none⟩), .int .u64 n, .int .i64 p] w fun e w' => (∃ v, e = .returned v) ∧ CycAt w' g y ∧ Keep (fun k => k = g) w w' := e ▸ cystart_any g x n p w h hn
theorem cyupd_is {x y : Cst} {n r l f u o : Int} {b : Bool} (e : begC x ⟨n, r, l, f, u, o⟩ = b ∧ updC x ⟨n, r, l, f, u, o⟩ = y) (g : Nat) (w : World) (h : CycAt w g x) (hn : Num n) :
    Calls Try.prog 9 #[.pointer (some ⟨g, 0, none⟩), .int .u64 n, .int .u64 r, .int .u64 l, .int .u64 f, .int .u64 u, .int .u64 o] w fun e w' => e = .returned (.bool b) ∧ CycAt w' g y ∧ Keep (fun k => k = g) w w' := by
  have := cyupd_any g x ⟨n, r, l, f, u, o⟩ w h hn
  rw [e.2, e.1] at this
  exact this
theorem cyphase_is {p : Int} {x : Cst} (e : x.p = p) (g : Nat) (w : World) (h : CycAt w g x) : Calls Try.prog 8 #[.pointer (some ⟨g, 0, none⟩)] w fun e w' => e = .returned (.int .i64 p) ∧ w = w' := e ▸ cyphase_any g x w h
theorem cygain_is {v : Int} {x : Cst} (e : gainC x = v) (g : Nat) (w : World) (h : CycAt w g x) : Calls Try.prog 10 #[.pointer (some ⟨g, 0, none⟩)] w fun e w' => e = .returned (.int .u64 v) ∧ w = w' := e ▸ cygain_any g x w h

def cycT (g : Nat) (x : Cst) : Thing := ⟨fun w => CycAt w g x, fun k => k = g, fun h hk hs => h.keep hk (hs g rfl), fun h e => e ▸ h.lt⟩
section
variable {wB w : World} {L : List Thing} {g : Nat} {x y : Cst} {n p r l f u o v : Int} {b : Bool}
theorem Room.cynew (h : Room wB w L) : Calls Try.prog 5 #[] w fun e w' => e = .returned (.pointer (some ⟨w.heap.size, 0, none⟩)) ∧ Room wB w' (cycT w.heap.size newC :: L) :=
  (cynew_any w).mono fun _ _ ⟨he, h1, k1⟩ => ⟨he, h.add (t := cycT w.heap.size newC) h1 k1 (fun k e => by subst e; exact Nat.le_refl _)⟩
theorem Room.cystart (h : Room wB w (cycT g x :: L)) (e : startC n p = y) (hn : Num n) :
    Calls Try.prog 7 #[.pointer (some ⟨g, 0, none⟩), .int .u64 n, .int .i64 p] w fun e w' => (∃ v, e = .returned v) ∧ Room wB w' (cycT g y :: L) :=
  (cystart_is e g w h.get0 hn).mono fun _ _ ⟨he, h1, k1⟩ => ⟨he, h.step0 (t' := cycT g y) h1 k1 own_same⟩
theorem Room.cyupd (h : Room wB w (cycT g x :: L)) (e : begC x ⟨n, r, l, f, u, o⟩ = b ∧ updC x ⟨n, r, l, f, u, o⟩ = y) (hn : Num n) :
    Calls Try.prog 9 #[.pointer (some ⟨g, 0, none⟩), .int .u64 n, .int .u64 r, .int .u64 l, .int .u64 f, .int .u64 u, .int .u64 o] w fun e w' => e = .returned (.bool b) ∧ Room wB w' (cycT g y :: L) :=
  (cyupd_is e g w h.get0 hn).mono fun _ _ ⟨he, h1, k1⟩ => ⟨he, h.step0 (t' := cycT g y) h1 k1 own_same⟩
theorem Room.cyphase (h : Room wB w (cycT g x :: L)) (e : x.p = p) : Calls Try.prog 8 #[.pointer (some ⟨g, 0, none⟩)] w fun e w' => e = .returned (.int .i64 p) ∧ w = w' := cyphase_is e g w h.get0
theorem Room.cygain (h : Room wB w (cycT g x :: L)) (e : gainC x = v) : Calls Try.prog 10 #[.pointer (some ⟨g, 0, none⟩)] w fun e w' => e = .returned (.int .u64 v) ∧ w = w' := cygain_is e g w h.get0
end
set_option maxHeartbeats 1000000 in
set_option maxRecDepth 100000 in
theorem awakey_any (w : World) : Calls Try.prog 6 #[] w fun e w' => e = .returned (.bool true) ∧ Keep (fun _ => False) w w' := by
  go_enter Try.func6, Try.ntmps6
  go_wp2_with fail
  refine (cynew_any _).mono ?_
  rintro e w1 ⟨rfl, h1, k1⟩
  have H1 := Lib.hid h1; have K1 := Lib.hid k1; clear h1 k1
  go_wp2_with fail
  refine (cystart_is (y := ⟨2, 0⟩) rfl _ _ H1.out ⟨by decide, by decide⟩).mono ?_
  rintro e w2 ⟨⟨_, rfl⟩, h2, k2⟩
  have H2 := Lib.hid h2; have K2 := Lib.hid (K1.out.then k2 (fun i e hlt => by omega)); clear h2 k2 H1 K1
  go_wp2_with fail
  refine (cyphase_is (p := 2) rfl _ _ H2.out).mono ?_
  rintro e w3 ⟨rfl, rfl⟩
  go_wp2_with fail
  refine (cyupd_is (b := true) (y := ⟨3, 10⟩) ⟨by decide, by rfl⟩ _ _ H2.out ⟨by decide, by decide⟩).mono ?_
  rintro e w3 ⟨rfl, h3, k3⟩
  have H3 := Lib.hid h3; have K3 := Lib.hid (K2.out.then k3 (fun i e hlt => by omega)); clear h3 k3 H2 K2
  go_wp2_with fail
  refine (cyphase_is (p := 3) rfl _ _ H3.out).mono ?_
  rintro e w4 ⟨rfl, rfl⟩
  go_wp2_with fail
  refine (cygain_is (v := 256) rfl _ _ H3.out).mono ?_
  rintro e w4 ⟨rfl, rfl⟩
  go_wp2
  go_ret
  exact ⟨rfl, K3.out⟩
theorem Room.awakey {wB w : World} {L : List Thing} (h : Room wB w L) : Calls Try.prog 6 #[] w fun e w' => e = .returned (.bool true) ∧ Room wB w' L := (awakey_any w).mono fun _ _ ⟨he, k⟩ => ⟨he, h.kept k⟩

/-! ### The plain mathematics of the laws -/
theorem begC_long {x : Cst} {n r l f u o : Int} (h : r < satSub n x.s) (hl : l ≠ 0) : begC x ⟨n, r, l, f, u, o⟩ = true := by
  simp [begC, overC, h, hl]
theorem begC_short {x : Cst} {n r l f u o : Int} (h : ¬ r < satSub n x.s) (hp : x.p ≠ 1) : begC x ⟨n, r, l, f, u, o⟩ = false := by
  simp [begC, overC, h, hp]
theorem updC_yes {x : Cst} {l : Lok} (h : begC x l = true) : updC x l = startC l.n (x.p + 1) := by simp [updC, h]
theorem updC_no {x : Cst} {l : Lok} (h : begC x l = false) : updC x l = x := by simp [updC, h]
/-- What the gains come to, of so many phases behind each other, eight at most. -/
def sumC (F : Int) : Nat → Int
  | 0 => 0
  | k + 1 => if k < 8 then sumC F k + gainC ⟨(F + k) % 8, 0⟩ else sumC F k
theorem gainC_bd (x : Cst) : 0 ≤ gainC x ∧ gainC x ≤ 320 := by unfold gainC; split <;> (try split) <;> omega
theorem gainC_p (p s t : Int) : gainC ⟨p, s⟩ = gainC ⟨p, t⟩ := rfl
theorem sumC_bd (F : Int) : ∀ k, 0 ≤ sumC F k ∧ sumC F k ≤ 320 * k
  | 0 => ⟨Int.le_refl _, Int.le_refl _⟩
  | k + 1 => by
    have h := sumC_bd F k
    have g := gainC_bd ⟨(F + k) % 8, 0⟩
    unfold sumC
    split <;> omega
theorem sumC_all {F : Int} (h0 : 0 ≤ F) (h7 : F ≤ 7) : ∀ k, 8 ≤ k → sumC F k = 2048
  | 0, h => by omega
  | k + 1, h => by
    by_cases h8 : k = 7
    · subst h8
      have : F = 0 ∨ F = 1 ∨ F = 2 ∨ F = 3 ∨ F = 4 ∨ F = 5 ∨ F = 6 ∨ F = 7 := by omega
      rcases this with rfl | rfl | rfl | rfl | rfl | rfl | rfl | rfl <;> rfl
    · unfold sumC
      rw [if_neg (by omega)]
      exact sumC_all h0 h7 k (by omega)
end Go.Proofs.Ytaghndfoepkgnaa
