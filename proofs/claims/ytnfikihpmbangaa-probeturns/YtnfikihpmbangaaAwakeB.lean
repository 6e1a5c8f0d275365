/-
  canterlaw15.awake answers true; a Probe among other things in memory: its calls leave the others. Conditions: none.
-/
import Derived.Test.YtnfikihpmbangaaPrb
import Derived.Test.YtnfikihpmbangaaRoom
namespace Go.Proofs.Ytnfikihpmbangaa
open Go.RowKit

/-- What an Update answers, and leaves. -/
structure Upd (x : Prb) (l : Lok) (b c : Bool) (y : Prb) : Prop where
  b : begB x l = b
  c : leaB x l = c
  y : updB x l = y
theorem prupd_is {x y : Prb} {n t f o : Int} {st b c : Bool} (e : Upd x ⟨n, t, st, f, o⟩ b c y) (g : Nat) (w : World) (h : PrbAt w g x) (hn : Num n) (ht : Num t) :
    Calls Try.prog 9 #[.pointer (some ⟨g, 0, none⟩), .int .u64 n, .int .u64 t, .bool st, .int .u64 f, .int .u64 o] w fun e w' => e = .returned (.tuple #[.bool b, .bool c]) ∧ PrbAt w' g y ∧ Keep (fun k => k = g) w w' := by
  have := prupd_any g x ⟨n, t, st, f, o⟩ w h hn ht
  rw [e.y, e.b, e.c] at this
  exact this
theorem prbest_is {v : Int} {x : Prb} (e : x.b = v) (g : Nat) (w : World) (h : PrbAt w g x) : Calls Try.prog 11 #[.pointer (some ⟨g, 0, none⟩)] w fun e w' => e = .returned (.int .u64 v) ∧ w = w' := e ▸ prbest_any g x w h
theorem prin_is {v : Bool} {x : Prb} (e : x.i = v) (g : Nat) (w : World) (h : PrbAt w g x) : Calls Try.prog 12 #[.pointer (some ⟨g, 0, none⟩)] w fun e w' => e = .returned (.bool v) ∧ w = w' := e ▸ prin_any g x w h

def prbT (g : Nat) (x : Prb) : Thing := ⟨fun w => PrbAt w g x, fun k => k = g, fun h hk hs => h.keep hk (hs g rfl), fun h e => e ▸ h.lt⟩
section
variable {wB w : World} {L : List Thing} {g : Nat} {x y : Prb} {n t f o v : Int} {st b c : Bool}
theorem Room.prnew (h : Room wB w L) : Calls Try.prog 7 #[] w fun e w' => e = .returned (.pointer (some ⟨w.heap.size, 0, none⟩)) ∧ Room wB w' (prbT w.heap.size newB :: L) :=
  (prnew_any w).mono fun _ _ ⟨he, h1, k1⟩ => ⟨he, h.add (t := prbT w.heap.size newB) h1 k1 (fun k e => by subst e; exact Nat.le_refl _)⟩
theorem Room.prupd (h : Room wB w (prbT g x :: L)) (e : Upd x ⟨n, t, st, f, o⟩ b c y) (hn : Num n) (ht : Num t) :
    Calls Try.prog 9 #[.pointer (some ⟨g, 0, none⟩), .int .u64 n, .int .u64 t, .bool st, .int .u64 f, .int .u64 o] w fun e w' => e = .returned (.tuple #[.bool b, .bool c]) ∧ Room wB w' (prbT g y :: L) :=
  (prupd_is e g w h.get0 hn ht).mono fun _ _ ⟨he, h1, k1⟩ => ⟨he, h.step0 (t' := prbT g y) h1 k1 own_same⟩
theorem Room.prbest (h : Room wB w (prbT g x :: L)) (e : x.b = v) : Calls Try.prog 11 #[.pointer (some ⟨g, 0, none⟩)] w fun e w' => e = .returned (.int .u64 v) ∧ w = w' := prbest_is e g w h.get0
theorem Room.prin (h : Room wB w (prbT g x :: L)) (e : x.i = b) : Calls Try.prog 12 #[.pointer (some ⟨g, 0, none⟩)] w fun e w' => e = .returned (.bool b) ∧ w = w' := prin_is e g w h.get0
end
set_option maxHeartbeats 1000000 in
set_option maxRecDepth 100000 in
theorem awakeb_any (w : World) : Calls Try.prog 8 #[] w fun e w' => e = .returned (.bool true) ∧ Keep (fun _ => False) w w' := by
  go_enter Try.func8, Try.ntmps8
  go_wp2_with fail
  refine (prnew_any _).mono ?_
  rintro e w1 ⟨rfl, h1, k1⟩
  have H1 := Lib.hid h1; have K1 := Lib.hid k1; clear h1 k1
  go_wp2_with fail
  refine (prupd_is (b := false) (c := false) (y := ⟨5, 1, false, 0, false⟩) ⟨by decide, by decide, by rfl⟩ _ _ H1.out ⟨by decide, by decide⟩ ⟨by decide, by decide⟩).mono ?_
  rintro e w2 ⟨rfl, h2, k2⟩
  have H2 := Lib.hid h2; have K2 := Lib.hid (K1.out.then k2 (fun i e hlt => by omega)); clear h2 k2 H1 K1
  go_wp2_with fail
  refine (prupd_is (b := true) (c := false) (y := ⟨7, 11000000001, true, 0, false⟩) ⟨by decide, by decide, by rfl⟩ _ _ H2.out ⟨by decide, by decide⟩ ⟨by decide, by decide⟩).mono ?_
  rintro e w3 ⟨rfl, h3, k3⟩
  have H3 := Lib.hid h3; have K3 := Lib.hid (K2.out.then k3 (fun i e hlt => by omega)); clear h3 k3 H2 K2
  go_wp2_with fail
  refine (prbest_is (v := 7) rfl _ _ H3.out).mono ?_
  rintro e w4 ⟨rfl, rfl⟩
  go_wp2_with fail
  refine (prin_is (v := true) rfl _ _ H3.out).mono ?_
  rintro e w4 ⟨rfl, rfl⟩
  go_wp2
  go_ret
  exact ⟨rfl, K3.out⟩
theorem Room.awakeb {wB w : World} {L : List Thing} (h : Room wB w L) : Calls Try.prog 8 #[] w fun e w' => e = .returned (.bool true) ∧ Room wB w' L := (awakeb_any w).mono fun _ _ ⟨he, k⟩ => ⟨he, h.kept k⟩
end Go.Proofs.Ytnfikihpmbangaa
