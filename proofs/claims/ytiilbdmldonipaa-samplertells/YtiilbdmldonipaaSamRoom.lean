/-
  A sampler among other things in memory: its calls leave the others. Conditions: the numbers are of their kind.
-/
import Derived.Test.YtiilbdmldonipaaAwakeS
import Derived.Test.YtiilbdmldonipaaRoom
namespace Go.Proofs.Ytiilbdmldonipaa
open Go.RowKit

def samT (g : Nat) (x : Smp) : Thing := ⟨fun w => SamAt w g x, fun k => k = g, fun h hk hs => h.keep hk (hs g rfl), fun h e => e ▸ h.lt⟩
section
variable {wB w : World} {L : List Thing} {g : Nat} {x y : Smp} {now fl size lost : Int}
theorem Room.snew (h : Room wB w L) : Calls Try.prog 7 #[] w fun e w' => e = .returned (.pointer (some ⟨w.heap.size, 0, none⟩)) ∧ Room wB w' (samT w.heap.size newS :: L) :=
  (snew_any w).mono fun _ _ ⟨he, h1, k1⟩ => ⟨he, h.add (t := samT w.heap.size newS) h1 k1 (fun k e => by subst e; exact Nat.le_refl _)⟩
theorem Room.awakes (h : Room wB w L) : Calls Try.prog 8 #[] w fun e w' => e = .returned (.bool true) ∧ Room wB w' L := (awakes_any w).mono fun _ _ ⟨he, k⟩ => ⟨he, h.kept k⟩
theorem Room.ssent {v : Snt} (h : Room wB w (samT g x :: L)) (e : sentV x now fl = v ∧ sentS x now fl = y) (hn : Num now) :
    Calls Try.prog 15 #[.pointer (some ⟨g, 0, none⟩), .int .u64 now, .int .u64 fl] w fun e w' => e = .returned v.v ∧ Room wB w' (samT g y :: L) :=
  (ssent_is e g w h.get0 hn).mono fun _ _ ⟨he, h1, k1⟩ => ⟨he, h.step0 (t' := samT g y) h1 k1 own_same⟩
theorem Room.sack {z : Snt} (h : Room wB w (samT g x :: L)) (e : ackS x now size z = y) (hn : Num now) (hs : Num size) (hz : z.Fit) :
    Calls Try.prog 9 #[.pointer (some ⟨g, 0, none⟩), .int .u64 now, .int .u64 size, z.v] w fun e w' => (∃ v, e = .returned v) ∧ Room wB w' (samT g y :: L) :=
  (sack_is e g w h.get0 hn hs hz).mono fun _ _ ⟨he, h1, k1⟩ => ⟨he, h.step0 (t' := samT g y) h1 k1 own_same⟩
theorem Room.stake {v : Spl} (h : Room wB w (samT g x :: L)) (e : takeV x now lost fl = v ∧ takeS x = y) (hn : Num now) :
    Calls Try.prog 11 #[.pointer (some ⟨g, 0, none⟩), .int .u64 now, .int .u64 lost, .int .u64 fl] w fun e w' => e = .returned v.v ∧ Room wB w' (samT g y :: L) :=
  (stake_is e g w h.get0 hn).mono fun _ _ ⟨he, h1, k1⟩ => ⟨he, h.step0 (t' := samT g y) h1 k1 own_same⟩
theorem Room.slim (h : Room wB w (samT g x :: L)) (e : limS x fl = y) (hf : Num fl) :
    Calls Try.prog 13 #[.pointer (some ⟨g, 0, none⟩), .int .u64 fl] w fun e w' => (∃ v, e = .returned v) ∧ Room wB w' (samT g y :: L) :=
  (slim_any g fl x w h.get0 hf).mono fun _ _ ⟨he, h1, k1⟩ => ⟨he, h.step0 (t' := samT g y) (e ▸ h1) k1 own_same⟩
theorem Room.sdel {a : Int} (h : Room wB w (samT g x :: L)) (e : x.d = a) : Calls Try.prog 17 #[.pointer (some ⟨g, 0, none⟩)] w fun e w' => e = .returned (.int .u64 a) ∧ w = w' := sdel_is e g w h.get0
end
end Go.Proofs.Ytiilbdmldonipaa
