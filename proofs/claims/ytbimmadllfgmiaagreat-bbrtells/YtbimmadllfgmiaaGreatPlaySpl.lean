/-
  canterplay.Sample answers a sample whose numbers are not apart by too much. Conditions: the sample's numbers are of 64 bits.
-/
import Derived.Test.YtbimmadllfgmiaaGreatSplSt
import Derived.Test.YtbimmadllfgmiaaGreatObj
import Derived.Test.YtbimmadllfgmiaaGreatRoom
import Derived.Test.YtbimmadllfgmiaaGreatChecked
import Derived.WalkSpells
import Derived.WalkLawsBesides
import Derived.Deep.QuietTactic
import Derived.Deep.DeepCutAuto
import Derived.Deep.Draws
import Derived.Laws.ResultCell
set_option linter.unusedVariables false
namespace Go.Proofs.YtbimmadllfgmiaaGreat
open Go.RowKit
set_option maxRecDepth 100000
def playV (s : Spl) : Spl := ⟨s.n, s.d, s.p, s.i, s.r, s.a % 1099511627776, s.o % 1099511627776, s.f % 1099511627776, s.l⟩
theorem playV_fit {s : Spl} (h : s.Fit) : (playV s).Fit := by
  have h1 := h.a; have h2 := h.o; have h3 := h.f
  exact ⟨h.n, h.d, h.p, h.i, h.r, ⟨by show 0 ≤ s.a % _; omega, by show s.a % _ ≤ _; omega⟩, ⟨by show 0 ≤ s.o % _; omega, by show s.o % _ ≤ _; omega⟩, ⟨by show 0 ≤ s.f % _; omega, by show s.f % _ ≤ _; omega⟩⟩
set_option maxHeartbeats 2000000 in
theorem play_any (s : Spl) (w : World) (hs : s.Fit) : Calls Tryz.prog 9 #[s.v] w fun e w' => e = .returned (playV s).v ∧ Keep (fun _ => False) w w' := by
  obtain ⟨A, hA⟩ : ∃ A, s.a % 1099511627776 = A := ⟨_, rfl⟩
  obtain ⟨O, hO⟩ : ∃ A, s.o % 1099511627776 = A := ⟨_, rfl⟩
  obtain ⟨F, hF⟩ : ∃ A, s.f % 1099511627776 = A := ⟨_, rfl⟩
  have hp : playV s = ⟨s.n, s.d, s.p, s.i, s.r, A, O, F, s.l⟩ := by unfold playV; rw [hA, hO, hF]
  have hv : (playV s).v = .agg #[.int .u64 s.n, .int .u64 s.d, .int .u64 s.p, .int .u64 s.i, .int .u64 s.r, .int .u64 A, .int .u64 O, .int .u64 F, .bool s.l] := by rw [hp]
  have tA : s.a.tmod 1099511627776 = A := by rw [Int.tmod_eq_emod_of_nonneg hs.a.1]; exact hA
  have tO : s.o.tmod 1099511627776 = O := by rw [Int.tmod_eq_emod_of_nonneg hs.o.1]; exact hO
  have tF : s.f.tmod 1099511627776 = F := by rw [Int.tmod_eq_emod_of_nonneg hs.f.1]; exact hF
  have wA : IntKind.u64.wrap A = A := by have := hs.a.1; rw [IntKind.wrap_u64]; omega
  have wO : IntKind.u64.wrap O = O := by have := hs.o.1; rw [IntKind.wrap_u64]; omega
  have wF : IntKind.u64.wrap F = F := by have := hs.f.1; rw [IntKind.wrap_u64]; omega
  rw [hv]
  clear hp hv hA hO hF hs
  go_enter Tryz.func9, Tryz.ntmps9
  go_wp2
  refine bodyPost_ret (v := .agg #[.int .u64 s.n, .int .u64 s.d, .int .u64 s.p, .int .u64 s.i, .int .u64 s.r, .int .u64 A, .int .u64 O, .int .u64 F, .bool s.l]) (by rw [results_cell1 rfl]; go_simp) rfl ?_
  exact ⟨rfl, ((Keep.refl _ _).alloc _).alloc _⟩
theorem Room.play {wB w : World} {L : List Thing} {s t : Spl} (h : Room wB w L) (hs : s.Fit) (e : playV s = t) : Calls Tryz.prog 9 #[s.v] w fun e w' => e = .returned t.v ∧ Room wB w' L :=
  e ▸ (play_any s w hs).mono fun _ _ ⟨he, k⟩ => ⟨he, h.kept k⟩
end Go.Proofs.YtbimmadllfgmiaaGreat
