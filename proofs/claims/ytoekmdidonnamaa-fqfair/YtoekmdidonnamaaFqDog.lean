/-
  Package fq: Watchdog: the least time that a flow waits for. Conditions: the queue lies in memory.
-/
import Derived.Test.YtoekmdidonnamaaFqAsk
import Derived.Test.YtoekmdidonnamaaFqWk
namespace Go.Proofs.Ytoekmdidonnamaa
open Go.RowKit
set_option maxRecDepth 100000
set_option linter.unusedSimpArgs false
set_option linter.unusedVariables false

section
variable {w w' : World} {g tg : Nat} {S : Nat → Prop} {cs : Array Value} {v : Nat → Value} {ks : List Key} {x : Qm}
theorem FQw.dog (h : FQw w g tg S cs v ks x) :
    Calls Try.prog 19 #[.pointer (some ⟨g, 0, none⟩)] w fun e w' => e = .returned (.tuple #[.int .u64 (hdK ks).a, .bool (hdB ks)]) ∧ Keep (fun _ => False) w w' := by
  have H := Lib.hid h
  have cw := h.wait
  obtain ⟨k, hk⟩ : ∃ k, hdK ks = k := ⟨_, rfl⟩
  have HK := Lib.hid hk
  rw [hk]
  obtain ⟨ka, kb⟩ := k
  clear h hk
  go_enter Try.func19, Try.ntmps19
  go_wp2_with fail
  refine (tmin_any w H.out.tree).mono ?_
  rintro e w1 ⟨rfl, k1⟩
  rw [HK.out]
  unfold kv
  have K1 := Lib.hid k1
  clear k1 cw
  go_wp2
  go_ret2
  exact ⟨rfl, K1.out.alloc _⟩
end
end Go.Proofs.Ytoekmdidonnamaa
