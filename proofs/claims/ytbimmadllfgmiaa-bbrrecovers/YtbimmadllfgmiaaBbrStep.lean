/-
  A model (package bbr), as plain numbers: the ways of BbrProbes and BbrRecovers, update by update. No program is spoken of. Conditions: none.
-/
import Derived.Test.YtbimmadllfgmiaaBbrMore
import Derived.Test.YtbimmadllfgmiaaBbrNew
import Derived.KernelRfl
set_option linter.unusedVariables false
set_option linter.unusedSimpArgs false
namespace Go.Proofs.Ytbimmadllfgmiaa
open Go.RowKit
set_option maxRecDepth 100000
def lookTo (z : Mdl) (s : Spl) (bb lv : Bool) (q : Prb) : Mdl :=
  if bb = true then { keepM { z with q := q } with m := 3 } else if lv = true then (if fullP z.p = true then cruM (resM { z with q := q }) s.n else { resM { z with q := q } with m := 0 }) else { z with q := q }
theorem upd_by {x x1 z y : Mdl} {s : Spl} {tso : Int} {st bb lv : Bool} {q : Prb} (hst : begR x.r s = st) (hone : oneM x s = x1) (hM : walM (pipM (turM (meaM x1 s) s) st s) s = z) (hb : begB z.q (looL z st s) = bb) (hl : leaB z.q (looL z st s) = lv) (hq : updB z.q (looL z st s) = q)
    (hy : fitM (menM (pacM (lookTo z s bb lv q)) st s) s tso = y) : updM x s tso = y := by
  have e : looM z st s = lookTo z s bb lv q := by unfold looM lookTo; rw [hb, hl, hq]
  rw [← hy, ← e, ← hM, ← hone, ← hst]; rfl
theorem upd_by2 {x x1 p v y : Mdl} {s : Spl} {tso : Int} {st : Bool} (hst : begR x.r s = st) (hone : oneM x s = x1) (hp : pacM (looM (walM (pipM (turM (meaM x1 s) s) st s) s) st s) = p) (hmen : menM p st s = v) (hy : fitM v s tso = y) : updM x s tso = y := by
  rw [← hy, ← hmen, ← hp, ← hone, ← hst]; rfl
/-! ### BbrProbes -/
section
variable {N : Int}
theorem sat_N {a : Int} (h0 : 0 ≤ a) (h1 : a ≤ 20000000000) : satAdd a 10000000000 = a + 10000000000 := by unfold satAdd; rw [if_pos (by omega)]
theorem sat_M {a : Int} (h0 : 0 ≤ a) (h1 : a ≤ 20000000000) : satAdd a 200000000 = a + 200000000 := by unfold satAdd; rw [if_pos (by omega)]
abbrev px1 : Mdl := ⟨⟨1, 1, 10000000000, 1, 10000000000, 1, 10000000000⟩, ⟨10000, 1⟩, ⟨10000000000, 0⟩, ⟨0, 0⟩, ⟨1000, 1000, false, 0, false⟩, ⟨false, false, 0, 0, 0, 0, 0, 0⟩, 1000, 0, 28867187500, 20000, 0, false, 0, false⟩
theorem prb1 : updM (newM (clampS 1000)) ⟨1000, 10000, 0, 1000, 1000, 10000, 0, 10000, false⟩ 2000 = px1 := by kernel_rfl
abbrev pz2 (N : Int) : Mdl := ⟨⟨2, 1, 10000000000, 1, 10000000000, 1, 10000000000⟩, ⟨20000, 2⟩, ⟨10000000000, 1⟩, ⟨0, 0⟩, ⟨1000, 1000, false, 0, false⟩, ⟨false, false, 0, 0, 0, 0, 0, 0⟩, 1000, 0, 28867187500, 20000, 0, false, 0, false⟩
abbrev px2 (N : Int) : Mdl := ⟨⟨2, 1, 10000000000, 1, 10000000000, 1, 10000000000⟩, ⟨20000, 2⟩, ⟨10000000000, 1⟩, ⟨0, 0⟩, ⟨2000, N, true, 0, false⟩, ⟨false, false, 0, 0, 0, 0, 0, 0⟩, 1000, 3, 28867187500, 4000, 20000, false, 0, false⟩
theorem prb2 (h0 : 10000001001 ≤ N) (h1 : N ≤ 10000002000) : updM px1 ⟨N, 20000, 10000, 2000, 2000, 10000, 0, 3000, false⟩ 2000 = px2 N := by
  have hex : expB ⟨1000, 1000, false, 0, false⟩ (N) = true := by
    simp only [expB]
    rw [sat_N (by omega) (by omega)]
    simp <;> omega
  have hl : looL (pz2 N) true ⟨N, 20000, 10000, 2000, 2000, 10000, 0, 3000, false⟩ = ⟨N, 2000, true, 3000, 4000⟩ := by kernel_rfl
  have hbg : begB ⟨1000, 1000, false, 0, false⟩ ⟨N, 2000, true, 3000, 4000⟩ = true := by simp [begB, hex]
  have hle : leaB ⟨1000, 1000, false, 0, false⟩ ⟨N, 2000, true, 3000, 4000⟩ = false := by simp [leaB]
  have htk : takeB ⟨1000, 1000, false, 0, false⟩ (N) 2000 (expB ⟨1000, 1000, false, 0, false⟩ (N)) = ⟨2000, N, false, 0, false⟩ := by rw [hex]; rfl
  have hq : updB ⟨1000, 1000, false, 0, false⟩ ⟨N, 2000, true, 3000, 4000⟩ = ⟨2000, N, true, 0, false⟩ := by
    unfold updB goB
    rw [hbg, hle]
    simp only [htk]
    rfl
  exact upd_by (z := pz2 N) (st := true) (bb := true) (lv := false) (q := ⟨2000, N, true, 0, false⟩) (by kernel_rfl) (x1 := _) rfl (by kernel_rfl) (by rw [hl]; exact hbg) (by rw [hl]; exact hle) (by rw [hl]; exact hq) (by kernel_rfl)
abbrev pz3 (N : Int) : Mdl := ⟨⟨3, 1, 10000000000, 1, 10000000000, 1, 10000000000⟩, ⟨21000, 3⟩, ⟨10000000000, 2⟩, ⟨0, 0⟩, ⟨2000, N, true, 0, false⟩, ⟨false, false, 0, 0, 0, 0, 0, 0⟩, 1000, 3, 28867187500, 4000, 20000, false, 0, false⟩
abbrev px3 (N : Int) : Mdl := ⟨⟨3, 1, 10000000000, 1, 10000000000, 1, 10000000000⟩, ⟨21000, 3⟩, ⟨10000000000, 2⟩, ⟨0, 0⟩, ⟨2000, (N + 1), true, (N + 1 + 200000000), false⟩, ⟨false, false, 0, 0, 0, 0, 0, 0⟩, 1000, 3, 28867187500, 4000, 20000, false, 0, false⟩
theorem prb3 (h0 : 10000001001 ≤ N) (h1 : N ≤ 10000002000) : updM (px2 N) ⟨N + 1, 21000, 20000, 2000, 2000, 1000, 0, 3000, false⟩ 2000 = px3 N := by
  have hex : expB ⟨2000, N, true, 0, false⟩ (N + 1) = false := by
    simp only [expB]
    rw [sat_N (by omega) (by omega)]
    simp <;> omega
  have hl : looL (pz3 N) true ⟨N + 1, 21000, 20000, 2000, 2000, 1000, 0, 3000, false⟩ = ⟨N + 1, 2000, true, 3000, 4000⟩ := by kernel_rfl
  have hbg : begB ⟨2000, N, true, 0, false⟩ ⟨N + 1, 2000, true, 3000, 4000⟩ = false := by simp [begB, hex]
  have hle : leaB ⟨2000, N, true, 0, false⟩ ⟨N + 1, 2000, true, 3000, 4000⟩ = false := by simp [leaB]
  have htk : takeB ⟨2000, N, true, 0, false⟩ (N + 1) 2000 (expB ⟨2000, N, true, 0, false⟩ (N + 1)) = ⟨2000, N + 1, true, 0, false⟩ := by rw [hex]; rfl
  have hq : updB ⟨2000, N, true, 0, false⟩ ⟨N + 1, 2000, true, 3000, 4000⟩ = ⟨2000, (N + 1), true, (N + 1 + 200000000), false⟩ := by
    unfold updB goB
    rw [hbg, hle]
    simp only [htk]
    rw [show satAdd (N + 1) 200000000 = N + 1 + 200000000 from sat_M (by omega) (by omega)]; simp
  exact upd_by (z := pz3 N) (st := true) (bb := false) (lv := false) (q := ⟨2000, (N + 1), true, (N + 1 + 200000000), false⟩) (by kernel_rfl) (x1 := _) rfl (by kernel_rfl) (by rw [hl]; exact hbg) (by rw [hl]; exact hle) (by rw [hl]; exact hq) (by kernel_rfl)
abbrev pz4 (N : Int) : Mdl := ⟨⟨4, 1, 10000000000, 4, 500000000, 4, 500000000⟩, ⟨22000, 4⟩, ⟨10000000000, 3⟩, ⟨0, 0⟩, ⟨2000, (N + 1), true, (N + 1 + 200000000), false⟩, ⟨false, false, 0, 0, 0, 0, 0, 0⟩, 1000, 3, 28867187500, 4000, 20000, false, 0, false⟩
abbrev px4 (N : Int) : Mdl := ⟨⟨4, 1, 10000000000, 4, 500000000, 4, 500000000⟩, ⟨22000, 4⟩, ⟨10000000000, 3⟩, ⟨0, 0⟩, ⟨2000, (N + 200000000), true, (N + 1 + 200000000), true⟩, ⟨false, false, 0, 0, 0, 0, 0, 0⟩, 1000, 3, 10000000000, 4000, 20000, false, 0, false⟩
theorem prb4 (h0 : 10000001001 ≤ N) (h1 : N ≤ 10000002000) : updM (px3 N) ⟨N + 200000000, 22000, 21000, 2000, 2000, 1000, 0, 3000, false⟩ 2000 = px4 N := by
  have hex : expB ⟨2000, (N + 1), true, (N + 1 + 200000000), false⟩ (N + 200000000) = false := by
    simp only [expB]
    rw [sat_N (by omega) (by omega)]
    simp <;> omega
  have hl : looL (pz4 N) true ⟨N + 200000000, 22000, 21000, 2000, 2000, 1000, 0, 3000, false⟩ = ⟨N + 200000000, 2000, true, 3000, 4000⟩ := by kernel_rfl
  have hbg : begB ⟨2000, (N + 1), true, (N + 1 + 200000000), false⟩ ⟨N + 200000000, 2000, true, 3000, 4000⟩ = false := by simp [begB, hex]
  have hle : leaB ⟨2000, (N + 1), true, (N + 1 + 200000000), false⟩ ⟨N + 200000000, 2000, true, 3000, 4000⟩ = false := by simp [leaB]; omega
  have htk : takeB ⟨2000, (N + 1), true, (N + 1 + 200000000), false⟩ (N + 200000000) 2000 (expB ⟨2000, (N + 1), true, (N + 1 + 200000000), false⟩ (N + 200000000)) = ⟨2000, N + 200000000, true, (N + 1 + 200000000), false⟩ := by rw [hex]; rfl
  have hq : updB ⟨2000, (N + 1), true, (N + 1 + 200000000), false⟩ ⟨N + 200000000, 2000, true, 3000, 4000⟩ = ⟨2000, (N + 200000000), true, (N + 1 + 200000000), true⟩ := by
    unfold updB goB
    rw [hbg, hle]
    simp only [htk]
    rw [if_neg (by decide), if_neg (by decide), if_neg (by omega)]; rfl
  exact upd_by (z := pz4 N) (st := true) (bb := false) (lv := false) (q := ⟨2000, (N + 200000000), true, (N + 1 + 200000000), true⟩) (by kernel_rfl) (x1 := _) rfl (by kernel_rfl) (by rw [hl]; exact hbg) (by rw [hl]; exact hle) (by rw [hl]; exact hq) (by kernel_rfl)
abbrev pz5 (N : Int) : Mdl := ⟨⟨5, 1, 10000000000, 5, 500000000, 5, 500000000⟩, ⟨23000, 5⟩, ⟨10000000000, 3⟩, ⟨0, 0⟩, ⟨2000, (N + 200000000), true, (N + 1 + 200000000), true⟩, ⟨false, false, 0, 0, 0, 0, 0, 0⟩, 1000, 3, 10000000000, 4000, 20000, false, 0, false⟩
abbrev px5 (N : Int) : Mdl := ⟨⟨5, 1, 10000000000, 5, 500000000, 5, 500000000⟩, ⟨23000, 5⟩, ⟨10000000000, 3⟩, ⟨2, (N + 2 + 200000000)⟩, ⟨2000, (N + 2 + 200000000), false, (N + 1 + 200000000), true⟩, ⟨false, false, 0, 0, 0, 0, 0, 0⟩, 1000, 2, 10000000000, 21000, 0, false, 0, false⟩
theorem prb5 (h0 : 10000001001 ≤ N) (h1 : N ≤ 10000002000) : updM (px4 N) ⟨N + 2 + 200000000, 23000, 22000, 2000, 2000, 1000, 0, 3000, false⟩ 2000 = px5 N := by
  have hex : expB ⟨2000, (N + 200000000), true, (N + 1 + 200000000), true⟩ (N + 2 + 200000000) = false := by
    simp only [expB]
    rw [sat_N (by omega) (by omega)]
    simp <;> omega
  have hl : looL (pz5 N) true ⟨N + 2 + 200000000, 23000, 22000, 2000, 2000, 1000, 0, 3000, false⟩ = ⟨N + 2 + 200000000, 2000, true, 3000, 4000⟩ := by kernel_rfl
  have hbg : begB ⟨2000, (N + 200000000), true, (N + 1 + 200000000), true⟩ ⟨N + 2 + 200000000, 2000, true, 3000, 4000⟩ = false := by simp [begB, hex]
  have hle : leaB ⟨2000, (N + 200000000), true, (N + 1 + 200000000), true⟩ ⟨N + 2 + 200000000, 2000, true, 3000, 4000⟩ = true := by simp [leaB]; omega
  have htk : takeB ⟨2000, (N + 200000000), true, (N + 1 + 200000000), true⟩ (N + 2 + 200000000) 2000 (expB ⟨2000, (N + 200000000), true, (N + 1 + 200000000), true⟩ (N + 2 + 200000000)) = ⟨2000, N + 2 + 200000000, true, (N + 1 + 200000000), true⟩ := by rw [hex]; rfl
  have hq : updB ⟨2000, (N + 200000000), true, (N + 1 + 200000000), true⟩ ⟨N + 2 + 200000000, 2000, true, 3000, 4000⟩ = ⟨2000, (N + 2 + 200000000), false, (N + 1 + 200000000), true⟩ := by
    unfold updB goB
    rw [hbg, hle]
    simp only [htk]
    rw [if_neg (by decide), if_neg (by decide), if_neg (by omega)]; rfl
  exact upd_by (z := pz5 N) (st := true) (bb := false) (lv := true) (q := ⟨2000, (N + 2 + 200000000), false, (N + 1 + 200000000), true⟩) (by kernel_rfl) (x1 := _) rfl (by kernel_rfl) (by rw [hl]; exact hbg) (by rw [hl]; exact hle) (by rw [hl]; exact hq) (by kernel_rfl)
end
/-! ### BbrRecovers -/
section
variable {L P A : Int}
abbrev rx1 : Mdl := ⟨⟨1, 1, 10000000, 1, 10000000, 1, 10000000⟩, ⟨10000, 1⟩, ⟨10000000, 0⟩, ⟨0, 0⟩, ⟨1000000, 1000000, false, 0, false⟩, ⟨false, false, 0, 0, 0, 0, 0, 0⟩, 1000, 0, 28867187, 20000, 0, false, 0, false⟩
abbrev ra1 (P A : Int) : Mdl := ⟨⟨1, 1, 10000000, 1, 10000000, 1, 10000000⟩, ⟨10000, 1⟩, ⟨10000000, 0⟩, ⟨0, 0⟩, ⟨1000000, 1000000, false, 0, false⟩, ⟨false, true, 1000001, 10000, P, 0, 0, P⟩, 1000, 0, 28867187, A, 20000, true, 20000, true⟩
abbrev rb1 (P : Int) : Mdl := ⟨⟨2, 2, 10000000, 2, 10000000, 2, 10000000⟩, ⟨20000, 2⟩, ⟨10000000, 1⟩, ⟨0, 0⟩, ⟨1000000, 1000002, false, 0, false⟩, ⟨false, true, 1000001, 10000, P, 0, 1, satAdd P 0⟩, 1000, 0, 28867187, 30000, 0, false, 20000, false⟩
theorem rec1a (h1 : 1 ≤ L) (h2 : L ≤ 20000) : ∃ P A, 10000 ≤ A ∧ A ≤ 20000 ∧ updM rx1 ⟨1000001, 10000, 0, 0, 0, 0, L, 10000, false⟩ 2000 = ra1 P A := by
  obtain ⟨P, hP⟩ : ∃ P, satAdd 0 L = P := ⟨_, rfl⟩
  obtain ⟨A, hA⟩ : ∃ A, maxI (maxI (maxI (satSub 20000 L) 1000) 10000) 4000 = A := ⟨_, rfl⟩
  refine ⟨P, A, ?_, ?_, ?_⟩
  · rw [← hA]; unfold maxI satSub; repeat' split
    all_goals omega
  · rw [← hA]; unfold maxI satSub; repeat' split
    all_goals omega
  have hpol : updPol rx1.o false ⟨1000001, 10000, 0, 0, 0, 0, L, 10000, false⟩ = ⟨false, true, 1000001, 10000, P, 0, 0, P⟩ := by
    unfold updPol
    rw [if_neg (by decide), if_pos rfl, if_pos (show 0 < L by omega), ← hP]; rfl
  refine upd_by2 (st := false) (x1 := { rx1 with o := ⟨false, true, 1000001, 10000, P, 0, 0, P⟩ }) (p := ⟨⟨1, 1, 10000000, 1, 10000000, 1, 10000000⟩, ⟨10000, 1⟩, ⟨10000000, 0⟩, ⟨0, 0⟩, ⟨1000000, 1000000, false, 0, false⟩, ⟨false, true, 1000001, 10000, P, 0, 0, P⟩, 1000, 0, 28867187, 20000, 0, false, 0, false⟩) (v := ⟨⟨1, 1, 10000000, 1, 10000000, 1, 10000000⟩, ⟨10000, 1⟩, ⟨10000000, 0⟩, ⟨0, 0⟩, ⟨1000000, 1000000, false, 0, false⟩, ⟨false, true, 1000001, 10000, P, 0, 0, P⟩, 1000, 0, 28867187, 20000, 20000, true, 20000, true⟩) rfl ?_ (by kernel_rfl) ?_ ?_
  · rw [← hpol]; rfl
  · unfold menM
    rw [if_pos (by simp; omega)]; rfl
  · rw [← hA]; kernel_rfl
theorem rec1b (h1 : 10000 ≤ A) (h2 : A ≤ 20000) : updM (ra1 P A) ⟨1000002, 20000, 10000, 1000000, 1000000, 10000, 0, 0, false⟩ 2000 = rb1 P := by
  have hm : maxI A 20000 = 20000 := by unfold maxI; split <;> omega
  refine upd_by2 (st := true) (x1 := oneM (ra1 P A) ⟨1000002, 20000, 10000, 1000000, 1000000, 10000, 0, 0, false⟩) (p := ⟨⟨2, 2, 10000000, 2, 10000000, 2, 10000000⟩, ⟨20000, 2⟩, ⟨10000000, 1⟩, ⟨0, 0⟩, ⟨1000000, 1000002, false, 0, false⟩, ⟨false, true, 1000001, 10000, P, 0, 1, satAdd P 0⟩, 1000, 0, 28867187, A, 20000, true, 20000, true⟩) (v := ⟨⟨2, 2, 10000000, 2, 10000000, 2, 10000000⟩, ⟨20000, 2⟩, ⟨10000000, 1⟩, ⟨0, 0⟩, ⟨1000000, 1000002, false, 0, false⟩, ⟨false, true, 1000001, 10000, P, 0, 1, satAdd P 0⟩, 1000, 0, 28867187, 20000, 0, false, 20000, false⟩) rfl rfl (by kernel_rfl) ?_ (by kernel_rfl)
  have e : menM ⟨⟨2, 2, 10000000, 2, 10000000, 2, 10000000⟩, ⟨20000, 2⟩, ⟨10000000, 1⟩, ⟨0, 0⟩, ⟨1000000, 1000002, false, 0, false⟩, ⟨false, true, 1000001, 10000, P, 0, 1, satAdd P 0⟩, 1000, 0, 28867187, A, 20000, true, 20000, true⟩ true ⟨1000002, 20000, 10000, 1000000, 1000000, 10000, 0, 0, false⟩ = ⟨⟨2, 2, 10000000, 2, 10000000, 2, 10000000⟩, ⟨20000, 2⟩, ⟨10000000, 1⟩, ⟨0, 0⟩, ⟨1000000, 1000002, false, 0, false⟩, ⟨false, true, 1000001, 10000, P, 0, 1, satAdd P 0⟩, 1000, 0, 28867187, (maxI A 20000), 0, false, 20000, false⟩ := by kernel_rfl
  rw [e, hm]
abbrev rx2 : Mdl := ⟨⟨2, 2, 10000000, 2, 10000000, 2, 10000000⟩, ⟨20000, 2⟩, ⟨10000000, 1⟩, ⟨0, 0⟩, ⟨1000000, 2000000, false, 0, false⟩, ⟨false, false, 0, 0, 0, 0, 0, 0⟩, 1000, 0, 28867187, 30000, 0, false, 0, false⟩
abbrev ra2 (P A : Int) : Mdl := ⟨⟨2, 2, 10000000, 2, 10000000, 2, 10000000⟩, ⟨20000, 2⟩, ⟨10000000, 1⟩, ⟨0, 0⟩, ⟨1000000, 2000000, false, 0, false⟩, ⟨false, true, 2000001, 20000, P, 0, 0, P⟩, 1000, 0, 28867187, A, 30000, true, 30000, true⟩
abbrev rb2 (P : Int) : Mdl := ⟨⟨3, 3, 10000000, 3, 10000000, 3, 10000000⟩, ⟨30000, 3⟩, ⟨10000000, 2⟩, ⟨0, 0⟩, ⟨1000000, 2000002, false, 0, false⟩, ⟨false, true, 2000001, 20000, P, 0, 1, satAdd P 0⟩, 1000, 0, 28867187, 40000, 0, false, 30000, false⟩
theorem rec2a (h1 : 1 ≤ L) (h2 : L ≤ 20000) : ∃ P A, 10000 ≤ A ∧ A ≤ 30000 ∧ updM rx2 ⟨2000001, 20000, 0, 0, 0, 0, L, 10000, false⟩ 2000 = ra2 P A := by
  obtain ⟨P, hP⟩ : ∃ P, satAdd 0 L = P := ⟨_, rfl⟩
  obtain ⟨A, hA⟩ : ∃ A, maxI (maxI (maxI (satSub 30000 L) 1000) 10000) 4000 = A := ⟨_, rfl⟩
  refine ⟨P, A, ?_, ?_, ?_⟩
  · rw [← hA]; unfold maxI satSub; repeat' split
    all_goals omega
  · rw [← hA]; unfold maxI satSub; repeat' split
    all_goals omega
  have hpol : updPol rx2.o false ⟨2000001, 20000, 0, 0, 0, 0, L, 10000, false⟩ = ⟨false, true, 2000001, 20000, P, 0, 0, P⟩ := by
    unfold updPol
    rw [if_neg (by decide), if_pos rfl, if_pos (show 0 < L by omega), ← hP]; rfl
  refine upd_by2 (st := false) (x1 := { rx2 with o := ⟨false, true, 2000001, 20000, P, 0, 0, P⟩ }) (p := ⟨⟨2, 2, 10000000, 2, 10000000, 2, 10000000⟩, ⟨20000, 2⟩, ⟨10000000, 1⟩, ⟨0, 0⟩, ⟨1000000, 2000000, false, 0, false⟩, ⟨false, true, 2000001, 20000, P, 0, 0, P⟩, 1000, 0, 28867187, 30000, 0, false, 0, false⟩) (v := ⟨⟨2, 2, 10000000, 2, 10000000, 2, 10000000⟩, ⟨20000, 2⟩, ⟨10000000, 1⟩, ⟨0, 0⟩, ⟨1000000, 2000000, false, 0, false⟩, ⟨false, true, 2000001, 20000, P, 0, 0, P⟩, 1000, 0, 28867187, 30000, 30000, true, 30000, true⟩) rfl ?_ (by kernel_rfl) ?_ ?_
  · rw [← hpol]; rfl
  · unfold menM
    rw [if_pos (by simp; omega)]; rfl
  · rw [← hA]; kernel_rfl
theorem rec2b (h1 : 10000 ≤ A) (h2 : A ≤ 30000) : updM (ra2 P A) ⟨2000002, 30000, 20000, 1000000, 1000000, 10000, 0, 0, false⟩ 2000 = rb2 P := by
  have hm : maxI A 30000 = 30000 := by unfold maxI; split <;> omega
  refine upd_by2 (st := true) (x1 := oneM (ra2 P A) ⟨2000002, 30000, 20000, 1000000, 1000000, 10000, 0, 0, false⟩) (p := ⟨⟨3, 3, 10000000, 3, 10000000, 3, 10000000⟩, ⟨30000, 3⟩, ⟨10000000, 2⟩, ⟨0, 0⟩, ⟨1000000, 2000002, false, 0, false⟩, ⟨false, true, 2000001, 20000, P, 0, 1, satAdd P 0⟩, 1000, 0, 28867187, A, 30000, true, 30000, true⟩) (v := ⟨⟨3, 3, 10000000, 3, 10000000, 3, 10000000⟩, ⟨30000, 3⟩, ⟨10000000, 2⟩, ⟨0, 0⟩, ⟨1000000, 2000002, false, 0, false⟩, ⟨false, true, 2000001, 20000, P, 0, 1, satAdd P 0⟩, 1000, 0, 28867187, 30000, 0, false, 30000, false⟩) rfl rfl (by kernel_rfl) ?_ (by kernel_rfl)
  have e : menM ⟨⟨3, 3, 10000000, 3, 10000000, 3, 10000000⟩, ⟨30000, 3⟩, ⟨10000000, 2⟩, ⟨0, 0⟩, ⟨1000000, 2000002, false, 0, false⟩, ⟨false, true, 2000001, 20000, P, 0, 1, satAdd P 0⟩, 1000, 0, 28867187, A, 30000, true, 30000, true⟩ true ⟨2000002, 30000, 20000, 1000000, 1000000, 10000, 0, 0, false⟩ = ⟨⟨3, 3, 10000000, 3, 10000000, 3, 10000000⟩, ⟨30000, 3⟩, ⟨10000000, 2⟩, ⟨0, 0⟩, ⟨1000000, 2000002, false, 0, false⟩, ⟨false, true, 2000001, 20000, P, 0, 1, satAdd P 0⟩, 1000, 0, 28867187, (maxI A 30000), 0, false, 30000, false⟩ := by kernel_rfl
  rw [e, hm]
abbrev rx3 : Mdl := ⟨⟨3, 3, 10000000, 3, 10000000, 3, 10000000⟩, ⟨30000, 3⟩, ⟨10000000, 2⟩, ⟨0, 0⟩, ⟨1000000, 3000000, false, 0, false⟩, ⟨false, false, 0, 0, 0, 0, 0, 0⟩, 1000, 0, 28867187, 40000, 0, false, 0, false⟩
abbrev ra3 (P A : Int) : Mdl := ⟨⟨3, 3, 10000000, 3, 10000000, 3, 10000000⟩, ⟨30000, 3⟩, ⟨10000000, 2⟩, ⟨0, 0⟩, ⟨1000000, 3000000, false, 0, false⟩, ⟨false, true, 3000001, 30000, P, 0, 0, P⟩, 1000, 0, 28867187, A, 40000, true, 40000, true⟩
abbrev rb3 (P : Int) : Mdl := ⟨⟨4, 4, 10000000, 4, 10000000, 4, 10000000⟩, ⟨40000, 4⟩, ⟨10000000, 3⟩, ⟨2, 3000002⟩, ⟨1000000, 3000002, false, 0, false⟩, ⟨false, true, 3000001, 30000, P, 0, 1, satAdd P 0⟩, 1000, 2, 10000000, 26000, 0, false, 40000, false⟩
theorem rec3a (h1 : 1 ≤ L) (h2 : L ≤ 20000) : ∃ P A, 10000 ≤ A ∧ A ≤ 40000 ∧ updM rx3 ⟨3000001, 30000, 0, 0, 0, 0, L, 10000, false⟩ 2000 = ra3 P A := by
  obtain ⟨P, hP⟩ : ∃ P, satAdd 0 L = P := ⟨_, rfl⟩
  obtain ⟨A, hA⟩ : ∃ A, maxI (maxI (maxI (satSub 40000 L) 1000) 10000) 4000 = A := ⟨_, rfl⟩
  refine ⟨P, A, ?_, ?_, ?_⟩
  · rw [← hA]; unfold maxI satSub; repeat' split
    all_goals omega
  · rw [← hA]; unfold maxI satSub; repeat' split
    all_goals omega
  have hpol : updPol rx3.o false ⟨3000001, 30000, 0, 0, 0, 0, L, 10000, false⟩ = ⟨false, true, 3000001, 30000, P, 0, 0, P⟩ := by
    unfold updPol
    rw [if_neg (by decide), if_pos rfl, if_pos (show 0 < L by omega), ← hP]; rfl
  refine upd_by2 (st := false) (x1 := { rx3 with o := ⟨false, true, 3000001, 30000, P, 0, 0, P⟩ }) (p := ⟨⟨3, 3, 10000000, 3, 10000000, 3, 10000000⟩, ⟨30000, 3⟩, ⟨10000000, 2⟩, ⟨0, 0⟩, ⟨1000000, 3000000, false, 0, false⟩, ⟨false, true, 3000001, 30000, P, 0, 0, P⟩, 1000, 0, 28867187, 40000, 0, false, 0, false⟩) (v := ⟨⟨3, 3, 10000000, 3, 10000000, 3, 10000000⟩, ⟨30000, 3⟩, ⟨10000000, 2⟩, ⟨0, 0⟩, ⟨1000000, 3000000, false, 0, false⟩, ⟨false, true, 3000001, 30000, P, 0, 0, P⟩, 1000, 0, 28867187, 40000, 40000, true, 40000, true⟩) rfl ?_ (by kernel_rfl) ?_ ?_
  · rw [← hpol]; rfl
  · unfold menM
    rw [if_pos (by simp; omega)]; rfl
  · rw [← hA]; kernel_rfl
theorem rec3b (h1 : 10000 ≤ A) (h2 : A ≤ 40000) : updM (ra3 P A) ⟨3000002, 40000, 30000, 1000000, 1000000, 10000, 0, 0, false⟩ 2000 = rb3 P := by
  have hm : maxI A 40000 = 40000 := by unfold maxI; split <;> omega
  refine upd_by2 (st := true) (x1 := oneM (ra3 P A) ⟨3000002, 40000, 30000, 1000000, 1000000, 10000, 0, 0, false⟩) (p := ⟨⟨4, 4, 10000000, 4, 10000000, 4, 10000000⟩, ⟨40000, 4⟩, ⟨10000000, 3⟩, ⟨2, 3000002⟩, ⟨1000000, 3000002, false, 0, false⟩, ⟨false, true, 3000001, 30000, P, 0, 1, satAdd P 0⟩, 1000, 2, 10000000, A, 40000, true, 40000, true⟩) (v := ⟨⟨4, 4, 10000000, 4, 10000000, 4, 10000000⟩, ⟨40000, 4⟩, ⟨10000000, 3⟩, ⟨2, 3000002⟩, ⟨1000000, 3000002, false, 0, false⟩, ⟨false, true, 3000001, 30000, P, 0, 1, satAdd P 0⟩, 1000, 2, 10000000, 40000, 0, false, 40000, false⟩) rfl rfl (by kernel_rfl) ?_ (by kernel_rfl)
  have e : menM ⟨⟨4, 4, 10000000, 4, 10000000, 4, 10000000⟩, ⟨40000, 4⟩, ⟨10000000, 3⟩, ⟨2, 3000002⟩, ⟨1000000, 3000002, false, 0, false⟩, ⟨false, true, 3000001, 30000, P, 0, 1, satAdd P 0⟩, 1000, 2, 10000000, A, 40000, true, 40000, true⟩ true ⟨3000002, 40000, 30000, 1000000, 1000000, 10000, 0, 0, false⟩ = ⟨⟨4, 4, 10000000, 4, 10000000, 4, 10000000⟩, ⟨40000, 4⟩, ⟨10000000, 3⟩, ⟨2, 3000002⟩, ⟨1000000, 3000002, false, 0, false⟩, ⟨false, true, 3000001, 30000, P, 0, 1, satAdd P 0⟩, 1000, 2, 10000000, (maxI A 40000), 0, false, 40000, false⟩ := by kernel_rfl
  rw [e, hm]
abbrev rx4 : Mdl := ⟨⟨4, 4, 10000000, 4, 10000000, 4, 10000000⟩, ⟨40000, 4⟩, ⟨10000000, 3⟩, ⟨2, 4000000⟩, ⟨1000000, 4000000, false, 0, false⟩, ⟨false, false, 0, 0, 0, 0, 0, 0⟩, 1000, 2, 10000000, 26000, 0, false, 0, false⟩
abbrev ra4 (P A : Int) : Mdl := ⟨⟨4, 4, 10000000, 4, 10000000, 4, 10000000⟩, ⟨40000, 4⟩, ⟨10000000, 3⟩, ⟨2, 4000000⟩, ⟨1000000, 4000000, false, 0, false⟩, ⟨false, true, 4000001, 40000, P, 0, 0, P⟩, 1000, 2, 10000000, A, 26000, true, 50000, true⟩
abbrev rb4 (P : Int) : Mdl := ⟨⟨5, 5, 10000000, 5, 10000000, 5, 10000000⟩, ⟨50000, 5⟩, ⟨10000000, 3⟩, ⟨2, 4000000⟩, ⟨1000000, 4000002, false, 0, false⟩, ⟨false, true, 4000001, 40000, P, 0, 1, satAdd P 0⟩, 1000, 2, 10000000, 26000, 0, false, 50000, false⟩
theorem rec4a (h1 : 1 ≤ L) (h2 : L ≤ 20000) : ∃ P A, 10000 ≤ A ∧ A ≤ 26000 ∧ updM rx4 ⟨4000001, 40000, 0, 0, 0, 0, L, 10000, false⟩ 2000 = ra4 P A := by
  obtain ⟨P, hP⟩ : ∃ P, satAdd 0 L = P := ⟨_, rfl⟩
  obtain ⟨A, hA⟩ : ∃ A, maxI (maxI (maxI (satSub 26000 L) 1000) 10000) 4000 = A := ⟨_, rfl⟩
  refine ⟨P, A, ?_, ?_, ?_⟩
  · rw [← hA]; unfold maxI satSub; repeat' split
    all_goals omega
  · rw [← hA]; unfold maxI satSub; repeat' split
    all_goals omega
  have hpol : updPol rx4.o false ⟨4000001, 40000, 0, 0, 0, 0, L, 10000, false⟩ = ⟨false, true, 4000001, 40000, P, 0, 0, P⟩ := by
    unfold updPol
    rw [if_neg (by decide), if_pos rfl, if_pos (show 0 < L by omega), ← hP]; rfl
  refine upd_by2 (st := false) (x1 := { rx4 with o := ⟨false, true, 4000001, 40000, P, 0, 0, P⟩ }) (p := ⟨⟨4, 4, 10000000, 4, 10000000, 4, 10000000⟩, ⟨40000, 4⟩, ⟨10000000, 3⟩, ⟨2, 4000000⟩, ⟨1000000, 4000000, false, 0, false⟩, ⟨false, true, 4000001, 40000, P, 0, 0, P⟩, 1000, 2, 10000000, 26000, 0, false, 0, false⟩) (v := ⟨⟨4, 4, 10000000, 4, 10000000, 4, 10000000⟩, ⟨40000, 4⟩, ⟨10000000, 3⟩, ⟨2, 4000000⟩, ⟨1000000, 4000000, false, 0, false⟩, ⟨false, true, 4000001, 40000, P, 0, 0, P⟩, 1000, 2, 10000000, 26000, 26000, true, 50000, true⟩) rfl ?_ (by kernel_rfl) ?_ ?_
  · rw [← hpol]; rfl
  · unfold menM
    rw [if_pos (by simp; omega)]; rfl
  · rw [← hA]; kernel_rfl
theorem rec4b (h1 : 10000 ≤ A) (h2 : A ≤ 26000) : updM (ra4 P A) ⟨4000002, 50000, 40000, 1000000, 1000000, 10000, 0, 0, false⟩ 2000 = rb4 P := by
  have hm : maxI A 26000 = 26000 := by unfold maxI; split <;> omega
  refine upd_by2 (st := true) (x1 := oneM (ra4 P A) ⟨4000002, 50000, 40000, 1000000, 1000000, 10000, 0, 0, false⟩) (p := ⟨⟨5, 5, 10000000, 5, 10000000, 5, 10000000⟩, ⟨50000, 5⟩, ⟨10000000, 3⟩, ⟨2, 4000000⟩, ⟨1000000, 4000002, false, 0, false⟩, ⟨false, true, 4000001, 40000, P, 0, 1, satAdd P 0⟩, 1000, 2, 10000000, A, 26000, true, 50000, true⟩) (v := ⟨⟨5, 5, 10000000, 5, 10000000, 5, 10000000⟩, ⟨50000, 5⟩, ⟨10000000, 3⟩, ⟨2, 4000000⟩, ⟨1000000, 4000002, false, 0, false⟩, ⟨false, true, 4000001, 40000, P, 0, 1, satAdd P 0⟩, 1000, 2, 10000000, 26000, 0, false, 50000, false⟩) rfl rfl (by kernel_rfl) ?_ (by kernel_rfl)
  have e : menM ⟨⟨5, 5, 10000000, 5, 10000000, 5, 10000000⟩, ⟨50000, 5⟩, ⟨10000000, 3⟩, ⟨2, 4000000⟩, ⟨1000000, 4000002, false, 0, false⟩, ⟨false, true, 4000001, 40000, P, 0, 1, satAdd P 0⟩, 1000, 2, 10000000, A, 26000, true, 50000, true⟩ true ⟨4000002, 50000, 40000, 1000000, 1000000, 10000, 0, 0, false⟩ = ⟨⟨5, 5, 10000000, 5, 10000000, 5, 10000000⟩, ⟨50000, 5⟩, ⟨10000000, 3⟩, ⟨2, 4000000⟩, ⟨1000000, 4000002, false, 0, false⟩, ⟨false, true, 4000001, 40000, P, 0, 1, satAdd P 0⟩, 1000, 2, 10000000, (maxI A 26000), 0, false, 50000, false⟩ := by kernel_rfl
  rw [e, hm]
abbrev rx5 : Mdl := ⟨⟨5, 5, 10000000, 5, 10000000, 5, 10000000⟩, ⟨50000, 5⟩, ⟨10000000, 3⟩, ⟨2, 4000000⟩, ⟨1000000, 5000000, false, 0, false⟩, ⟨false, false, 0, 0, 0, 0, 0, 0⟩, 1000, 2, 10000000, 26000, 0, false, 0, false⟩
abbrev ra5 (P A : Int) : Mdl := ⟨⟨5, 5, 10000000, 5, 10000000, 5, 10000000⟩, ⟨50000, 5⟩, ⟨10000000, 3⟩, ⟨3, 5000001⟩, ⟨1000000, 5000000, false, 0, false⟩, ⟨false, true, 5000001, 50000, P, 0, 0, P⟩, 1000, 2, 10000000, A, 26000, true, 60000, true⟩
abbrev rb5 (P : Int) : Mdl := ⟨⟨6, 6, 10000000, 6, 10000000, 6, 10000000⟩, ⟨60000, 6⟩, ⟨10000000, 3⟩, ⟨3, 5000001⟩, ⟨1000000, 5000002, false, 0, false⟩, ⟨false, true, 5000001, 50000, P, 0, 1, satAdd P 0⟩, 1000, 2, 10000000, 26000, 0, false, 60000, false⟩
theorem rec5a (h1 : 1 ≤ L) (h2 : L ≤ 20000) : ∃ P A, 10000 ≤ A ∧ A ≤ 26000 ∧ updM rx5 ⟨5000001, 50000, 0, 0, 0, 0, L, 10000, false⟩ 2000 = ra5 P A := by
  obtain ⟨P, hP⟩ : ∃ P, satAdd 0 L = P := ⟨_, rfl⟩
  obtain ⟨A, hA⟩ : ∃ A, maxI (maxI (maxI (satSub 26000 L) 1000) 10000) 4000 = A := ⟨_, rfl⟩
  refine ⟨P, A, ?_, ?_, ?_⟩
  · rw [← hA]; unfold maxI satSub; repeat' split
    all_goals omega
  · rw [← hA]; unfold maxI satSub; repeat' split
    all_goals omega
  have hpol : updPol rx5.o false ⟨5000001, 50000, 0, 0, 0, 0, L, 10000, false⟩ = ⟨false, true, 5000001, 50000, P, 0, 0, P⟩ := by
    unfold updPol
    rw [if_neg (by decide), if_pos rfl, if_pos (show 0 < L by omega), ← hP]; rfl
  refine upd_by2 (st := false) (x1 := { rx5 with o := ⟨false, true, 5000001, 50000, P, 0, 0, P⟩ }) (p := ⟨⟨5, 5, 10000000, 5, 10000000, 5, 10000000⟩, ⟨50000, 5⟩, ⟨10000000, 3⟩, ⟨3, 5000001⟩, ⟨1000000, 5000000, false, 0, false⟩, ⟨false, true, 5000001, 50000, P, 0, 0, P⟩, 1000, 2, 10000000, 26000, 0, false, 0, false⟩) (v := ⟨⟨5, 5, 10000000, 5, 10000000, 5, 10000000⟩, ⟨50000, 5⟩, ⟨10000000, 3⟩, ⟨3, 5000001⟩, ⟨1000000, 5000000, false, 0, false⟩, ⟨false, true, 5000001, 50000, P, 0, 0, P⟩, 1000, 2, 10000000, 26000, 26000, true, 60000, true⟩) rfl ?_ (by kernel_rfl) ?_ ?_
  · rw [← hpol]; rfl
  · unfold menM
    rw [if_pos (by simp; omega)]; rfl
  · rw [← hA]; kernel_rfl
theorem rec5b (h1 : 10000 ≤ A) (h2 : A ≤ 26000) : updM (ra5 P A) ⟨5000002, 60000, 50000, 1000000, 1000000, 10000, 0, 0, false⟩ 2000 = rb5 P := by
  have hm : maxI A 26000 = 26000 := by unfold maxI; split <;> omega
  refine upd_by2 (st := true) (x1 := oneM (ra5 P A) ⟨5000002, 60000, 50000, 1000000, 1000000, 10000, 0, 0, false⟩) (p := ⟨⟨6, 6, 10000000, 6, 10000000, 6, 10000000⟩, ⟨60000, 6⟩, ⟨10000000, 3⟩, ⟨3, 5000001⟩, ⟨1000000, 5000002, false, 0, false⟩, ⟨false, true, 5000001, 50000, P, 0, 1, satAdd P 0⟩, 1000, 2, 10000000, A, 26000, true, 60000, true⟩) (v := ⟨⟨6, 6, 10000000, 6, 10000000, 6, 10000000⟩, ⟨60000, 6⟩, ⟨10000000, 3⟩, ⟨3, 5000001⟩, ⟨1000000, 5000002, false, 0, false⟩, ⟨false, true, 5000001, 50000, P, 0, 1, satAdd P 0⟩, 1000, 2, 10000000, 26000, 0, false, 60000, false⟩) rfl rfl (by kernel_rfl) ?_ (by kernel_rfl)
  have e : menM ⟨⟨6, 6, 10000000, 6, 10000000, 6, 10000000⟩, ⟨60000, 6⟩, ⟨10000000, 3⟩, ⟨3, 5000001⟩, ⟨1000000, 5000002, false, 0, false⟩, ⟨false, true, 5000001, 50000, P, 0, 1, satAdd P 0⟩, 1000, 2, 10000000, A, 26000, true, 60000, true⟩ true ⟨5000002, 60000, 50000, 1000000, 1000000, 10000, 0, 0, false⟩ = ⟨⟨6, 6, 10000000, 6, 10000000, 6, 10000000⟩, ⟨60000, 6⟩, ⟨10000000, 3⟩, ⟨3, 5000001⟩, ⟨1000000, 5000002, false, 0, false⟩, ⟨false, true, 5000001, 50000, P, 0, 1, satAdd P 0⟩, 1000, 2, 10000000, (maxI A 26000), 0, false, 60000, false⟩ := by kernel_rfl
  rw [e, hm]
theorem rec1 : updM (newM (clampS 1000)) ⟨1000000, 10000, 0, 1000000, 1000000, 10000, 0, 10000, false⟩ 2000 = rx1 := by kernel_rfl
theorem rec2 : updM (rx1) ⟨2000000, 20000, 10000, 1000000, 1000000, 10000, 0, 10000, false⟩ 2000 = rx2 := by kernel_rfl
theorem rec3 : updM (rx2) ⟨3000000, 30000, 20000, 1000000, 1000000, 10000, 0, 10000, false⟩ 2000 = rx3 := by kernel_rfl
theorem rec4 : updM (rx3) ⟨4000000, 40000, 30000, 1000000, 1000000, 10000, 0, 10000, false⟩ 2000 = rx4 := by kernel_rfl
theorem rec5 : updM (rx4) ⟨5000000, 50000, 40000, 1000000, 1000000, 10000, 0, 10000, false⟩ 2000 = rx5 := by kernel_rfl
end
end Go.Proofs.Ytbimmadllfgmiaa
