/-
  canterplay: a config that may be, whatever comes; a segment that may be. Conditions: numbers are of their kind.
-/
import Derived.Test.YtnljjdfajmjdjaaJ31
namespace Go.Proofs.Ytnljjdfajmjdjaa
open Go.RowKit
set_option maxRecDepth 100000
set_option linter.unusedSimpArgs false
set_option linter.unusedVariables false

/-- Ahead of its end: what came, the result's cells, the config that is made. -/
structure PC (w W : World) (B2 B3 : Nat) (c p : Cf) : Prop where
  b1 : Whole W w.heap.size 24 (confL c).toArray
  b2 : Whole W B2 24 #[.int .i64 0, .int .i64 0, .int .i64 0, .int .i64 0, .int .u64 0, .int .u64 0, .bool false, .int .i64 0, .int .i64 0]
  b3 : Whole W B3 24 (confL p).toArray
  k : Keep (fun _ => False) w W
  ge : w.heap.size < B2 ∧ B2 < B3
theorem PC.set {w W : World} {B2 B3 : Nat} {c p p' : Cf} (h : PC w W B2 B3 c p) (j : Nat) (u : Value) (e : (confL p).toArray.setIfInBounds j u = (confL p').toArray) : PC w (W.setCell ⟨B3, j, none⟩ u) B2 B3 c p' := by
  have hk : Keep (fun k => k = B3) W (W.setCell ⟨B3, j, none⟩ u) := (Keep.refl (fun k => k = B3) W).setCell (p := ⟨B3, j, none⟩) (.inl rfl) u
  have hg := h.ge
  refine ⟨h.b1.keep hk (fun e => by omega), h.b2.keep hk (fun e => by omega), ?_, h.k.then hk (fun k e hlt => by omega), hg⟩
  rw [← e]
  exact h.b3.put j u
theorem PC.c1 {w W : World} {B2 B3 : Nat} {c p : Cf} (h : PC w W B2 B3 c p) {j : Nat} (hj : j < 9) : W.cell? ⟨w.heap.size, j, none⟩ = some (cfV c j) := (h.b1.cell j).trans (by rw [List.getElem?_toArray]; exact conf_get c hj)
theorem PC.c3 {w W : World} {B2 B3 : Nat} {c p : Cf} (h : PC w W B2 B3 c p) {j : Nat} (hj : j < 9) : W.cell? ⟨B3, j, none⟩ = some (cfV p j) := (h.b3.cell j).trans (by rw [List.getElem?_toArray]; exact conf_get p hj)
set_option maxRecDepth 100000 in
set_option maxHeartbeats 2000000 in
theorem playc_any (c : Cf) (hr : U64 c.r) (hh : U64 c.h) (w : World) : Calls Try.prog 14 #[c.v] w fun e w' => ∃ p : Cf, e = .returned p.v ∧ p.Ok ∧ Keep (fun _ => False) w w' := by
  obtain ⟨q, f, l, m, hz, r, d, k, s⟩ := c
  dsimp only [Cf.v] at *
  have HR := Lib.hid hr; have HH := Lib.hid hh
  clear hr hh
  obtain ⟨w1, hw1⟩ : ∃ w1, w1 = (w.alloc (.cells #[.int .i64 q, .int .i64 f, .int .i64 l, .int .i64 m, .int .u64 hz, .int .u64 r, .bool d, .int .i64 k, .int .i64 s] 24)).alloc (.cells #[.int .i64 0, .int .i64 0, .int .i64 0, .int .i64 0, .int .u64 0, .int .u64 0, .bool false, .int .i64 0, .int .i64 0] 24) := ⟨_, rfl⟩
  have kA : Keep (fun _ => False) w w1 := by rw [hw1]; exact ((Keep.refl _ w).alloc _).alloc _
  have hA1 : Whole w1 w.heap.size 24 #[.int .i64 q, .int .i64 f, .int .i64 l, .int .i64 m, .int .u64 hz, .int .u64 r, .bool d, .int .i64 k, .int .i64 s] := by rw [hw1]; exact (Whole.new w _ _).alloc _
  have hA2 : Whole w1 (w.heap.size + 1) 24 #[.int .i64 0, .int .i64 0, .int .i64 0, .int .i64 0, .int .u64 0, .int .u64 0, .bool false, .int .i64 0, .int .i64 0] := by
    rw [hw1]
    have := Whole.new (w.alloc (.cells #[.int .i64 q, .int .i64 f, .int .i64 l, .int .i64 m, .int .u64 hz, .int .u64 r, .bool d, .int .i64 k, .int .i64 s] 24)) 24 #[.int .i64 0, .int .i64 0, .int .i64 0, .int .i64 0, .int .u64 0, .int .u64 0, .bool false, .int .i64 0, .int .i64 0]
    rwa [World.size_alloc] at this
  have HA1 := Lib.hid hA1; have HA2 := Lib.hid hA2; have KA := Lib.hid kA
  clear kA hA1 hA2
  go_enter Try.func14, Try.ntmps14
  go_wp2_with fail
  rw [← hw1]
  clear hw1
  refine (plain_any w1).mono ?_
  rintro e w2 ⟨rfl, k2⟩
  have kz : Keep (fun _ => False) w2 (w2.alloc (.cells #[.int .i64 3000, .int .i64 15000, .int .i64 100, .int .i64 50, .int .u64 10000000000, .int .u64 0, .bool false, .int .i64 100000, .int .i64 1000] 24)) := (Keep.refl _ _).alloc _
  have H := Lib.hid (show PC w _ (w.heap.size + 1) w2.heap.size ⟨q, f, l, m, hz, r, d, k, s⟩ ⟨3000, 15000, 100, 50, 10000000000, 0, false, 100000, 1000⟩ from ⟨(HA1.out.keep k2 id).keep kz id, (HA2.out.keep k2 id).keep kz id, Whole.new w2 24 _, (KA.out.trans k2).trans kz, by omega, by have := (HA2.out.keep k2 id).lt; omega⟩)
  clear HA1 HA2 KA k2 kz
  go_upto_region 2 with fail
  generalize World.alloc w2 _ = wx at *
  generalize hB3 : w2.heap.size = B3 at *
  clear hB3
  have b0 := H.out.c1 (j := 0) (by omega)
  dsimp only [cfV] at b0
  go_cut [12] (fun sc wx => sc = .bool (decide (100 ≤ q ∧ q ≤ 65536)) ∧ PC w wx (w.heap.size + 1) B3 ⟨q, f, l, m, hz, r, d, k, s⟩ ⟨3000, 15000, 100, 50, 10000000000, 0, false, 100000, 1000⟩)
  case first =>
    by_cases h1 : 100 ≤ q
    · by_cases h2 : q ≤ 65536
      · have hd := Lib.hid (decide_eq_true (show 100 ≤ q ∧ q ≤ 65536 from ⟨h1, h2⟩)).symm
        go_wp2
        go_meet
        exact ⟨congrArg Value.bool hd.out, H.out⟩
      · have hd := Lib.hid (decide_eq_false (fun e : 100 ≤ q ∧ q ≤ 65536 => h2 e.2)).symm
        go_wp2
        go_meet
        exact ⟨congrArg Value.bool hd.out, H.out⟩
    · have hd := Lib.hid (decide_eq_false (fun e : 100 ≤ q ∧ q ≤ 65536 => h1 e.1)).symm
      go_wp2
      go_meet
      exact ⟨congrArg Value.bool hd.out, H.out⟩
  case rest =>
  obtain ⟨rfl, h⟩ := hcut
  replace H := Lib.hid h
  clear h b0
  have b0 := H.out.c1 (j := 0) (by omega); have e0 := H.out.c3 (j := 0) (by omega); have f0 := H.out.b3.free 0
  dsimp only [cfV] at b0 e0
  go_upto_if 12 with fail
  go_cut [3] (fun s3 wx => s3 = .pointer (some ⟨B3, 0, none⟩) ∧ ∃ v, (100 ≤ v ∧ v ≤ 65536) ∧ PC w wx (w.heap.size + 1) B3 ⟨q, f, l, m, hz, r, d, k, s⟩ ⟨v, 15000, 100, 50, 10000000000, 0, false, 100000, 1000⟩)
  case first =>
    by_cases hin : 100 ≤ q ∧ q ≤ 65536
    · rw [decide_eq_true hin]
      go_wp2
      go_meet
      exact ⟨rfl, q, hin, H.out.set 0 (.int .i64 q) rfl⟩
    · rw [decide_eq_false hin]
      go_wp2
      go_meet
      exact ⟨rfl, 3000, by decide, H.out⟩
  case rest =>
  obtain ⟨rfl, v0, h0', h⟩ := hcut
  have V0 := Lib.hid h0'
  replace H := Lib.hid h
  clear h h0' b0 e0 f0
  go_upto_region 4 with fail
  have b1 := H.out.c1 (j := 1) (by omega)
  dsimp only [cfV] at b1
  go_cut [23] (fun sc wx => sc = .bool (decide (100 ≤ f ∧ f ≤ 65536)) ∧ PC w wx (w.heap.size + 1) B3 ⟨q, f, l, m, hz, r, d, k, s⟩ ⟨v0, 15000, 100, 50, 10000000000, 0, false, 100000, 1000⟩)
  case first =>
    by_cases h1 : 100 ≤ f
    · by_cases h2 : f ≤ 65536
      · have hd := Lib.hid (decide_eq_true (show 100 ≤ f ∧ f ≤ 65536 from ⟨h1, h2⟩)).symm
        go_wp2
        go_meet
        exact ⟨congrArg Value.bool hd.out, H.out⟩
      · have hd := Lib.hid (decide_eq_false (fun e : 100 ≤ f ∧ f ≤ 65536 => h2 e.2)).symm
        go_wp2
        go_meet
        exact ⟨congrArg Value.bool hd.out, H.out⟩
    · have hd := Lib.hid (decide_eq_false (fun e : 100 ≤ f ∧ f ≤ 65536 => h1 e.1)).symm
      go_wp2
      go_meet
      exact ⟨congrArg Value.bool hd.out, H.out⟩
  case rest =>
  obtain ⟨rfl, h⟩ := hcut
  replace H := Lib.hid h
  clear h b1
  have b1 := H.out.c1 (j := 1) (by omega); have e1 := H.out.c3 (j := 1) (by omega); have f1 := H.out.b3.free 1
  dsimp only [cfV] at b1 e1
  go_upto_if 23 with fail
  go_cut [3] (fun s3 wx => s3 = .pointer (some ⟨B3, 0, none⟩) ∧ ∃ v, (100 ≤ v ∧ v ≤ 65536) ∧ PC w wx (w.heap.size + 1) B3 ⟨q, f, l, m, hz, r, d, k, s⟩ ⟨v0, v, 100, 50, 10000000000, 0, false, 100000, 1000⟩)
  case first =>
    by_cases hin : 100 ≤ f ∧ f ≤ 65536
    · rw [decide_eq_true hin]
      go_wp2
      go_meet
      exact ⟨rfl, f, hin, H.out.set 1 (.int .i64 f) rfl⟩
    · rw [decide_eq_false hin]
      go_wp2
      go_meet
      exact ⟨rfl, 15000, by decide, H.out⟩
  case rest =>
  obtain ⟨rfl, v1, h1', h⟩ := hcut
  have V1 := Lib.hid h1'
  replace H := Lib.hid h
  clear h h1' b1 e1 f1
  go_upto_region 6 with fail
  have b2 := H.out.c1 (j := 2) (by omega)
  dsimp only [cfV] at b2
  go_cut [34] (fun sc wx => sc = .bool (decide (1 ≤ l ∧ l ≤ 512)) ∧ PC w wx (w.heap.size + 1) B3 ⟨q, f, l, m, hz, r, d, k, s⟩ ⟨v0, v1, 100, 50, 10000000000, 0, false, 100000, 1000⟩)
  case first =>
    by_cases h1 : 1 ≤ l
    · by_cases h2 : l ≤ 512
      · have hd := Lib.hid (decide_eq_true (show 1 ≤ l ∧ l ≤ 512 from ⟨h1, h2⟩)).symm
        go_wp2
        go_meet
        exact ⟨congrArg Value.bool hd.out, H.out⟩
      · have hd := Lib.hid (decide_eq_false (fun e : 1 ≤ l ∧ l ≤ 512 => h2 e.2)).symm
        go_wp2
        go_meet
        exact ⟨congrArg Value.bool hd.out, H.out⟩
    · have hd := Lib.hid (decide_eq_false (fun e : 1 ≤ l ∧ l ≤ 512 => h1 e.1)).symm
      go_wp2
      go_meet
      exact ⟨congrArg Value.bool hd.out, H.out⟩
  case rest =>
  obtain ⟨rfl, h⟩ := hcut
  replace H := Lib.hid h
  clear h b2
  have b2 := H.out.c1 (j := 2) (by omega); have e2 := H.out.c3 (j := 2) (by omega); have f2 := H.out.b3.free 2
  dsimp only [cfV] at b2 e2
  go_upto_if 34 with fail
  go_cut [3] (fun s3 wx => s3 = .pointer (some ⟨B3, 0, none⟩) ∧ ∃ v, (1 ≤ v ∧ v ≤ 512) ∧ PC w wx (w.heap.size + 1) B3 ⟨q, f, l, m, hz, r, d, k, s⟩ ⟨v0, v1, v, 50, 10000000000, 0, false, 100000, 1000⟩)
  case first =>
    by_cases hin : 1 ≤ l ∧ l ≤ 512
    · rw [decide_eq_true hin]
      go_wp2
      go_meet
      exact ⟨rfl, l, hin, H.out.set 2 (.int .i64 l) rfl⟩
    · rw [decide_eq_false hin]
      go_wp2
      go_meet
      exact ⟨rfl, 100, by decide, H.out⟩
  case rest =>
  obtain ⟨rfl, v2, h2', h⟩ := hcut
  have V2 := Lib.hid h2'
  replace H := Lib.hid h
  clear h h2' b2 e2 f2
  go_upto_region 8 with fail
  have b3 := H.out.c1 (j := 3) (by omega)
  dsimp only [cfV] at b3
  go_cut [45] (fun sc wx => sc = .bool (decide (1 ≤ m ∧ m ≤ 512)) ∧ PC w wx (w.heap.size + 1) B3 ⟨q, f, l, m, hz, r, d, k, s⟩ ⟨v0, v1, v2, 50, 10000000000, 0, false, 100000, 1000⟩)
  case first =>
    by_cases h1 : 1 ≤ m
    · by_cases h2 : m ≤ 512
      · have hd := Lib.hid (decide_eq_true (show 1 ≤ m ∧ m ≤ 512 from ⟨h1, h2⟩)).symm
        go_wp2
        go_meet
        exact ⟨congrArg Value.bool hd.out, H.out⟩
      · have hd := Lib.hid (decide_eq_false (fun e : 1 ≤ m ∧ m ≤ 512 => h2 e.2)).symm
        go_wp2
        go_meet
        exact ⟨congrArg Value.bool hd.out, H.out⟩
    · have hd := Lib.hid (decide_eq_false (fun e : 1 ≤ m ∧ m ≤ 512 => h1 e.1)).symm
      go_wp2
      go_meet
      exact ⟨congrArg Value.bool hd.out, H.out⟩
  case rest =>
  obtain ⟨rfl, h⟩ := hcut
  replace H := Lib.hid h
  clear h b3
  have b3 := H.out.c1 (j := 3) (by omega); have e3 := H.out.c3 (j := 3) (by omega); have f3 := H.out.b3.free 3
  dsimp only [cfV] at b3 e3
  go_upto_if 45 with fail
  go_cut [3] (fun s3 wx => s3 = .pointer (some ⟨B3, 0, none⟩) ∧ ∃ v, (1 ≤ v ∧ v ≤ 512) ∧ PC w wx (w.heap.size + 1) B3 ⟨q, f, l, m, hz, r, d, k, s⟩ ⟨v0, v1, v2, v, 10000000000, 0, false, 100000, 1000⟩)
  case first =>
    by_cases hin : 1 ≤ m ∧ m ≤ 512
    · rw [decide_eq_true hin]
      go_wp2
      go_meet
      exact ⟨rfl, m, hin, H.out.set 3 (.int .i64 m) rfl⟩
    · rw [decide_eq_false hin]
      go_wp2
      go_meet
      exact ⟨rfl, 50, by decide, H.out⟩
  case rest =>
  obtain ⟨rfl, v3, h3', h⟩ := hcut
  have V3 := Lib.hid h3'
  replace H := Lib.hid h
  clear h h3' b3 e3 f3
  go_upto_region 10 with fail
  have b4 := H.out.c1 (j := 4) (by omega)
  dsimp only [cfV] at b4
  go_cut [51] (fun sc wx => sc = .bool (decide (hz ≤ 4611686018427387904)) ∧ PC w wx (w.heap.size + 1) B3 ⟨q, f, l, m, hz, r, d, k, s⟩ ⟨v0, v1, v2, v3, 10000000000, 0, false, 100000, 1000⟩)
  case first =>
    by_cases h2 : hz ≤ 4611686018427387904
    · have hd := Lib.hid (decide_eq_true h2).symm
      go_wp2
      go_meet
      exact ⟨congrArg Value.bool hd.out, H.out⟩
    · have hd := Lib.hid (decide_eq_false h2).symm
      go_wp2
      go_meet
      exact ⟨congrArg Value.bool hd.out, H.out⟩
  case rest =>
  obtain ⟨rfl, h⟩ := hcut
  replace H := Lib.hid h
  clear h b4
  have b4 := H.out.c1 (j := 4) (by omega); have e4 := H.out.c3 (j := 4) (by omega); have f4 := H.out.b3.free 4
  dsimp only [cfV] at b4 e4
  go_upto_if 51 with fail
  go_cut [3] (fun s3 wx => s3 = .pointer (some ⟨B3, 0, none⟩) ∧ ∃ v, (0 ≤ v ∧ v ≤ 4611686018427387904) ∧ PC w wx (w.heap.size + 1) B3 ⟨q, f, l, m, hz, r, d, k, s⟩ ⟨v0, v1, v2, v3, v, 0, false, 100000, 1000⟩)
  case first =>
    by_cases hin : hz ≤ 4611686018427387904
    · rw [decide_eq_true hin]
      go_wp2
      go_meet
      exact ⟨rfl, hz, ⟨HH.out.1, hin⟩, H.out.set 4 (.int .u64 hz) rfl⟩
    · rw [decide_eq_false hin]
      go_wp2
      go_meet
      exact ⟨rfl, 10000000000, by decide, H.out⟩
  case rest =>
  obtain ⟨rfl, v4, h4', h⟩ := hcut
  have V4 := Lib.hid h4'
  replace H := Lib.hid h
  clear h h4' b4 e4 f4
  go_upto_region 12 with fail
  have b5 := H.out.c1 (j := 7) (by omega)
  dsimp only [cfV] at b5
  go_cut [62] (fun sc wx => sc = .bool (decide (1 ≤ k ∧ k ≤ 1073741824)) ∧ PC w wx (w.heap.size + 1) B3 ⟨q, f, l, m, hz, r, d, k, s⟩ ⟨v0, v1, v2, v3, v4, 0, false, 100000, 1000⟩)
  case first =>
    by_cases h1 : 1 ≤ k
    · by_cases h2 : k ≤ 1073741824
      · have hd := Lib.hid (decide_eq_true (show 1 ≤ k ∧ k ≤ 1073741824 from ⟨h1, h2⟩)).symm
        go_wp2
        go_meet
        exact ⟨congrArg Value.bool hd.out, H.out⟩
      · have hd := Lib.hid (decide_eq_false (fun e : 1 ≤ k ∧ k ≤ 1073741824 => h2 e.2)).symm
        go_wp2
        go_meet
        exact ⟨congrArg Value.bool hd.out, H.out⟩
    · have hd := Lib.hid (decide_eq_false (fun e : 1 ≤ k ∧ k ≤ 1073741824 => h1 e.1)).symm
      go_wp2
      go_meet
      exact ⟨congrArg Value.bool hd.out, H.out⟩
  case rest =>
  obtain ⟨rfl, h⟩ := hcut
  replace H := Lib.hid h
  clear h b5
  have b5 := H.out.c1 (j := 7) (by omega); have e5 := H.out.c3 (j := 7) (by omega); have f5 := H.out.b3.free 7
  dsimp only [cfV] at b5 e5
  go_upto_if 62 with fail
  go_cut [3] (fun s3 wx => s3 = .pointer (some ⟨B3, 0, none⟩) ∧ ∃ v, (1 ≤ v ∧ v ≤ 1073741824) ∧ PC w wx (w.heap.size + 1) B3 ⟨q, f, l, m, hz, r, d, k, s⟩ ⟨v0, v1, v2, v3, v4, 0, false, v, 1000⟩)
  case first =>
    by_cases hin : 1 ≤ k ∧ k ≤ 1073741824
    · rw [decide_eq_true hin]
      go_wp2
      go_meet
      exact ⟨rfl, k, hin, H.out.set 7 (.int .i64 k) rfl⟩
    · rw [decide_eq_false hin]
      go_wp2
      go_meet
      exact ⟨rfl, 100000, by decide, H.out⟩
  case rest =>
  obtain ⟨rfl, v7, h7', h⟩ := hcut
  have V7 := Lib.hid h7'
  replace H := Lib.hid h
  clear h h7' b5 e5 f5
  go_upto_region 14 with fail
  have b6 := H.out.c1 (j := 8) (by omega)
  dsimp only [cfV] at b6
  go_cut [73] (fun sc wx => sc = .bool (decide (100 ≤ s ∧ s ≤ 9000)) ∧ PC w wx (w.heap.size + 1) B3 ⟨q, f, l, m, hz, r, d, k, s⟩ ⟨v0, v1, v2, v3, v4, 0, false, v7, 1000⟩)
  case first =>
    by_cases h1 : 100 ≤ s
    · by_cases h2 : s ≤ 9000
      · have hd := Lib.hid (decide_eq_true (show 100 ≤ s ∧ s ≤ 9000 from ⟨h1, h2⟩)).symm
        go_wp2
        go_meet
        exact ⟨congrArg Value.bool hd.out, H.out⟩
      · have hd := Lib.hid (decide_eq_false (fun e : 100 ≤ s ∧ s ≤ 9000 => h2 e.2)).symm
        go_wp2
        go_meet
        exact ⟨congrArg Value.bool hd.out, H.out⟩
    · have hd := Lib.hid (decide_eq_false (fun e : 100 ≤ s ∧ s ≤ 9000 => h1 e.1)).symm
      go_wp2
      go_meet
      exact ⟨congrArg Value.bool hd.out, H.out⟩
  case rest =>
  obtain ⟨rfl, h⟩ := hcut
  replace H := Lib.hid h
  clear h b6
  have b6 := H.out.c1 (j := 8) (by omega); have e6 := H.out.c3 (j := 8) (by omega); have f6 := H.out.b3.free 8
  dsimp only [cfV] at b6 e6
  go_upto_if 73 with fail
  go_cut [3] (fun s3 wx => s3 = .pointer (some ⟨B3, 0, none⟩) ∧ ∃ v, (100 ≤ v ∧ v ≤ 9000) ∧ PC w wx (w.heap.size + 1) B3 ⟨q, f, l, m, hz, r, d, k, s⟩ ⟨v0, v1, v2, v3, v4, 0, false, v7, v⟩)
  case first =>
    by_cases hin : 100 ≤ s ∧ s ≤ 9000
    · rw [decide_eq_true hin]
      go_wp2
      go_meet
      exact ⟨rfl, s, hin, H.out.set 8 (.int .i64 s) rfl⟩
    · rw [decide_eq_false hin]
      go_wp2
      go_meet
      exact ⟨rfl, 1000, by decide, H.out⟩
  case rest =>
  obtain ⟨rfl, v8, h8', h⟩ := hcut
  have V8 := Lib.hid h8'
  replace H := Lib.hid h
  clear h h8' b6 e6 f6
  go_upto_region 16 with fail
  refine wp_region_sch (fun W => W.cell? ⟨w.heap.size, 5, none⟩ = some (.int .u64 r) ∧ W.cell? ⟨w.heap.size, 6, none⟩ = some (.bool d)) [(true, 0), (true, 1), (true, 2), (true, 3), (true, 4), (false, 5), (true, 6), (false, 7)] (by kernel_rfl) (by kernel_rfl) (by kernel_rfl) (by kernel_rfl) ⟨H.out.c1 (j := 5) (by omega), H.out.c1 (j := 6) (by omega)⟩ ?_
  replace H := Lib.hid (show PC w (World.drew _) (w.heap.size + 1) B3 ⟨q, f, l, m, hz, r, d, k, s⟩ ⟨v0, v1, v2, v3, v4, 0, false, v7, v8⟩ from ⟨H.out.b1, H.out.b2, H.out.b3, H.out.k.drew, H.out.ge⟩)
  generalize World.drew _ = wq at *
  (repeat (refine wpSch_yes (v := ?_) rfl (fun _ _ _ h => h) (by rfl) ?_ ?_; rotate_left; (next => (intro w hSw; (try dsimp only at hSw); obtain ⟨hS1, hS2⟩ := hSw; go_simp; (try with_reducible rfl))); (try simp only [Act.put, List.setIfInBounds_toArray, List.set_cons_zero, List.set_cons_succ])))
  have e5 : wq.cell? ⟨B3, 5, none⟩ = some (.int .u64 0) := H.out.c3 (j := 5) (by omega)
  have f5 := H.out.b3.free 5
  refine wpSch_call rfl (by rfl) (fun K hK => ?_); go_simp
  have H2 := Lib.hid (H.out.set (p' := ⟨v0, v1, v2, v3, v4, r, false, v7, v8⟩) 5 (.int .u64 r) rfl)
  clear e5 f5 H
  refine hK.out _ _ ⟨H2.out.c1 (j := 5) (by omega), H2.out.c1 (j := 6) (by omega)⟩ (fun hHeld => ?_)
  clear hK K hHeld
  generalize hwr : wq.setCell ⟨B3, 5, none⟩ (.int .u64 r) = wr at *
  clear hwr
  (try simp only [Act.put, List.setIfInBounds_toArray, List.set_cons_zero, List.set_cons_succ])
  (repeat (refine wpSch_yes (v := ?_) rfl (fun _ _ _ h => h) (by rfl) ?_ ?_; rotate_left; (next => (intro w hSw; (try dsimp only at hSw); obtain ⟨hS1, hS2⟩ := hSw; go_simp; (try with_reducible rfl))); (try simp only [Act.put, List.setIfInBounds_toArray, List.set_cons_zero, List.set_cons_succ])))
  have e6 : wr.cell? ⟨B3, 6, none⟩ = some (.bool false) := H2.out.c3 (j := 6) (by omega)
  have f6 := H2.out.b3.free 6
  refine wpSch_call rfl (by rfl) (fun K hK => ?_); go_simp
  have H3 := Lib.hid (H2.out.set (p' := ⟨v0, v1, v2, v3, v4, r, d, v7, v8⟩) 6 (.bool d) rfl)
  clear e6 f6 H2
  refine hK.out _ _ ⟨H3.out.c1 (j := 5) (by omega), H3.out.c1 (j := 6) (by omega)⟩ (fun hHeld => ?_)
  clear hK K hHeld
  generalize hws : wr.setCell ⟨B3, 6, none⟩ (.bool d) = ws at *
  clear hws
  (try simp only [Act.put, List.setIfInBounds_toArray, List.set_cons_zero, List.set_cons_succ])
  refine wpSch_nil ?_
  obtain ⟨p, hp⟩ : ∃ p : Cf, p = ⟨v0, v1, v2, v3, v4, r, d, v7, v8⟩ := ⟨_, rfl⟩
  have HPO : Hid p.Ok := Lib.hid (by rw [hp]; exact ⟨V0.out, V1.out, V2.out, V3.out, V4.out, HR.out, V7.out, V8.out⟩)
  rw [← hp] at H3
  clear hp
  obtain ⟨V, hV⟩ : ∃ V : Array Value, V = (confL p).toArray := ⟨_, rfl⟩
  have HV : Hid (V.toList = confL p) := Lib.hid (by rw [hV])
  have HRV := Lib.hid (show ws.rangeAt B3 0 V.toList from fun j u hu => by rw [H3.out.b3.cell, Nat.zero_add, ← hV, ← hu]; simp)
  have HSZ : Hid ((Try.prog.info? 24).map (·.size) = some V.toList.length) := Lib.hid (by rw [HV.out]; exact Try.size24)
  have HSZ' : Hid ((Try.prog.info? 24).map (·.size) = some V.size) := Lib.hid (by rw [hV]; exact Try.size24)
  have HTH := Lib.hid (show ws.there (w.heap.size + 1) 0 V.size from fun j hj => by
    rw [Nat.zero_add]
    have h9 : j < 9 := by rw [hV] at hj; exact hj
    exact ⟨by rw [H3.out.b2.cell, Array.getElem?_eq_getElem (by simpa using h9)]; rfl, H3.out.b2.free j⟩)
  have HONE : Hid (V.all (·.oneCell') = true) := Lib.hid (by rw [hV]; exact all_oneCell_toArray (fun u hu => by
      simp only [confL, List.mem_cons, List.not_mem_nil, or_false] at hu
      rcases hu with rfl | rfl | rfl | rfl | rfl | rfl | rfl | rfl | rfl <;> rfl))
  clear hV
  go_wp2_with (first
    | (refine wpList_load_mid rfl 24 (.tmp 3) rfl B3 0 rfl V.toList _ HRV.out Try.underlying24 rfl HSZ.out ?_)
    | (refine wpList_store_mid rfl 24 (.tmp 2) (.tmp 83) rfl (w.heap.size + 1) 0 V rfl rfl HTH.out HSZ'.out HONE.out ?_))
  have hb := H3.out.b2.puts V.toList 0
  have hk := H3.out.k.then (Keep.setCells (S := fun k => k = w.heap.size + 1) rfl V.toList 0 (Keep.refl _ ws)) (fun k e hlt => by omega)
  rw [HV.out] at hb hk ⊢
  have hc : ∀ j, j < 9 → (ws.setCells (w.heap.size + 1) 0 (confL p)).cell? ⟨w.heap.size + 1, j, none⟩ = some (cfV p j) := fun j hj => (hb.cell j).trans (conf_at _ p (by decide) hj)
  have e0 := hc 0 (by omega); have e1 := hc 1 (by omega); have e2 := hc 2 (by omega); have e3 := hc 3 (by omega); have e4 := hc 4 (by omega); have e5 := hc 5 (by omega); have e6 := hc 6 (by omega); have e7 := hc 7 (by omega); have e8 := hc 8 (by omega)
  dsimp only [cfV] at e0 e1 e2 e3 e4 e5 e6 e7 e8
  clear hb hc
  generalize World.setCells _ _ _ _ = wt at *
  refine bodyPost_ret (v := .agg #[.int .i64 p.q, .int .i64 p.f, .int .i64 p.l, .int .i64 p.w, .int .u64 p.h, .int .u64 p.r, .bool p.d, .int .i64 p.k, .int .i64 p.m]) (by rw [results_cell1 rfl]; go_simp) rfl ?_
  exact ⟨p, rfl, HPO.out, hk⟩
end Go.Proofs.Ytnljjdfajmjdjaa
