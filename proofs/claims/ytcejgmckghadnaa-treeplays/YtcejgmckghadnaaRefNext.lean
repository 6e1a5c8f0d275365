/-
  canterref04.Keys: Next, Insert, Delete answer what the document says of a set of keys in order. Conditions: the struct lies in memory as 'KeysAt' says.
-/
import Derived.Test.YtcejgmckghadnaaRefKeys
import Derived.Test.YtcejgmckghadnaaSchedL
namespace Go.Proofs.Ytcejgmckghadnaa
open Go.RowKit
set_option linter.unusedSimpArgs false


theorem above_first {ks : List Key} {x y : Key} {k : Nat} (h : ∀ z ∈ ks.take k, ¬ KLt x z) (hy : ks[k]? = some y) (hl : KLt x y) : hdK (above ks x) = y ∧ hdB (above ks x) = true := by
  have hlt : k < ks.length := (List.getElem?_eq_some_iff.1 hy).1
  have e : ks = ks.take k ++ y :: ks.drop (k + 1) := by
    have := (List.getElem?_eq_some_iff.1 hy).2
    rw [← this, ← List.drop_eq_getElem_cons hlt, List.take_append_drop]
  have : above ks x = y :: (ks.drop (k + 1)).filter (fun z => decide (KLt x z)) := by
    conv => lhs; rw [e]
    unfold above
    rw [List.filter_append, List.filter_eq_nil_iff.2 (fun z hz => by simpa using h z hz), List.filter_cons, if_pos (by simpa using hl)]
    rfl
  rw [this]
  exact ⟨rfl, rfl⟩
theorem above_none {ks : List Key} {x : Key} (h : ∀ z ∈ ks, ¬ KLt x z) : above ks x = [] := List.filter_eq_nil_iff.2 (fun z hz => by simpa using h z hz)

set_option maxHeartbeats 1000000 in
theorem knext_any (g : Nat) (n : Int) (a : Option Addr) (cap : Nat) (ks : List Key) (x : Key) (w : World) (h : KeysAt w g n a cap ks) :
    Calls Try.prog 22 #[.pointer (some ⟨g, 0, none⟩), kv x] w fun e w' => e = .returned (.tuple #[kv (hdK (above ks x)), .bool (hdB (above ks x))]) ∧ Keep (fun _ => False) w w' := by
  have HL := Lib.hid (fun y => less_any x y)
  obtain ⟨xa, xb⟩ := x
  unfold kv at *
  dsimp only at *
  obtain ⟨w1, hw1⟩ : ∃ w1, w1 = (w.alloc (.cells #[.int .u64 xa, .int .u64 xb] 25)).alloc (.cells #[.int .u64 0, .int .u64 0] 25) := ⟨_, rfl⟩
  have k0 : Keep (fun _ => False) w w1 := by rw [hw1]; exact ((Keep.refl _ w).alloc _).alloc _
  have HA := Lib.hid (h.kept k0)
  have K0 := Lib.hid k0
  have W0 : Hid (Whole w1 w.heap.size 25 #[.int .u64 xa, .int .u64 xb]) := Lib.hid (by rw [hw1]; exact (Whole.new w 25 _).alloc _)
  have WB : Hid (Whole w1 (w.heap.size + 1) 25 #[.int .u64 0, .int .u64 0]) := Lib.hid (by rw [hw1]; have := Whole.new (w.alloc (.cells #[.int .u64 xa, .int .u64 xb] 25)) 25 #[.int .u64 0, .int .u64 0]; rwa [World.size_alloc] at this)
  have HF := Lib.hid h.few
  clear h k0
  go_enter Try.func22, Try.ntmps22
  go_wp2_with fail
  rw [← hw1]
  clear hw1
  go_loopw [6] (fun i wr => ∃ k : Nat, k ≤ ks.length ∧ i = .int .i64 k ∧ (∀ y ∈ ks.take k, ¬ KLt ⟨xa, xb⟩ y) ∧ Keep (fun _ => False) w1 wr) (fun i _ => ks.length - (intOf i).toNat)
  case atStart => exact ⟨0, Nat.zero_le _, rfl, by simp, Keep.refl _ _⟩
  case round =>
    obtain ⟨k, hk, rfl, hall, hkp⟩ := hrel
    have HK := Lib.hid hkp; have HALL := Lib.hid hall; clear hkp hall
    have HF' := HF.out
    have HC : Hid (∀ W, Keep (fun _ => False) w1 W → W.cell? ⟨w.heap.size, 0, none⟩ = some (.int .u64 xa) ∧ W.cell? ⟨w.heap.size, 1, none⟩ = some (.int .u64 xb) ∧ W.cell? ⟨g, 1, none⟩ = some (.slice a ks.length cap)) :=
      Lib.hid fun W hW => ⟨(W0.out.keep hW id).cell 0, (W0.out.keep hW id).cell 1, (HA.out.st.keep hW id).cell 1⟩
    have c1 := (HC.out _ HK.out).2.2
    by_cases hlt : k < ks.length
    · obtain ⟨b1, o1, rfl, hb1, c2, c3⟩ := HA.out.rd k ks[k] (List.getElem?_eq_getElem hlt)
      have HC2 : Hid (∀ W, Keep (fun _ => False) w1 W → W.cell? ⟨b1, o1 + k * 2, none⟩ = some (.int .u64 ks[k].a) ∧ W.cell? ⟨b1, o1 + k * 2 + 1, none⟩ = some (.int .u64 ks[k].b)) :=
        Lib.hid fun W hW => ⟨(hW.cell (p := ⟨b1, _, none⟩) hb1 (fun h => h)).trans c2, (hW.cell (p := ⟨b1, _, none⟩) hb1 (fun h => h)).trans c3⟩
      have HL2 := Lib.hid (HL.out ks[k])
      have htk : ks.take (k + 1) = ks.take k ++ [ks[k]] := List.take_succ_eq_append_getElem hlt
      have HY : Hid (KLt ⟨xa, xb⟩ ks[k] → (Value.tuple #[.agg #[.int .u64 (hdK (above ks ⟨xa, xb⟩)).a, .int .u64 (hdK (above ks ⟨xa, xb⟩)).b], .bool (hdB (above ks ⟨xa, xb⟩))]) = .tuple #[.agg #[.int .u64 ks[k].a, .int .u64 ks[k].b], .bool true]) := Lib.hid (fun h => by
        obtain ⟨h1, h2⟩ := above_first HALL.out (List.getElem?_eq_getElem hlt) h
        rw [h1, h2])
      have HN : Hid (¬ KLt ⟨xa, xb⟩ ks[k] → ∀ y ∈ ks.take (k + 1), ¬ KLt ⟨xa, xb⟩ y) := Lib.hid (by
        intro h y hy
        rw [htk, List.mem_append, List.mem_singleton] at hy
        rcases hy with hy | rfl
        · exact HALL.out y hy
        · exact h)
      clear c2 c3 htk
      generalize ks[k] = y at *
      obtain ⟨ra, rb⟩ := y
      dsimp only at HC2 HY
      have hi1 : (k : Int) < (ks.length : Int) := by omega
      go_wp2_with fail
      refine wp_region_sch (fun W => W.cell? ⟨w.heap.size, 0, none⟩ = some (.int .u64 xa) ∧ W.cell? ⟨w.heap.size, 1, none⟩ = some (.int .u64 xb) ∧ W.cell? ⟨g, 1, none⟩ = some (.slice (some ⟨b1, o1, none⟩) ks.length cap) ∧ W.cell? ⟨b1, o1 + k * 2, none⟩ = some (.int .u64 ra) ∧ W.cell? ⟨b1, o1 + k * 2 + 1, none⟩ = some (.int .u64 rb)) [(true, 0), (true, 1), (true, 2), (true, 3), (true, 4), (true, 5), (true, 6), (true, 7), (false, 8)] (by kernel_rfl) (by kernel_rfl) (by kernel_rfl) (by kernel_rfl) ⟨(HC.out _ HK.out.drew).1, (HC.out _ HK.out.drew).2.1, (HC.out _ HK.out.drew).2.2, HC2.out _ HK.out.drew⟩ ?_
      (repeat (first
  | (refine wpSch_yes (v := ?_) rfl (fun _ _ _ h => h) (by rfl) ?_ ?_; rotate_left; (next => (intro w hSw; (try dsimp only at hSw); (try obtain ⟨hS1, hS2, hS3, hS4, hS5⟩ := hSw); (try obtain ⟨hS1, hS2, hS3⟩ := hSw); go_simp; (try with_reducible rfl))); (try simp only [Act.put, List.setIfInBounds_toArray, List.set_cons_zero, List.set_cons_succ]))
  | (refine wpSch_no rfl (fun _ _ _ h => h) (by rfl) ?_; (try simp only [Act.put, List.setIfInBounds_toArray, List.set_cons_zero, List.set_cons_succ]))
  | (refine wpSch_not rfl (by rfl) (by assumption) ?_; (try simp only [Act.put, List.setIfInBounds_toArray, List.set_cons_zero, List.set_cons_succ]))))
      refine wpSch_call rfl (by rfl) (fun K hK => ?_)
      go_simp
      refine (HL2.out _).mono ?_
      rintro e w2 ⟨rfl, k2⟩
      have HK2 := Lib.hid (HK.out.drew.trans k2); clear k2
      refine hK.out _ _ ⟨(HC.out _ HK2.out).1, (HC.out _ HK2.out).2.1, (HC.out _ HK2.out).2.2, HC2.out _ HK2.out⟩ (fun hHeld => ?_)
      clear hK K
      (try simp only [Act.put, List.setIfInBounds_toArray, List.set_cons_zero, List.set_cons_succ])
      refine wpSch_nil ?_
      by_cases hl : KLt ⟨xa, xb⟩ ⟨ra, rb⟩
      · rw [decide_eq_true hl]
        have HV := Lib.hid (HY.out hl)
        have WB2 := Lib.hid (WB.out.keep HK2.out id)
        have WK := WB2.out
        have WK1 := WK.put 0 (.int .u64 ra)
        have WK2 := WK1.put 1 (.int .u64 rb)
        have e0 := WK.cell 0; have f0 := WK.free 0
        have e1 := WK1.cell 1; have f1 := WK1.free 1
        have d0 := WK2.cell 0; have d1 := WK2.cell 1
        simp only [List.setIfInBounds_toArray, List.set_cons_zero, List.set_cons_succ, List.getElem?_toArray, List.getElem?_cons_zero, List.getElem?_cons_succ] at e0 e1 d0 d1
        clear WK WK1 WK2
        have c1' := (HC.out _ HK2.out).2.2
        have c2' := (HC2.out _ HK2.out).1
        have c3' := (HC2.out _ HK2.out).2
        go_wp2
        (try simp only [Exit.inBlock, Exit.then])
        refine bodyPost_ret (v := .tuple #[.agg #[.int .u64 ra, .int .u64 rb], .bool true]) ?_ rfl ⟨?_, ?_⟩
        · rw [results_cell_tmp rfl]
          go_simp
        · rw [HV.out]
        · exact ((K0.out.trans HK2.out).setCell (p := ⟨w.heap.size + 1, 0, none⟩) (.inr (Nat.le_succ _)) _).setCell (p := ⟨w.heap.size + 1, 1, none⟩) (.inr (Nat.le_succ _)) _
      · rw [decide_eq_false hl]
        go_wp2
        go_roundw
        case rel => exact ⟨k + 1, by omega, by go_num, HN.out hl, HK2.out⟩
        case measure => simp [intOf]; omega
    · have HE : Hid (above ks ⟨xa, xb⟩ = []) := Lib.hid (above_none (fun z hz => HALL.out z (by rw [List.take_of_length_le (by omega)]; exact hz)))
      have HV : Hid ((Value.tuple #[.agg #[.int .u64 (hdK (above ks ⟨xa, xb⟩)).a, .int .u64 (hdK (above ks ⟨xa, xb⟩)).b], .bool (hdB (above ks ⟨xa, xb⟩))]) = .tuple #[.agg #[.int .u64 0, .int .u64 0], .bool false]) := Lib.hid (by rw [HE.out]; rfl)
      have hi1 : ¬ (k : Int) < (ks.length : Int) := by omega
      have WB2 := Lib.hid (WB.out.keep HK.out id)
      obtain ⟨ra, hra⟩ : ∃ r : Int, r = 0 := ⟨0, rfl⟩
      obtain ⟨rb, hrb⟩ : ∃ r : Int, r = 0 := ⟨0, rfl⟩
      have WK := WB2.out
      have WK1 := WK.put 0 (.int .u64 ra)
      have WK2 := WK1.put 1 (.int .u64 rb)
      have e0 := WK.cell 0; have f0 := WK.free 0
      have e1 := WK1.cell 1; have f1 := WK1.free 1
      have d0 := WK2.cell 0; have d1 := WK2.cell 1
      simp only [List.setIfInBounds_toArray, List.set_cons_zero, List.set_cons_succ, List.getElem?_toArray, List.getElem?_cons_zero, List.getElem?_cons_succ] at e0 e1 d0 d1
      clear WK WK1 WK2
      subst hra hrb
      go_wp2
      (try simp only [Exit.inBlock, Exit.then])
      refine bodyPost_ret (v := .tuple #[.agg #[.int .u64 0, .int .u64 0], .bool false]) ?_ rfl ⟨?_, ?_⟩
      · rw [results_cell_tmp rfl]
        go_simp
      · rw [HV.out]
      · exact ((K0.out.trans HK.out).setCell (p := ⟨w.heap.size + 1, 0, none⟩) (.inr (Nat.le_succ _)) _).setCell (p := ⟨w.heap.size + 1, 1, none⟩) (.inr (Nat.le_succ _)) _
end Go.Proofs.Ytcejgmckghadnaa
