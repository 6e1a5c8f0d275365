/-
  Proved: canterlaw06.RingPlays answers true at every number and every list of deeds, and leaves its arguments as they were. Conditions: none.
-/
import Derived.Test.YtjdagojikhainaaRows
import Derived.WalkKit
import Derived.ProofKit
import Derived.OpenShut
import Derived.ShutString
import Derived.ChangeOld
import Derived.Below
import Derived.Test.YtjdagojikhainaaRingLaw
import Derived.Deep.CutBlock
import Derived.Deep.LoopGhost
namespace Go.Proofs.Ytjdagojikhainaa.ringPlays
open Go.ChangeShapes Go.WideShapes Go.ChangeAt Go.RowKit
open Go.ChangeMaps (open_string shut_string)
set_option linter.unusedVariables false

theorem own : ownKnob Try.prog.godebug = none := by kernel_rfl
theorem laidOut : laidOutB Try.prog = true := by kernel_rfl

def IsRow (k : IntKind) (w : World) (a : Option Addr) (len cap : Nat) (zs : List Int) : Prop :=
  (a = none ∧ len = 0 ∧ cap = 0 ∧ zs = []) ∨
  ∃ x, a = some x ∧ len ≤ cap ∧ cap ≤ maxLen ∧ zs.length = cap ∧ (∀ i, i < zs.length → w.cell? (x.add i) = some (.int k (zs.getD i 0))) ∧ ∀ n ∈ zs, (Lit.int k n).wf = true

theorem rd_ints {w : World} {a : Option Addr} {len cap : Nat} {z : List Int} (h : IsRow .i64 w a len cap z) :
    (z.take len).length = len ∧ len ≤ 9223372036854775807 ∧ Rd .i64 w a (z.take len) := by
  rcases h with ⟨rfl, rfl, rfl, rfl⟩ | ⟨x, rfl, hl, hm, hz, hc, hw⟩
  · exact ⟨rfl, by omega, fun i hi => by simp at hi⟩
  · have hlen : (z.take len).length = len := by simp; omega
    have eg : ∀ i, i < len → (z.take len).getD i 0 = z.getD i 0 := fun i hi => by simp [List.getD_eq_getElem?_getD, hi]
    refine ⟨hlen, by unfold maxLen at hm; omega, fun i hi => ?_⟩
    rw [hlen] at hi
    obtain ⟨b, off, e, hat⟩ := ints_at hc (by omega)
    subst e
    have hcell := hat i (by omega)
    exact ⟨b, off, rfl, lt_of_cell hcell, by rw [eg i hi]; exact hcell⟩

theorem told_all (l : List Int) (m : Int) (h : (l.length : Int) ≤ m) : toldN l m = l.length := by unfold toldN; omega
/-- The list that is kept beside: a slice that reads as l, in a block that is neither handed in nor the ring's. -/
def Lst (n₀ g p : Nat) (w : World) (v : Value) (l : List Int) : Prop := ∃ a c, v = .slice a l.length c ∧ Rd .i64 w a l ∧ l.length ≤ c ∧ c ≤ maxLen ∧ (a = none → l.length = 0 ∧ c = 0) ∧ ∀ ad, a = some ad → (∃ b o, ad = ⟨b, o, none⟩ ∧ b ≠ g ∧ b ≠ p ∧ n₀ ≤ b)
theorem Lst.out' {n₀ g p : Nat} {w : World} {v : Value} {l : List Int} (h : Lst n₀ g p w v l) : ∃ a c, v = .slice a l.length c ∧ Rd .i64 w a l ∧ True := by
  obtain ⟨a, c, e, hr, _⟩ := h
  exact ⟨a, c, e, hr, trivial⟩
theorem Lst.nil (n₀ g p : Nat) (w : World) : Lst n₀ g p w (.slice none 0 0) [] := ⟨none, 0, rfl, fun i hi => (by simp at hi), Nat.le_refl _, Nat.zero_le _, fun _ => ⟨rfl, rfl⟩, fun ad e => (by cases e)⟩
theorem Lst.keep {n₀ g p : Nat} {w w' : World} {v : Value} {l : List Int} (h : Lst n₀ g p w v l) (hk : Keep (fun k => k = g ∨ k = p) w w') : Lst n₀ g p w' v l := by
  obtain ⟨a, c, e, hr, h1, h2, h3, h4⟩ := h
  refine ⟨a, c, e, hr.stays hk (fun ad e' hs => ?_), h1, h2, h3, h4⟩
  obtain ⟨b, o, rfl, hb1, hb2, _⟩ := h4 ad e'
  exact hs.elim hb1 hb2
theorem Lst.kept {n₀ g p : Nat} {w w' : World} {v : Value} {l : List Int} (h : Lst n₀ g p w v l) (hk : Keep (fun _ => False) w w') : Lst n₀ g p w' v l := h.keep (hk.mono (fun _ h => h.elim))
theorem Lst.rest {n₀ g p : Nat} {w : World} {b o c : Nat} {y : Int} {l : List Int} (h : Lst n₀ g p w (.slice (some ⟨b, o, none⟩) (l.length + 1) c) (y :: l)) : Lst n₀ g p w (.slice (some ⟨b, o + 1, none⟩) l.length (c - 1)) l := by
  obtain ⟨a, c', e, hr, h1, h2, h3, h4⟩ := h
  cases e
  simp only [List.length_cons] at h1
  refine ⟨_, _, rfl, fun i hi => ?_, by omega, by omega, fun e => (by cases e), fun ad e => ?_⟩
  · obtain ⟨b', o', e, hlt, hc⟩ := hr (i + 1) (by simpa using hi)
    cases e
    exact ⟨b, o + 1, rfl, hlt, by rw [show o + 1 + i = o + (i + 1) by omega, hc]; simp⟩
  · cases e
    obtain ⟨b', o', e, q⟩ := h4 _ rfl
    cases e
    exact ⟨b, o + 1, rfl, q⟩
theorem Lst.rest1 {n₀ g p : Nat} {w : World} {b o : Nat} {y : Int} {l : List Int} (h : Lst n₀ g p w (.slice (some ⟨b, o, none⟩) (l.length + 1) 1) (y :: l)) : Lst n₀ g p w (.slice (some ⟨b, o, none⟩) l.length 0) l := by
  obtain ⟨a, c', e, hr, h1, h2, h3, h4⟩ := h
  cases e
  simp only [List.length_cons] at h1
  exact ⟨_, _, rfl, fun i hi => (by omega), by omega, Nat.zero_le _, fun e => (by cases e), fun ad e => (by cases e; exact h4 _ rfl)⟩
theorem Lst.of_owns {n₀ g p : Nat} {w : World} {v : Value} {l : List Int} (h : Owns w 3 v (zv l)) (hb : ∀ k, v.ownBlock = some k → k ≠ g ∧ k ≠ p ∧ n₀ ≤ k) : Lst n₀ g p w v l := by
  obtain ⟨a, c, rfl, hn, ha⟩ := h.shape
  refine ⟨a, c, by rw [len_zv], h.rdz, ?_, ?_, fun e => ⟨by have := congrArg List.length (hn e).2; simpa using this, (hn e).1⟩, fun ad e => ?_⟩
  · cases a with
    | none => have := congrArg List.length (hn rfl).2; simp at this; rw [this]; exact Nat.zero_le _
    | some ad => obtain ⟨gg, rfl⟩ := ha ad rfl; have := h.capLe.2.1; simpa using this
  · cases a with
    | none => rw [(hn rfl).1]; exact Nat.zero_le _
    | some ad => obtain ⟨gg, rfl⟩ := ha ad rfl; exact h.capLe.2.2
  · obtain ⟨gg, rfl⟩ := ha ad e
    subst e
    exact ⟨gg, 0, rfl, hb gg rfl⟩
theorem Lst.news {n₀ g p : Nat} {w : World} {a : Option Addr} {n c : Nat} {l : List Int} (h : Lst n₀ g p w (.slice a n c) l) : ∀ ad, a = some ad → ∀ j u, (zv l)[j]? = some u → w.cell? (ad.add j) = some u := fun ad e j u hj => by
  obtain ⟨a', c', e', hr, _⟩ := h
  cases e'
  have hlt : j < l.length := by have := (List.getElem?_eq_some_iff.1 hj).1; simpa using this
  obtain ⟨b, o, e2, _, hc⟩ := hr j hlt
  rw [e] at e2; cases e2
  rw [get_zv] at hj
  simp [hlt] at hj
  subst hj
  rw [show (⟨b, o, none⟩ : Addr).add j = ⟨b, o + j, none⟩ by simp [Addr.add], hc]; simp [hlt]
theorem keep_nil {w w' : World} (h : Keep (fun k => (Value.slice none 0 0).ownBlock = some k) w w') : Keep (fun _ => False) w w' := h.mono (fun k e => by simp [Value.ownBlock] at e)

set_option maxHeartbeats 4000000 in
set_option maxRecDepth 100000 in
theorem walk (a0 : Int) (a1 : Option Addr) (len1 cap1 : Nat) (z1 : List Int) (w : World) (w0 : (Lit.int .i64 a0).wf = true) (w1 : IsRow .i64 w a1 len1 cap1 z1) :
    Calls Try.prog 3 #[.int .i64 a0, .slice a1 len1 cap1] w fun e w' => e = .returned (.bool true) ∧ Below w.heap.size w w' := by
  obtain ⟨hlen, hmax, hrd⟩ := rd_ints w1
  clear w0 w1
  generalize z1.take len1 = zs at *
  subst hlen
  have HL := Lib.hid hrd; clear hrd
  go_enter Try.func3, Try.ntmps3
  go_wp2_with fail
  refine (rnew_any _ _).mono ?_
  rintro e w1 ⟨rfl, h1, k1⟩
  have H1 := Lib.hid h1; have K1 := Lib.hid k1; clear h1 k1
  go_upto_region 4 with (go_at_call 8; (with_reducible refine (awaker_any _).mono ?_); rintro e w3 ⟨rfl, k3⟩; have H3 := Lib.hid (H1.out.kept k3); have K3 := Lib.hid ((K1.out.trans k3).below (Nat.le_refl _) (fun _ h => h.elim)); clear k3)
  clear H1 K1
  have hNN := capN_le a0
  obtain ⟨N, hN⟩ : ∃ N, capN a0 = N := ⟨_, rfl⟩
  rw [hN] at hNN
  rw [hN] at H3
  go_cut [0] (fun s0 wx => s0 = .int .i64 N ∧ wx = w3)
  case first =>
    have HN := Lib.hid hN; clear hN
    rcases Int.lt_trichotomy a0 0 with h | h | h
    · have HV : Hid ((0 : Int) = N) := Lib.hid (by rw [← HN.out]; unfold capN; rw [if_pos h]; rfl)
      go_wp2
      go_meet
      exact ⟨by rw [HV.out], rfl⟩
    · subst h
      have HV : Hid ((0 : Int) = N) := Lib.hid (by rw [← HN.out]; rfl)
      go_wp2
      go_meet
      exact ⟨by rw [HV.out], rfl⟩
    · rcases Int.lt_trichotomy a0 4096 with h' | h' | h'
      · have HV : Hid (a0 = N) := Lib.hid (by rw [← HN.out]; unfold capN; rw [if_neg (by omega), if_pos (by omega)]; omega)
        go_wp2
        go_meet
        exact ⟨by rw [HV.out], rfl⟩
      · subst h'
        have HV : Hid ((4096 : Int) = N) := Lib.hid (by rw [← HN.out]; rfl)
        go_wp2
        go_meet
        exact ⟨by rw [HV.out], rfl⟩
      · have HV : Hid ((4096 : Int) = N) := Lib.hid (by rw [← HN.out]; unfold capN; rw [if_neg (by omega), if_neg (by omega)]; rfl)
        go_wp2
        go_meet
        exact ⟨by rw [HV.out], rfl⟩
  case rest =>
    obtain ⟨rfl, hwc⟩ := hcut
    subst hwc
    clear hN
    go_wp2
    go_loopg [6, 7] 120 (fun j v i wr => ∃ (k : Nat) (l : List Int), k + j = 120 ∧ i = .int .i64 k ∧ Lst w.heap.size (w.heap.size + 1) w.heap.size wr v l ∧ RingAt wr (w.heap.size + 1) w.heap.size N l ∧ Below w.heap.size w wr)
    case atStart => exact ⟨0, [], by omega, rfl, Lst.nil _ _ _ _, H3.out, K3.out⟩
    case round =>
      obtain ⟨k, l, hk, rfl, hl, hA, hB⟩ := hrel
      clear H3 K3
      have hll : l.length ≤ N := hA.len
      have HA := Lib.hid hA; have HB := Lib.hid hB; have HLS := Lib.hid hl
      obtain ⟨aw, cw, rfl, _⟩ := hl
      clear hA hB
      by_cases hin : k < zs.length ∧ k < 120
      · obtain ⟨hin1, hin2⟩ := hin
        have i1 : (k : Int) < (zs.length : Int) := by omega
        obtain ⟨b1, o1, rfl, hb1, hc1⟩ := HL.out k hin1
        have HCELL : Hid (∀ W, Below w.heap.size w W → W.cell? ⟨b1, o1 + k, none⟩ = some (.int .i64 (zs.getD k 0))) := Lib.hid (fun W h => (h.cell (p := ⟨b1, o1 + k, none⟩) hb1).trans hc1)
        have hcell := HCELL.out _ HB.out
        generalize zs.getD k 0 = x at *
        clear hc1 hb1 HL
        go_upto_if 43 with fail
        go_cut [6] (fun s6 wx => ∃ l', Lst w.heap.size (w.heap.size + 1) w.heap.size wx s6 l' ∧ RingAt wx (w.heap.size + 1) w.heap.size N l' ∧ Below w.heap.size w wx)
        case first =>
          cases hq : (x.tmod 3 == 0) with
          | true =>
            cases l with
            | nil =>
              simp only [List.length_nil]
              go_wp2_with (go_at_call 9; (with_reducible refine (rpop_is (v := 0) (b := false) (l' := []) ⟨rfl, rfl, rfl⟩ _ _ _ HA.out).mono ?_); rintro e w5 ⟨rfl, h5, k5⟩; have L5 := Lib.hid (HLS.out.keep k5); have A5 := Lib.hid h5; have B5 := Lib.hid (HB.out.trans (k5.below HB.out.size (fun j h => by omega))); clear h5 k5)
              go_meet
              exact ⟨[], L5.out, A5.out, B5.out⟩
            | cons y l0 =>
              obtain ⟨a', c', e', hr, h1, h2, h3, h4⟩ := HLS.out
              cases e'
              obtain ⟨bw, ow, rfl, _, hcw⟩ := hr 0 (by simp)
              have HADDR := Lib.hid (h4 _ rfl)
              have HRD := Lib.hid hr
              have fy : (y != y) = false := by simp
              simp only [List.length_cons] at h1 ⊢
              unfold maxLen at h2
              clear h3 h4 hr
              by_cases hc1 : cw = 1
              · subst hc1
                obtain rfl : l0 = [] := List.eq_nil_of_length_eq_zero (by omega)
                simp only [List.length_nil]
                have HCW := Lib.hid hcw; clear hcw
                go_wp2_with (go_at_call 9; (with_reducible refine (rpop_is (v := y) (b := true) ⟨rfl, by simp [popB], rfl⟩ _ _ _ HA.out).mono ?_); rintro e w5 ⟨rfl, h5, k5⟩; have hc5 : w5.cell? ⟨bw, ow, none⟩ = some (.int .i64 y) := (k5.cell (p := ⟨bw, ow, none⟩) (lt_of_cell HCW.out) (by obtain ⟨b, o, e, q1, q2, _⟩ := HADDR.out; cases e; exact fun h => h.elim q1 q2)).trans HCW.out; have L5 := Lib.hid (HLS.out.keep k5); have A5 := Lib.hid h5; have B5 := Lib.hid (HB.out.trans (k5.below HB.out.size (fun j h => by omega))); clear h5 k5)
                go_meet
                exact ⟨[], L5.out.rest1, A5.out, B5.out⟩
              · skip
                have HCW := Lib.hid hcw; clear hcw
                go_wp2_with (go_at_call 9; (with_reducible refine (rpop_is (v := y) (b := true) ⟨rfl, by simp [popB], rfl⟩ _ _ _ HA.out).mono ?_); rintro e w5 ⟨rfl, h5, k5⟩; have hc5 : w5.cell? ⟨bw, ow, none⟩ = some (.int .i64 y) := (k5.cell (p := ⟨bw, ow, none⟩) (lt_of_cell HCW.out) (by obtain ⟨b, o, e, q1, q2, _⟩ := HADDR.out; cases e; exact fun h => h.elim q1 q2)).trans HCW.out; have L5 := Lib.hid (HLS.out.keep k5); have A5 := Lib.hid h5; have B5 := Lib.hid (HB.out.trans (k5.below HB.out.size (fun j h => by omega))); clear h5 k5)
                go_meet
                exact ⟨l0, L5.out.rest, A5.out, B5.out⟩
          | false =>
            by_cases hfull : l.length = N
            · have hge : ¬ ((l.length : Int) < (N : Int)) := by omega
              have HP := Lib.hid (full_push l x hfull)
              go_wp2_with (go_at_call 10; (with_reducible refine (rpush_is HP.out _ _ _ HA.out).mono ?_); rintro e w5 ⟨rfl, h5, k5⟩; have L5 := Lib.hid (HLS.out.keep k5); have A5 := Lib.hid h5; have B5 := Lib.hid (HB.out.trans (k5.below HB.out.size (fun j h => by omega))); clear h5 k5)
              have L6 := Lib.hid hfull
              go_meet
              exact ⟨l, by have := L5.out; rw [L6.out] at this; exact this, A5.out, B5.out⟩
            · have hlt : (l.length : Int) < (N : Int) := by omega
              have HP := Lib.hid (more_push l x (N := N) (by omega))
              obtain ⟨i0, hi, hz0, hz1, hz2⟩ := info_parts Try.infoInt
              have HI := Lib.hid hi; have HZ0 := Lib.hid hz0; have HZ1 := Lib.hid hz1; have HZ2 := Lib.hid hz2; clear hi hz0 hz1 hz2
              go_wp2_with (go_at_call 10; (with_reducible refine (rpush_is HP.out _ _ _ HA.out).mono ?_); rintro e w5 ⟨rfl, h5, k5⟩; have L5 := Lib.hid (HLS.out.keep k5); have A5 := Lib.hid h5; have B5 := Lib.hid (HB.out.trans (k5.below HB.out.size (fun j h => by omega))); clear h5 k5)
              have hc5 := HCELL.out _ B5.out
              have HC5 := Lib.hid hc5
              have HLN : Hid (aw = none → l.length = 0 ∧ cw = 0) := Lib.hid (by obtain ⟨a', c', e', _, _, _, h3, _⟩ := HLS.out; cases e'; exact h3)
              have hl5 := A5.out.lt
              refine wp_region_late (fun W => W.cell? ⟨b1, o1 + k, none⟩ = some (.int .i64 x)) [] (.yes 0 (.yes 2 (.yes 3 (.yes 4 (.yes 5 (.two 1 (.one 6 (.one 7 (.yes 8 .nil))) 6 (.one 1 (.one 7 (.yes 8 .nil))))))))) (by kernel_rfl) (by kernel_rfl) (by kernel_rfl) (by kernel_rfl) hc5 ?_
              (repeat (refine wpSchL_yes (v := ?_) rfl (fun _ _ _ h => h) (by rfl) ?_ ?_; rotate_left; (next => (intro w hSw; (try dsimp only at hSw); go_simp; (try with_reducible rfl))); (try simp only [Act.put, List.setIfInBounds_toArray, List.set_cons_zero, List.set_cons_succ])))
              have KD : Hid (Keep (fun _ => False) w5 w5.drew) := Lib.hid (Keep.refl _ w5).drew
              generalize w5.drew = w6 at *
              have HS : Hid (∀ W, Keep (fun _ => False) w5 W → W.cell? ⟨b1, o1 + k, none⟩ = some (.int .i64 x)) := Lib.hid (fun W h => (h.cell (p := ⟨b1, o1 + k, none⟩) (lt_of_cell HC5.out) id).trans HC5.out)
              refine wpSchL_two ?_ ?_
              · refine wpOneL_call rfl (by rfl) (fun K hK => ?_)
                refine oper_append_owns (.const (.slice none 0 0)) (.tmp 98) 22 rfl 3 i0 (.int .i64 0) 8 Try.underlying22 HI.out HZ0.out HZ1.out HZ2.out rfl (.slice none 0 0) [] rfl (Owns.nil _ _) aw l.length cw (zv l) rfl (len_zv l) HLN.out (L5.out.kept KD.out).news (one_zv l) (by unfold maxLen; simp; omega) (by simp; omega) ?_
                intro v1 w7 ow1 kw1 nw1 _
                rw [List.nil_append] at ow1
                obtain ⟨q1, c1, hv1, _⟩ := ow1.shape
                rw [len_zv] at hv1
                subst hv1
                have N1 : Hid (∀ j, (Value.slice q1 l.length c1).ownBlock = some j → w5.heap.size ≤ j) := Lib.hid (fun j e => by rcases nw1 j e with h | h; simp [Value.ownBlock] at h; exact Nat.le_trans KD.out.size h)
                have K7 := Lib.hid (KD.out.trans (keep_nil kw1)); have O7 := Lib.hid ow1
                clear ow1 kw1 nw1
                refine hK.out _ _ ?_ (fun hHeld => ?_)
                · exact fun _ => HS.out _ K7.out
                clear hK K hHeld
                (try simp only [Act.put, List.setIfInBounds_toArray, List.set_cons_zero, List.set_cons_succ])
                refine wpSchL_one ?_
                refine wpOneL_call rfl (by rfl) (fun K hK => ?_)
                go_simp
                refine hK.out _ _ ?_ (fun hHeld => ?_)
                · exact fun _ => HS.out _ (K7.out.alloc _)
                clear hK K hHeld
                (try simp only [Act.put, List.setIfInBounds_toArray, List.set_cons_zero, List.set_cons_succ])
                refine wpSchL_one ?_
                refine wpOneL_call rfl (by rfl) (fun K hK => ?_)
                refine oper_append_owns (.tmp 99) (.tmp 104) 22 rfl 3 i0 (.int .i64 0) 8 Try.underlying22 HI.out HZ0.out HZ1.out HZ2.out rfl (.slice q1 l.length c1) (zv l) rfl (O7.out.alloc _) (some ⟨w7.heap.size, 0, none⟩) 1 1 [.int .i64 x] rfl rfl (fun h => (by cases h)) (one_news w7 _ _) (one_zv [x]) (by unfold maxLen; rw [len_zv]; omega) (by rw [len_zv]; omega) ?_
                intro v2 w8 ow2 kw2 nw2 _
                have K8 : Hid (Keep (fun _ => False) w5 w8) := Lib.hid ((K7.out.alloc _).then kw2 (fun j e hj => by have := N1.out j e; omega))
                have N2 : Hid (∀ j, v2.ownBlock = some j → w5.heap.size ≤ j) := Lib.hid (fun j e => by rcases nw2 j e with h | h; exact N1.out j h; have := K7.out.size; simp at h; omega)
                rw [app_zv] at ow2
                obtain ⟨q2, c2, hv2, _⟩ := ow2.shape
                rw [len_zv, List.length_append, List.length_singleton] at hv2
                subst hv2
                have O8 := Lib.hid ow2
                clear ow2 kw2 nw2
                refine hK.out _ _ ?_ (fun hHeld => ?_)
                · exact fun _ => HS.out _ K8.out
                clear hK K hHeld
                (try simp only [Act.put, List.setIfInBounds_toArray, List.set_cons_zero, List.set_cons_succ])
                (repeat (refine wpSchL_yes (v := ?_) rfl (fun _ _ _ h => h) (by rfl) ?_ ?_; rotate_left; (next => (intro w hSw; (try dsimp only at hSw); go_simp; (try with_reducible rfl))); (try simp only [Act.put, List.setIfInBounds_toArray, List.set_cons_zero, List.set_cons_succ])))
                refine wpSchL_nil ?_
                go_wp2
                go_meet
                exact ⟨l ++ [x], Lst.of_owns O8.out (fun j e => by have := N2.out j e; omega), A5.out.kept K8.out, B5.out.trans (K8.out.below B5.out.size (fun _ h => h.elim))⟩
              · refine wpOneL_call rfl (by rfl) (fun K hK => ?_)
                go_simp
                have wz := Whole.new w6 3 #[.int .i64 x]
                have kz : Keep (fun _ => False) w5 (w6.alloc (.cells #[.int .i64 x] 3)) := KD.out.alloc _
                refine hK.out _ _ ?_ (fun hHeld => ?_)
                · exact fun _ => HS.out _ kz
                clear hK K hHeld
                (try simp only [Act.put, List.setIfInBounds_toArray, List.set_cons_zero, List.set_cons_succ])
                have gz : Hid (w5.heap.size ≤ w6.heap.size) := Lib.hid KD.out.size
                generalize hsz : w6.heap.size = sz at *
                generalize w6.alloc (.cells #[.int .i64 x] 3) = w9 at *
                clear hsz
                have WZ := Lib.hid wz; have KZ := Lib.hid kz
                clear wz kz
                refine wpSchL_one ?_
                refine wpOneL_call rfl (by rfl) (fun K hK => ?_)
                refine oper_append_owns (.const (.slice none 0 0)) (.tmp 98) 22 rfl 3 i0 (.int .i64 0) 8 Try.underlying22 HI.out HZ0.out HZ1.out HZ2.out rfl (.slice none 0 0) [] rfl (Owns.nil _ _) aw l.length cw (zv l) rfl (len_zv l) HLN.out (L5.out.kept KZ.out).news (one_zv l) (by unfold maxLen; simp; omega) (by simp; omega) ?_
                intro v1 w7 ow1 kw1 nw1 _
                rw [List.nil_append] at ow1
                obtain ⟨q1, c1, hv1, _⟩ := ow1.shape
                rw [len_zv] at hv1
                subst hv1
                have N1 : Hid (∀ j, (Value.slice q1 l.length c1).ownBlock = some j → w5.heap.size ≤ j) := Lib.hid (fun j e => by rcases nw1 j e with h | h; simp [Value.ownBlock] at h; exact Nat.le_trans KZ.out.size h)
                have W7 := Lib.hid (WZ.out.keep (keep_nil kw1) id)
                have K7 := Lib.hid (KZ.out.trans (keep_nil kw1)); have O7 := Lib.hid ow1
                clear ow1 kw1 nw1
                refine hK.out _ _ ?_ (fun hHeld => ?_)
                · exact fun _ => HS.out _ K7.out
                clear hK K hHeld
                (try simp only [Act.put, List.setIfInBounds_toArray, List.set_cons_zero, List.set_cons_succ])
                refine wpSchL_one ?_
                refine wpOneL_call rfl (by rfl) (fun K hK => ?_)
                refine oper_append_owns (.tmp 99) (.tmp 104) 22 rfl 3 i0 (.int .i64 0) 8 Try.underlying22 HI.out HZ0.out HZ1.out HZ2.out rfl (.slice q1 l.length c1) (zv l) rfl O7.out (some ⟨sz, 0, none⟩) 1 1 [.int .i64 x] rfl rfl (fun h => (by cases h)) (whole_news W7.out) (one_zv [x]) (by unfold maxLen; rw [len_zv]; omega) (by rw [len_zv]; omega) ?_
                intro v2 w8 ow2 kw2 nw2 _
                have K8 : Hid (Keep (fun _ => False) w5 w8) := Lib.hid (K7.out.then kw2 (fun j e hj => by have := N1.out j e; omega))
                have N2 : Hid (∀ j, v2.ownBlock = some j → w5.heap.size ≤ j) := Lib.hid (fun j e => by rcases nw2 j e with h | h; exact N1.out j h; have := K7.out.size; omega)
                rw [app_zv] at ow2
                obtain ⟨q2, c2, hv2, _⟩ := ow2.shape
                rw [len_zv, List.length_append, List.length_singleton] at hv2
                subst hv2
                have O8 := Lib.hid ow2
                clear ow2 kw2 nw2
                refine hK.out _ _ ?_ (fun hHeld => ?_)
                · exact fun _ => HS.out _ K8.out
                clear hK K hHeld
                (try simp only [Act.put, List.setIfInBounds_toArray, List.set_cons_zero, List.set_cons_succ])
                (repeat (refine wpSchL_yes (v := ?_) rfl (fun _ _ _ h => h) (by rfl) ?_ ?_; rotate_left; (next => (intro w hSw; (try dsimp only at hSw); go_simp; (try with_reducible rfl))); (try simp only [Act.put, List.setIfInBounds_toArray, List.set_cons_zero, List.set_cons_succ])))
                refine wpSchL_nil ?_
                go_wp2
                go_meet
                exact ⟨l ++ [x], Lst.of_owns O8.out (fun j e => by have := N2.out j e; omega), A5.out.kept K8.out, B5.out.trans (K8.out.below B5.out.size (fun _ h => h.elim))⟩
        case rest =>
          obtain ⟨l', hl', hA', hB'⟩ := hcut
          clear HA HB HLS hll hcell
          have hll : l'.length ≤ N := hA'.len
          obtain ⟨aw', cw', rfl, hr, _⟩ := hl'.out'
          have HA := Lib.hid hA'; have HB := Lib.hid hB'; have HLS := Lib.hid hl'; have HRW := Lib.hid hr
          clear hA' hB' hl' hr
          have HT : Hid (toldN l' 4097 = l'.length) := Lib.hid (told_all l' 4097 (by omega))
          have HTK : Hid (l'.take l'.length = l') := Lib.hid List.take_length
          have f1 : ((l'.length : Int) != (l'.length : Int)) = false := by simp
          go_wp2_with (first
            | (go_at_call 11; (with_reducible refine (pairs_is HT.out _ _ _ HA.out).mono ?_); rintro e w5 ⟨p1, c1, p2, c2, rfl, ⟨r1, _⟩, ⟨r2, _⟩, k5⟩; rw [HTK.out] at r2; have A5 := Lib.hid (HA.out.kept k5); have B5 := Lib.hid (HB.out.trans (k5.below HB.out.size (fun _ h => h.elim))); have R1 := Lib.hid r1; have R2 := Lib.hid r2; have L5 := Lib.hid (HLS.out.kept k5); have RW5 := Lib.hid (HRW.out.keep k5); clear r1 r2 k5)
            | (go_at_call 12; (with_reducible refine (rlen_any _ _ _ _ _ A5.out).mono ?_); rintro e w' ⟨rfl, rfl⟩)
            | (go_at_call 13; (with_reducible refine (plain_int p2 aw' c2 cw' l' w5 (by omega) R2.out RW5.out).mono ?_); rintro e w6 ⟨rfl, n6, hw6⟩; have HW6 := Lib.hid hw6; clear hw6))
          go_loopw [13] (fun i wx => ∃ (z : Int) (n : Nat), -1 ≤ z ∧ z ≤ (l'.length : Int) + 1 ∧ i = .int .i64 z ∧ wx = w5.drewN n) (fun i _ => ((l'.length : Int) + 1 - intOf i).toNat)
          case atStart => exact ⟨-1, n6, by omega, by omega, rfl, HW6.out⟩
          case round =>
            obtain ⟨z, n, hz1, hz2, rfl, hwx⟩ := hrel
            have AX : Hid (RingAt wr (w.heap.size + 1) w.heap.size N l') := Lib.hid (by rw [hwx]; exact A5.out.drewN n)
            have HWX := Lib.hid hwx
            by_cases hneg : z < 0
            · obtain rfl : z = -1 := by omega
              have HV : Hid (atV l' (-1) = 0 ∧ atB l' (-1) = false) := Lib.hid ⟨by unfold atV; rw [if_neg (by omega)], by unfold atB; simp⟩
              have hle : (-1 : Int) ≤ (l'.length : Int) := by omega
              clear hwx
              go_wp2_with (go_at_call 14; (with_reducible refine (rat_is HV.out _ _ _ AX.out).mono ?_); rintro e w7 ⟨rfl, n7, hw7⟩; have HWY := Lib.hid hw7; clear hw7)
              go_roundw
              case rel => exact ⟨0, _, by omega, by omega, by go_num, by rw [HWY.out, HWX.out, World.drewN_drewN]⟩
              case measure => simp [intOf]; omega
            · obtain ⟨j, rfl⟩ : ∃ j : Nat, z = j := ⟨z.toNat, by omega⟩
              rcases Nat.lt_trichotomy j l'.length with h | h | h
              · have HV : Hid (atV l' j = l'.getD j 0 ∧ atB l' j = true) := Lib.hid ⟨by unfold atV; rw [if_pos (by omega)]; simp, by unfold atB; simp; omega⟩
                have hle : (j : Int) ≤ (l'.length : Int) := by omega
                have hlt : (j : Int) < (l'.length : Int) := by omega
                obtain ⟨d1, e1, rfl, _, y1⟩ := R1.out j (by rw [len_idx]; exact h)
                obtain ⟨d2, e2, rfl, _, y2⟩ := RW5.out j h
                have hid : (idx l'.length).getD j 0 = j := by simp [idx, h]
                rw [hid] at y1
                have Y1 : Hid (∀ m, (w5.drewN m).cell? ⟨d1, e1 + j, none⟩ = some (.int .i64 j)) := Lib.hid (fun m => y1)
                have Y2 : Hid (∀ m, (w5.drewN m).cell? ⟨d2, e2 + j, none⟩ = some (.int .i64 (l'.getD j 0))) := Lib.hid (fun m => y2)
                clear y1 y2 hid
                generalize l'.getD j 0 = y at *
                have fy : (y != y) = false := by simp
                have fj : ((j : Int) != (j : Int)) = false := by simp
                clear hwx
                go_wp2_with (go_at_call 14; (with_reducible refine (rat_is HV.out _ _ _ AX.out).mono ?_); rintro e w7 ⟨rfl, n7, hw7⟩; have t1 : w7.cell? ⟨d1, e1 + j, none⟩ = some (.int .i64 j) := (by rw [hw7, HWX.out, World.drewN_drewN]; exact Y1.out _); have t2 : w7.cell? ⟨d2, e2 + j, none⟩ = some (.int .i64 y) := (by rw [hw7, HWX.out, World.drewN_drewN]; exact Y2.out _); have HWY := Lib.hid hw7; clear hw7)
                go_roundw
                case rel => exact ⟨(j : Int) + 1, _, by omega, by omega, by go_num, by rw [HWY.out, HWX.out, World.drewN_drewN]⟩
                case measure => simp [intOf]; omega
              · subst h
                have HV : Hid (atV l' l'.length = 0 ∧ atB l' l'.length = false) := Lib.hid ⟨by unfold atV; rw [if_neg (by omega)], by unfold atB; simp⟩
                have hle : (l'.length : Int) ≤ (l'.length : Int) := by omega
                have hlt : ¬ (l'.length : Int) < (l'.length : Int) := by omega
                clear hwx
                go_wp2_with (go_at_call 14; (with_reducible refine (rat_is HV.out _ _ _ AX.out).mono ?_); rintro e w7 ⟨rfl, n7, hw7⟩; have HWY := Lib.hid hw7; clear hw7)
                go_roundw
                case rel => exact ⟨(l'.length : Int) + 1, _, by omega, by omega, by go_num, by rw [HWY.out, HWX.out, World.drewN_drewN]⟩
                case measure => simp [intOf]
              · have hle : ¬ (j : Int) ≤ (l'.length : Int) := by omega
                have L6 : Hid (Lst w.heap.size (w.heap.size + 1) w.heap.size wr (Value.slice aw' l'.length cw') l') := Lib.hid (by rw [hwx]; exact L5.out.kept ((Keep.refl _ _).drewN n))
                have B6 : Hid (Below w.heap.size w wr) := Lib.hid (below_drew hwx B5.out)
                clear hwx
                go_wp2
                go_roundg (gk - 1)
                case measure => omega
                case rel => exact ⟨k + 1, l', by omega, by go_num, L6.out, AX.out, B6.out⟩
      · by_cases hin1 : k < zs.length
        all_goals
          have hk120 : zs.length ≤ k ∨ 120 ≤ k := by omega
          clear hin
          go_wp2
          go_ret
          exact ⟨rfl, HB.out⟩

set_option maxRecDepth 100000 in
theorem lifted (os : Os) (started : os.Started) (H : Type) (enc : TypeId × Value → H) :
    ReturnsInHanded {} Try.checked os 3 .any (Rows.ringPlaysSpec.pre6 enc Try.prog Try.f3 Rows.ringPlaysRow.domain false) (Rows.ringPlaysSpec.post enc Try.prog Try.f3 false true false false) := by
  refine returnsInHanded_of_change (C := Try.checked) own started (by kernel_rfl) Try.func3
    (ChangeSpec.witness6 (enc := enc) (C := Try.checked) false ⟨#[], #[.int .i64 0, .slice none 0 0], []⟩ 8 (by kernel_rfl) (by kernel_rfl) (by kernel_rfl) (by kernel_rfl)) ?_
  intro W base args ds gs before hval0 hW hcnd _
  have hval : ∀ (j : Nat) t v, Try.f3.params[j]? = some t → args[j]? = some v → Value.okWide Try.prog W .any base t v := hval0
  have hW' := hW
  obtain ⟨p, q, hA0, hV, rfl, hfz, hnd⟩ := hW
  have hA : DataW.TrodAll enc Try.prog W 0 (fun _ => true) true Try.f3.params.toList args.toList ds p := hA0
  rw [Try.params3] at hA hval
  obtain ⟨v0, vs0, d0, ds0, p0, q0, hargs, rfl, rfl, h0, r0⟩ := trodAll_cons hA
  obtain ⟨v1, vs1, d1, ds1, p1, q1, rfl, rfl, rfl, h1, r1⟩ := trodAll_cons r0
  obtain ⟨rfl, rfl, rfl⟩ := trodAll_nil r1
  obtain rfl : args = #[v0, v1] := by cases args; simp_all
  obtain ⟨rfl, rfl⟩ := trodVars_none hV
  obtain ⟨a0, rfl, rfl, rfl, w0⟩ := open_int Try.underlying3 (hval 0 3 v0 rfl rfl) h0
  obtain ⟨a1, len1, cap1, rfl⟩ := okWide_slice Try.underlying22 (hval 1 22 v1 rfl rfl)
  have k1 := h1
  have lt1 : ∀ x ∈ p1, x.block < W.heap.size := by obtain ⟨m, hm⟩ := k1; exact DataW.trod_lt m _ _ _ hm
  obtain ⟨z1, w1⟩ : ∃ zs, IsRow .i64 W a1 len1 cap1 zs := by
    obtain ⟨fuel, hf⟩ := h1
    rcases open_ints Try.underlying22 Try.underlying3 (by kernel_rfl) hf with ⟨hcs, _⟩ | ⟨x, l, c, zs, hcs, _, hl, hm, hz, _, hcell, hwz⟩
    · simp [Value.cells] at hcs
      obtain ⟨rfl, rfl, rfl⟩ := hcs
      exact ⟨[], .inl ⟨rfl, rfl, rfl, rfl⟩⟩
    · simp [Value.cells] at hcs
      obtain ⟨rfl, rfl, rfl⟩ := hcs
      exact ⟨zs, .inr ⟨_, rfl, hl, hm, by simpa using hz, hcell, hwz⟩⟩
  clear hA0 hval0
  refine (walk a0 a1 len1 cap1 z1 W w0 w1).mono fun e W' ⟨he, bel⟩ => ?_
  subst he
  exact ⟨_, rfl, _, _, _, [], _, [], hW', trodAll_mk1 (shut_bool Try.underlying4 _), (trodAll_cons_mk (shut_int Try.underlying3 w0) (trodAll_cons_mk (Below.trod laidOut (by kernel_rfl) (of_decide_eq_true (by kernel_rfl)) k1 bel lt1) trodAll_mk0)), rfl, bel.frame _, fun h => by cases h⟩

theorem over : Rows.ringPlaysRow.holds Try.pinned (OpenSpec.ofChange Rows.ringPlaysSpec) :=
  OpenClaim.holds_of_wide 3 Try.f3 rfl rfl rfl rfl rfl rfl rfl ⟨rfl, rfl, rfl, rfl, rfl⟩ rfl rfl rfl rfl rfl (by kernel_rfl) Try.func3 (by kernel_rfl)
    (of_decide_eq_true (by kernel_rfl)) (by unfold Func.isWrapper; first | (rw [if_pos (by decide +kernel)]; kernel_rfl) | (rw [if_neg (by decide +kernel)]; exact ⟨rfl, rfl⟩))
    (fun os started H enc _ => lifted os started H enc)

theorem proved : Rows.RingPlaysSaid := over
end Go.Proofs.Ytjdagojikhainaa.ringPlays
namespace Go.Proofs.Ytjdagojikhainaa
theorem ringPlays_holds : Rows.RingPlaysSaid := ringPlays.proved
#print axioms ringPlays_holds
end Go.Proofs.Ytjdagojikhainaa
