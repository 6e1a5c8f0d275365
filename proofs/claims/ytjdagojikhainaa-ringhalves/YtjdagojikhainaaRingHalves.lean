/-
  Proved: canterlaw06.RingHalves answers true at every two lists of numbers, and leaves its arguments as they were. Conditions: none.
-/
import Derived.Test.YtjdagojikhainaaRows
import Derived.WalkKit
import Derived.ProofKit
import Derived.OpenShut
import Derived.ShutString
import Derived.ChangeOld
import Derived.Below
import Derived.Test.YtjdagojikhainaaRingLaw
namespace Go.Proofs.Ytjdagojikhainaa.ringHalves
open Go.ChangeShapes Go.WideShapes Go.ChangeAt Go.RowKit
open Go.ChangeMaps (open_string shut_string)
set_option linter.unusedVariables false

theorem own : ownKnob Try.prog.godebug = none := by kernel_rfl
theorem laidOut : laidOutB Try.prog = true := by kernel_rfl

def IsRow (k : IntKind) (w : World) (a : Option Addr) (len cap : Nat) (zs : List Int) : Prop :=
  (a = none ∧ len = 0 ∧ cap = 0 ∧ zs = []) ∨
  ∃ x, a = some x ∧ len ≤ cap ∧ cap ≤ maxLen ∧ zs.length = cap ∧ (∀ i, i < zs.length → w.cell? (x.add i) = some (.int k (zs.getD i 0))) ∧ ∀ n ∈ zs, (Lit.int k n).wf = true

theorem rd_ints {w : World} {a : Option Addr} {len cap : Nat} {z : List Int} (h : IsRow .i64 w a len cap z) :
    (z.take len).length = len ∧ len ≤ 9223372036854775807 ∧ Rd .i64 w a (z.take len) := by
  rcases h with ⟨rfl, rfl, rfl, rfl⟩ | ⟨x, rfl, hl, hm, hz, hc, hw⟩
  · exact ⟨rfl, by omega, fun i hi => by simp at hi⟩
  · have hlen : (z.take len).length = len := by simp; omega
    have eg : ∀ i, i < len → (z.take len).getD i 0 = z.getD i 0 := fun i hi => by simp [List.getD_eq_getElem?_getD, hi]
    refine ⟨hlen, by unfold maxLen at hm; omega, fun i hi => ?_⟩
    rw [hlen] at hi
    obtain ⟨b, off, e, hat⟩ := ints_at hc (by omega)
    subst e
    have hcell := hat i (by omega)
    exact ⟨b, off, rfl, lt_of_cell hcell, by rw [eg i hi]; exact hcell⟩

theorem told_all (l : List Int) (m : Int) (h : (l.length : Int) ≤ m) : toldN l m = l.length := by unfold toldN; omega
theorem drop_pop (A B : List Int) {k : Nat} (h : k < A.length) : popV (A.drop k ++ B) = A.getD k 0 ∧ popB (A.drop k ++ B) = true ∧ (A.drop k ++ B).tail = A.drop (k + 1) ++ B := by
  rw [List.drop_eq_getElem_cons h]
  exact ⟨by simp [popV, h], by simp [popB]; omega, rfl⟩
theorem plain_nil_or (zs : List Int) (n n' : Nat) (hn : n = zs.length) (hn' : n' = zs.length) (a b : Option Addr) (ca cb : Nat) (w : World) (hlen : zs.length ≤ 4096) (ha : Rd .i64 w a zs) (hb : Rd .i64 w b zs) :
    Calls Try.prog 13 #[.slice a n ca, .slice b n' cb] w fun e w' => e = .returned (.bool true) ∧ ∃ n, w' = w.drewN n := by
  subst hn hn'
  exact plain_int a b ca cb zs w (by omega) ha hb

set_option maxHeartbeats 4000000 in
set_option maxRecDepth 100000 in
theorem walk (a0 : Option Addr) (len0 cap0 : Nat) (z0 : List Int) (a1 : Option Addr) (len1 cap1 : Nat) (z1 : List Int) (w : World) (w0 : IsRow .i64 w a0 len0 cap0 z0) (w1 : IsRow .i64 w a1 len1 cap1 z1) :
    Calls Try.prog 6 #[.slice a0 len0 cap0, .slice a1 len1 cap1] w fun e w' => e = .returned (.bool true) ∧ Below w.heap.size w w' := by
  obtain ⟨hlen, hmax, hrd⟩ := rd_ints w0
  obtain ⟨hlen', hmax', hrd'⟩ := rd_ints w1
  clear w0 w1
  generalize z0.take len0 = za at *
  generalize z1.take len1 = zb at *
  subst hlen hlen'
  have HL := Lib.hid hrd; have HR := Lib.hid hrd'; clear hrd hrd'
  by_cases hbig : 40 < za.length ∨ 40 < zb.length
  · by_cases hb1 : 40 < za.length
    · go_enter Try.func6, Try.ntmps6
      go_wp2_with (go_at_call 8; (with_reducible refine (awaker_any _).mono ?_); rintro e w3 ⟨rfl, k3⟩; have K3 := Lib.hid (k3.below (Nat.le_refl _) (fun _ h => h.elim)); clear k3)
      go_ret
      exact ⟨rfl, K3.out⟩
    · have hb2 : 40 < zb.length := by omega
      go_enter Try.func6, Try.ntmps6
      go_wp2_with (go_at_call 8; (with_reducible refine (awaker_any _).mono ?_); rintro e w3 ⟨rfl, k3⟩; have K3 := Lib.hid (k3.below (Nat.le_refl _) (fun _ h => h.elim)); clear k3)
      go_ret
      exact ⟨rfl, K3.out⟩
  have hza : za.length ≤ 40 := by omega
  have hzb : zb.length ≤ 40 := by omega
  clear hbig
  go_enter Try.func6, Try.ntmps6
  go_wp2_with fail
  refine (rnew_is (k := 100) rfl _).mono ?_
  rintro e w1 ⟨rfl, h1, k1⟩
  have H1 := Lib.hid h1; have K1 := Lib.hid k1; clear h1 k1
  have hl1 := H1.out.lt
  go_wp2_with fail
  refine (rnew_is (k := 100) rfl _).mono ?_
  rintro e w2 ⟨rfl, h2, k2⟩
  have Y2 := Lib.hid h2; have H2 := Lib.hid (H1.out.kept k2); have K2 := Lib.hid (K1.out.trans k2); clear h2 k2 H1 K1
  go_wp2_with fail
  refine (awaker_any _).mono ?_
  rintro e w3 ⟨rfl, k3⟩
  have H3 := Lib.hid (H2.out.kept k3); have Y3 := Lib.hid (Y2.out.kept k3); have K3 := Lib.hid ((K2.out.trans k3).below (Nat.le_refl _) (fun _ h => h.elim)); clear k3 H2 Y2 K2
  generalize w1.heap.size = s1 at *
  go_wp2
  go_loopw [7] (fun i wr => ∃ (k : Nat), k ≤ za.length ∧ i = .int .i64 k ∧ RingAt wr (w.heap.size + 1) w.heap.size 100 (za.take k) ∧ RingAt wr (s1 + 1) s1 100 [] ∧ Below w.heap.size w wr) (fun i _ => za.length - (intOf i).toNat)
  case atStart => exact ⟨0, by omega, rfl, H3.out, Y3.out, K3.out⟩
  case round =>
    obtain ⟨k, hk, rfl, hA, hY, hB⟩ := hrel
    have HA := Lib.hid hA; have HY := Lib.hid hY; have HBEL := Lib.hid hB; clear hA hY hB H3 Y3 K3
    by_cases hlt : k < za.length
    · have hi1 : (k : Int) < (za.length : Int) := by omega
      obtain ⟨b1, o1, rfl, hb1, hc1⟩ := HL.out k hlt
      have hcell := (HBEL.out.cell (p := ⟨b1, o1 + k, none⟩) hb1).trans hc1
      have HTK := Lib.hid (take_more za hlt)
      clear hc1 hb1 HL HR
      generalize za.getD k 0 = x at *
      go_wp2_with (go_at_call 10; (with_reducible refine (rpush_is (more_push (za.take k) x (by rw [List.length_take]; omega)) _ _ _ HA.out).mono ?_); rintro e w5 ⟨rfl, h5, k5⟩; have H5 := Lib.hid h5; have Y5 := Lib.hid (HY.out.keep k5 (by omega) (by omega)); have B5 := Lib.hid (HBEL.out.trans (k5.below HBEL.out.size (fun j h => by omega))); clear h5 k5)
      go_roundw
      case rel => exact ⟨k + 1, by omega, by go_num, by rw [HTK.out]; exact H5.out, Y5.out, B5.out⟩
      case measure => simp [intOf]; omega
    · obtain rfl : k = za.length := by omega
      have HA1 : Hid (RingAt wr (w.heap.size + 1) w.heap.size 100 (za ++ zb.take 0)) := Lib.hid (by have := HA.out; rw [List.take_length] at this; simpa using this)
      clear hk hlt HA
      go_wp2
      go_loopw [8] (fun i wr => ∃ (k : Nat), k ≤ zb.length ∧ i = .int .i64 k ∧ RingAt wr (w.heap.size + 1) w.heap.size 100 (za ++ zb.take k) ∧ RingAt wr (s1 + 1) s1 100 (zb.take k) ∧ Below w.heap.size w wr) (fun i _ => zb.length - (intOf i).toNat)
      case atStart => exact ⟨0, by omega, rfl, HA1.out, HY.out, HBEL.out⟩
      case round =>
        obtain ⟨k, hk, rfl, hA, hY, hB⟩ := hrel
        clear HA1 HY HBEL
        have HA := Lib.hid hA; have HY := Lib.hid hY; have HBEL := Lib.hid hB; clear hA hY hB
        by_cases hlt : k < zb.length
        · have hi1 : (k : Int) < (zb.length : Int) := by omega
          obtain ⟨b1, o1, rfl, hb1, hc1⟩ := HR.out k hlt
          have HCELL : Hid (∀ W, Below w.heap.size w W → W.cell? ⟨b1, o1 + k, none⟩ = some (.int .i64 (zb.getD k 0))) := Lib.hid (fun W h => (h.cell (p := ⟨b1, o1 + k, none⟩) hb1).trans hc1)
          have hcell := HCELL.out _ HBEL.out
          have HTK := Lib.hid (take_more zb hlt)
          clear hc1 hb1 HL HR
          generalize zb.getD k 0 = x at *
          go_wp2_with (first
            | (go_at_call 10; (with_reducible refine (rpush_is (more_push (za ++ zb.take k) x (by rw [List.length_append, List.length_take]; omega)) _ _ _ HA.out).mono ?_); rintro e w5 ⟨rfl, h5, k5⟩; have H5 := Lib.hid h5; have Y5 := Lib.hid (HY.out.keep k5 (by omega) (by omega)); have B5 := Lib.hid (HBEL.out.trans (k5.below HBEL.out.size (fun j h => by omega))); have hcell5 := HCELL.out _ B5.out; clear h5 k5)
            | (go_at_call 10; (with_reducible refine (rpush_is (more_push (zb.take k) x (by rw [List.length_take]; omega)) _ _ _ Y5.out).mono ?_); rintro e w6 ⟨rfl, h6, k6⟩; have Y6 := Lib.hid h6; have H6 := Lib.hid (H5.out.keep k6 (by omega) (by omega)); have B6 := Lib.hid (B5.out.trans (k6.below B5.out.size (fun j h => by omega))); clear h6 k6))
          go_roundw
          case rel => exact ⟨k + 1, by omega, by go_num, by rw [HTK.out, ← List.append_assoc]; exact H6.out, by rw [HTK.out]; exact Y6.out, B6.out⟩
          case measure => simp [intOf]; omega
        · obtain rfl : k = zb.length := by omega
          have HA1 : Hid (RingAt wr (w.heap.size + 1) w.heap.size 100 (za.drop 0 ++ zb)) := Lib.hid (by have := HA.out; rw [List.take_length] at this; exact this)
          have HY1 : Hid (RingAt wr (s1 + 1) s1 100 zb) := Lib.hid (by have := HY.out; rw [List.take_length] at this; exact this)
          clear hk hlt HA HY
          go_wp2
          go_loopw [9] (fun i wr => ∃ (k : Nat), k ≤ za.length ∧ i = .int .i64 k ∧ RingAt wr (w.heap.size + 1) w.heap.size 100 (za.drop k ++ zb) ∧ RingAt wr (s1 + 1) s1 100 zb ∧ Below w.heap.size w wr) (fun i _ => za.length - (intOf i).toNat)
          case atStart => exact ⟨0, by omega, rfl, HA1.out, HY1.out, HBEL.out⟩
          case round =>
            obtain ⟨k, hk, rfl, hA, hY, hB⟩ := hrel
            clear HA1 HY1 HBEL
            have HA := Lib.hid hA; have HY := Lib.hid hY; have HBEL := Lib.hid hB; clear hA hY hB
            by_cases hlt : k < za.length
            · have hi1 : (k : Int) < (za.length : Int) := by omega
              obtain ⟨b1, o1, rfl, hb1, hc1⟩ := HL.out k hlt
              have HCELL : Hid (∀ W, Below w.heap.size w W → W.cell? ⟨b1, o1 + k, none⟩ = some (.int .i64 (za.getD k 0))) := Lib.hid (fun W h => (h.cell (p := ⟨b1, o1 + k, none⟩) hb1).trans hc1)
              have HPOP := Lib.hid (drop_pop za zb hlt)
              clear hc1 hb1 HL HR
              generalize za.getD k 0 = x at *
              have f1 : (x != x) = false := by simp
              go_wp2_with (go_at_call 9; (with_reducible refine (rpop_is HPOP.out _ _ _ HA.out).mono ?_); rintro e w5 ⟨rfl, h5, k5⟩; have H5 := Lib.hid h5; have Y5 := Lib.hid (HY.out.keep k5 (by omega) (by omega)); have B5 := Lib.hid (HBEL.out.trans (k5.below HBEL.out.size (fun j h => by omega))); have hcell5 := HCELL.out _ B5.out; clear h5 k5)
              go_roundw
              case rel => exact ⟨k + 1, by omega, by go_num, H5.out, Y5.out, B5.out⟩
              case measure => simp [intOf]; omega
            · obtain rfl : k = za.length := by omega
              have HA1 : Hid (RingAt wr (w.heap.size + 1) w.heap.size 100 zb) := Lib.hid (by have := HA.out; rw [List.drop_length] at this; exact this)
              have HT : Hid (toldN zb 200 = zb.length) := Lib.hid (told_all zb 200 (by omega))
              have HTK : Hid (zb.take zb.length = zb) := Lib.hid List.take_length
              clear hk hlt HA
              go_wp2_with (first
                | (go_at_call 11; (with_reducible refine (pairs_is HT.out _ _ _ HA1.out).mono ?_); rintro e w5 ⟨p1, c1, p2, c2, rfl, _, ⟨r2, _⟩, k5⟩; rw [HTK.out] at r2; have Y5 := Lib.hid (HY.out.kept k5); have B5 := Lib.hid (HBEL.out.trans (k5.below HBEL.out.size (fun _ h => h.elim))); have R5 := Lib.hid r2; clear r2 k5 HA1 HY HBEL)
                | (go_at_call 11; (with_reducible refine (pairs_is HT.out _ _ _ Y5.out).mono ?_); rintro e w6 ⟨p3, c3, p4, c4, rfl, _, ⟨r4, _⟩, k6⟩; rw [HTK.out] at r4; have B6 := Lib.hid (B5.out.trans (k6.below B5.out.size (fun _ h => h.elim))); have R6 := Lib.hid r4; have R56 := Lib.hid (R5.out.keep k6); have R16 := Lib.hid (HR.out.below B6.out); clear r4 k6)
                | (go_at_call 13; (with_reducible refine (plain_int p2 p4 c2 c4 zb w6 (by omega) R56.out R6.out).mono ?_); rintro e w7 ⟨rfl, n7, hw7⟩; have R57 : Hid (Rd .i64 w7 p2 zb) := Lib.hid (by rw [hw7]; exact R56.out.drewN n7); have R17 : Hid (Rd .i64 w7 a1 zb) := Lib.hid (by rw [hw7]; exact R16.out.drewN n7); have B7 := Lib.hid (below_drew hw7 B6.out); clear hw7)
                | (go_at_call 13; (with_reducible refine (plain_int p2 a1 c2 cap1 zb w7 (by omega) R57.out R17.out).mono ?_); rintro e w8 ⟨rfl, n8, hw8⟩; have B8 := Lib.hid (below_drew hw8 B7.out); clear hw8))
              go_ret
              exact ⟨rfl, B8.out⟩

set_option maxRecDepth 100000 in
theorem lifted (os : Os) (started : os.Started) (H : Type) (enc : TypeId × Value → H) :
    ReturnsInHanded {} Try.checked os 6 .any (Rows.ringHalvesSpec.pre6 enc Try.prog Try.f6 Rows.ringHalvesRow.domain false) (Rows.ringHalvesSpec.post enc Try.prog Try.f6 false true false false) := by
  refine returnsInHanded_of_change (C := Try.checked) own started (by kernel_rfl) Try.func6
    (ChangeSpec.witness6 (enc := enc) (C := Try.checked) false ⟨#[], #[.slice none 0 0, .slice none 0 0], []⟩ 8 (by kernel_rfl) (by kernel_rfl) (by kernel_rfl) (by kernel_rfl)) ?_
  intro W base args ds gs before hval0 hW hcnd _
  have hval : ∀ (j : Nat) t v, Try.f6.params[j]? = some t → args[j]? = some v → Value.okWide Try.prog W .any base t v := hval0
  have hW' := hW
  obtain ⟨p, q, hA0, hV, rfl, hfz, hnd⟩ := hW
  have hA : DataW.TrodAll enc Try.prog W 0 (fun _ => true) true Try.f6.params.toList args.toList ds p := hA0
  rw [Try.params6] at hA hval
  obtain ⟨v0, vs0, d0, ds0, p0, q0, hargs, rfl, rfl, h0, r0⟩ := trodAll_cons hA
  obtain ⟨v1, vs1, d1, ds1, p1, q1, rfl, rfl, rfl, h1, r1⟩ := trodAll_cons r0
  obtain ⟨rfl, rfl, rfl⟩ := trodAll_nil r1
  obtain rfl : args = #[v0, v1] := by cases args; simp_all
  obtain ⟨rfl, rfl⟩ := trodVars_none hV
  obtain ⟨a0, len0, cap0, rfl⟩ := okWide_slice Try.underlying22 (hval 0 22 v0 rfl rfl)
  have k0 := h0
  have lt0 : ∀ x ∈ p0, x.block < W.heap.size := by obtain ⟨m, hm⟩ := k0; exact DataW.trod_lt m _ _ _ hm
  obtain ⟨z0, w0⟩ : ∃ zs, IsRow .i64 W a0 len0 cap0 zs := by
    obtain ⟨fuel, hf⟩ := h0
    rcases open_ints Try.underlying22 Try.underlying3 (by kernel_rfl) hf with ⟨hcs, _⟩ | ⟨x, l, c, zs, hcs, _, hl, hm, hz, _, hcell, hwz⟩
    · simp [Value.cells] at hcs
      obtain ⟨rfl, rfl, rfl⟩ := hcs
      exact ⟨[], .inl ⟨rfl, rfl, rfl, rfl⟩⟩
    · simp [Value.cells] at hcs
      obtain ⟨rfl, rfl, rfl⟩ := hcs
      exact ⟨zs, .inr ⟨_, rfl, hl, hm, by simpa using hz, hcell, hwz⟩⟩
  obtain ⟨a1, len1, cap1, rfl⟩ := okWide_slice Try.underlying22 (hval 1 22 v1 rfl rfl)
  have k1 := h1
  have lt1 : ∀ x ∈ p1, x.block < W.heap.size := by obtain ⟨m, hm⟩ := k1; exact DataW.trod_lt m _ _ _ hm
  obtain ⟨z1, w1⟩ : ∃ zs, IsRow .i64 W a1 len1 cap1 zs := by
    obtain ⟨fuel, hf⟩ := h1
    rcases open_ints Try.underlying22 Try.underlying3 (by kernel_rfl) hf with ⟨hcs, _⟩ | ⟨x, l, c, zs, hcs, _, hl, hm, hz, _, hcell, hwz⟩
    · simp [Value.cells] at hcs
      obtain ⟨rfl, rfl, rfl⟩ := hcs
      exact ⟨[], .inl ⟨rfl, rfl, rfl, rfl⟩⟩
    · simp [Value.cells] at hcs
      obtain ⟨rfl, rfl, rfl⟩ := hcs
      exact ⟨zs, .inr ⟨_, rfl, hl, hm, by simpa using hz, hcell, hwz⟩⟩
  clear hA0 hval0
  refine (walk a0 len0 cap0 z0 a1 len1 cap1 z1 W w0 w1).mono fun e W' ⟨he, bel⟩ => ?_
  subst he
  exact ⟨_, rfl, _, _, _, [], _, [], hW', trodAll_mk1 (shut_bool Try.underlying4 _), (trodAll_cons_mk (Below.trod laidOut (by kernel_rfl) (of_decide_eq_true (by kernel_rfl)) k0 bel lt0) (trodAll_cons_mk (Below.trod laidOut (by kernel_rfl) (of_decide_eq_true (by kernel_rfl)) k1 bel lt1) trodAll_mk0)), rfl, bel.frame _, fun h => by cases h⟩

theorem over : Rows.ringHalvesRow.holds Try.pinned (OpenSpec.ofChange Rows.ringHalvesSpec) :=
  OpenClaim.holds_of_wide 6 Try.f6 rfl rfl rfl rfl rfl rfl rfl ⟨rfl, rfl, rfl, rfl, rfl⟩ rfl rfl rfl rfl rfl (by kernel_rfl) Try.func6 (by kernel_rfl)
    (of_decide_eq_true (by kernel_rfl)) (by unfold Func.isWrapper; first | (rw [if_pos (by decide +kernel)]; kernel_rfl) | (rw [if_neg (by decide +kernel)]; exact ⟨rfl, rfl⟩))
    (fun os started H enc _ => lifted os started H enc)

theorem proved : Rows.RingHalvesSaid := over
end Go.Proofs.Ytjdagojikhainaa.ringHalves
namespace Go.Proofs.Ytjdagojikhainaa
theorem ringHalves_holds : Rows.RingHalvesSaid := ringHalves.proved
#print axioms ringHalves_holds
end Go.Proofs.Ytjdagojikhainaa
