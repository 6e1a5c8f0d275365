/-
  Proved: canterlaw05.TreeOrder answers true at every two keys, and leaves its arguments as they were. Conditions: none.
-/
import Derived.Test.YtnbfleocnpgmlaaRows
import Derived.WalkKit
import Derived.ProofKit
import Derived.OpenShut
import Derived.ShutString
import Derived.Below
import Derived.Test.YtnbfleocnpgmlaaSit
namespace Go.Proofs.Ytnbfleocnpgmlaa.treeOrder
open Go.ChangeShapes Go.WideShapes Go.ChangeAt Go.RowKit
set_option linter.unusedVariables false

theorem own : ownKnob Try.prog.godebug = none := by kernel_rfl
theorem laidOut : laidOutB Try.prog = true := by kernel_rfl

theorem one_ins (a : Key) : insE 4 [] a = 0 ∧ insS 4 [] a = [a] := by unfold insE insS insK; simp
theorem two_same (a : Key) : insE 4 [a] a = 6 ∧ insS 4 [a] a = [a] := by unfold insE insS; simp
theorem two_up {a b : Key} (h : KLt a b) : insE 4 [a] b = 0 ∧ insS 4 [a] b = [a, b] := by
  have h1 : ¬ b = a := h.ne.symm
  have h2 : ¬ KLt b a := fun h' => h.asymm h'
  unfold insE insS insK; simp [h1, h, h2]
theorem two_down {a b : Key} (h : KLt b a) : insE 4 [a] b = 0 ∧ insS 4 [a] b = [b, a] := by
  have h1 : ¬ b = a := h.ne
  have h2 : ¬ KLt a b := fun h' => h.asymm h'
  unfold insE insS insK; simp [h1, h, h2]
theorem next_one (a : Key) : hdK (above [a] a) = ⟨0, 0⟩ ∧ hdB (above [a] a) = false := by
  have h2 : ¬ KLt a a := fun h' => h'.irr
  unfold above; simp [h2, hdK, hdB]
theorem next_two {a b : Key} (h : KLt a b) : hdK (above [a, b] a) = b ∧ hdB (above [a, b] a) = true := by
  have h2 : ¬ KLt a a := fun h' => h'.irr
  unfold above; simp [h2, h, hdK, hdB]

set_option maxHeartbeats 4000000 in
set_option maxRecDepth 100000 in
theorem walk (a0 : Key) (a1 : Key) (w : World)   :
    Calls Try.prog 8 #[kv a0, kv a1] w fun e w' => e = .returned (.bool true) ∧ Below w.heap.size w w' := by
  have heq := Try.eqKey
  have hne := Try.neKey
  obtain ⟨aa, ab⟩ := a0
  obtain ⟨ba, bb⟩ := a1
  simp only [kv]
  have WA := (Whole.new w 25 #[.int .u64 aa, .int .u64 ab]).alloc (.cells #[.int .u64 ba, .int .u64 bb] 25)
  have WB := Whole.new (w.alloc (.cells #[.int .u64 aa, .int .u64 ab] 25)) 25 #[.int .u64 ba, .int .u64 bb]
  rw [World.size_alloc] at WB
  have HBB : Hid (Below w.heap.size w ((w.alloc (.cells #[.int .u64 aa, .int .u64 ab] 25)).alloc (.cells #[.int .u64 ba, .int .u64 bb] 25))) := Lib.hid (((Keep.refl (fun _ => False) w).alloc _).alloc _ |>.below (Nat.le_refl _) (fun _ h => h.elim))
  have HSZ : Hid (w.heap.size ≤ ((w.alloc (.cells #[.int .u64 aa, .int .u64 ab] 25)).alloc (.cells #[.int .u64 ba, .int .u64 bb] 25)).heap.size) := Lib.hid (by simp; omega)
  rcases Int.lt_trichotomy aa ba with h | h | h
  · have hlt : KLt ⟨aa, ab⟩ ⟨ba, bb⟩ := .inl h
    have HI := Lib.hid (two_up hlt); have HMIN : Hid (hdK [(⟨aa, ab⟩ : Key), ⟨ba, bb⟩] = ⟨aa, ab⟩ ∧ hdB [(⟨aa, ab⟩ : Key), ⟨ba, bb⟩] = true) := Lib.hid ⟨rfl, rfl⟩
    have HNEXT := Lib.hid (next_two hlt)
    have x1 : ¬ ba < aa := by omega
    have x2 : (ba == aa) = false := by rw [beq_eq_false_iff_ne]; omega
    have x3 : (aa == ba) = false := by rw [beq_eq_false_iff_ne]; omega
    clear hlt
    go_enter Try.func8, Try.ntmps8
    go_wp2_with fail
    generalize (w.alloc (.cells #[.int .u64 aa, .int .u64 ab] 25)).alloc (.cells #[.int .u64 ba, .int .u64 bb] 25) = wB at *
    refine (Sit.new (N := 4) rfl wB).mono ?_
    rintro e w1 ⟨g, S1, rfl, h1, _⟩
    have H1 := Lib.hid h1; clear h1
    have c0 := (H1.out.whole WA).cell 0; have c1 := (H1.out.whole WA).cell 1
    go_wp2_with fail
    refine (H1.out.ins (one_ins ⟨aa, ab⟩)).mono ?_
    rintro e w2 ⟨rfl, S2, h2, _⟩
    have H2 := Lib.hid h2; clear h2 H1 c0 c1
    have c0 := (H2.out.whole WB).cell 0; have c1 := (H2.out.whole WB).cell 1
    go_wp2_with fail
    refine (H2.out.ins HI.out).mono ?_
    rintro e w3 ⟨rfl, S3, h3, _⟩
    have H3 := Lib.hid h3; clear h3 H2 c0 c1
    go_wp2_with fail
    refine (H3.out.min HMIN.out).mono ?_
    rintro e w4 ⟨rfl, h4, _⟩
    have H4 := Lib.hid h4; clear h4 H3
    simp only [kv]
    have wa4 := H4.out.whole WA; have wb4 := H4.out.whole WB
    have c0 := (wa4.alloc (.cells #[.int .u64 aa, .int .u64 ab] 25)).cell 0; have c1 := (wa4.alloc (.cells #[.int .u64 aa, .int .u64 ab] 25)).cell 1
    have c0a := ((wa4.alloc (.cells #[.int .u64 aa, .int .u64 ab] 25)).alloc (.cells #[.int .u64 aa, .int .u64 ab] 25)).cell 0
    have c1a := ((wa4.alloc (.cells #[.int .u64 aa, .int .u64 ab] 25)).alloc (.cells #[.int .u64 aa, .int .u64 ab] 25)).cell 1
    have d0a := ((wb4.alloc (.cells #[.int .u64 aa, .int .u64 ab] 25)).alloc (.cells #[.int .u64 aa, .int .u64 ab] 25)).cell 0
    have d1a := ((wb4.alloc (.cells #[.int .u64 aa, .int .u64 ab] 25)).alloc (.cells #[.int .u64 aa, .int .u64 ab] 25)).cell 1
    have wk := (Whole.new w4 25 #[.int .u64 aa, .int .u64 ab]).alloc (.cells #[.int .u64 aa, .int .u64 ab] 25)
    have wl := Whole.new (w4.alloc (.cells #[.int .u64 aa, .int .u64 ab] 25)) 25 #[.int .u64 aa, .int .u64 ab]
    rw [World.size_alloc] at wl
    have H5 := Lib.hid ((H4.out.alloc (.cells #[.int .u64 aa, .int .u64 ab] 25)).alloc (.cells #[.int .u64 aa, .int .u64 ab] 25))
    have WK := Lib.hid wk; have WL := Lib.hid wl
    clear wa4 wb4 wk wl
    go_wp2_with fail
    generalize (w4.alloc (.cells #[.int .u64 aa, .int .u64 ab] 25)).alloc (.cells #[.int .u64 aa, .int .u64 ab] 25) = w5 at *
    refine (H5.out.next HNEXT.out).mono ?_
    rintro e w6 ⟨rfl, h6, k6⟩
    have H6 := Lib.hid h6; have WK6 := Lib.hid (WK.out.keep k6 (fun h => h)); have WL6 := Lib.hid (WL.out.keep k6 (fun h => h)); clear h6 k6 H5 WK WL c0 c1 c0a c1a d0a d1a
    simp only [kv]
    have wa6 := (H6.out.whole WA).alloc (.cells #[.int .u64 ba, .int .u64 bb] 25); have wb6 := (H6.out.whole WB).alloc (.cells #[.int .u64 ba, .int .u64 bb] 25)
    have c0 := wa6.cell 0; have c1 := wa6.cell 1; have d0 := wb6.cell 0; have d1 := wb6.cell 1
    have H7 := Lib.hid (H6.out.alloc (.cells #[.int .u64 ba, .int .u64 bb] 25))
    have WN := Lib.hid (Whole.new w6 25 #[.int .u64 ba, .int .u64 bb])
    have WK7 := Lib.hid (WK6.out.alloc (.cells #[.int .u64 ba, .int .u64 bb] 25)); have WL7 := Lib.hid (WL6.out.alloc (.cells #[.int .u64 ba, .int .u64 bb] 25))
    go_wp2_with fail
    generalize w6.alloc (.cells #[.int .u64 ba, .int .u64 bb] 25) = w7 at *
    refine H7.out.awake.mono ?_
    rintro e w8 ⟨rfl, h8, k8⟩
    have H8 := Lib.hid h8
    have wn := WN.out.keep k8 (fun h => h); have wk := WK7.out.keep k8 (fun h => h); have wl := WL7.out.keep k8 (fun h => h)
    have wa8 := H8.out.whole WA; have wb8 := H8.out.whole WB
    clear c0 c1 d0 d1 h8 k8
    have c0 := wa8.cell 0; have c1 := wa8.cell 1; have d0 := wb8.cell 0; have d1 := wb8.cell 1
    have n0 := wn.cell 0; have n1 := wn.cell 1; have k0 := wk.cell 0; have k1 := wk.cell 1; have l0 := wl.cell 0; have l1 := wl.cell 1
    go_wp2
    go_ret
    exact ⟨rfl, HBB.out.trans (H8.out.bel.mono HSZ.out)⟩
  · subst h
    rcases Int.lt_trichotomy ab bb with h | h | h
    · have hlt : KLt ⟨aa, ab⟩ ⟨aa, bb⟩ := .inr ⟨rfl, h⟩
      have HI := Lib.hid (two_up hlt); have HMIN : Hid (hdK [(⟨aa, ab⟩ : Key), ⟨aa, bb⟩] = ⟨aa, ab⟩ ∧ hdB [(⟨aa, ab⟩ : Key), ⟨aa, bb⟩] = true) := Lib.hid ⟨rfl, rfl⟩
      have HNEXT := Lib.hid (next_two hlt)
      have x1 : ¬ bb < ab := by omega
      have x2 : (bb == ab) = false := by rw [beq_eq_false_iff_ne]; omega
      have x3 : (ab == bb) = false := by rw [beq_eq_false_iff_ne]; omega
      have x4 : ¬ aa < aa := by omega
      clear hlt
      go_enter Try.func8, Try.ntmps8
      go_wp2_with fail
      generalize (w.alloc (.cells #[.int .u64 aa, .int .u64 ab] 25)).alloc (.cells #[.int .u64 aa, .int .u64 bb] 25) = wB at *
      refine (Sit.new (N := 4) rfl wB).mono ?_
      rintro e w1 ⟨g, S1, rfl, h1, _⟩
      have H1 := Lib.hid h1; clear h1
      have c0 := (H1.out.whole WA).cell 0; have c1 := (H1.out.whole WA).cell 1
      go_wp2_with fail
      refine (H1.out.ins (one_ins ⟨aa, ab⟩)).mono ?_
      rintro e w2 ⟨rfl, S2, h2, _⟩
      have H2 := Lib.hid h2; clear h2 H1 c0 c1
      have c0 := (H2.out.whole WB).cell 0; have c1 := (H2.out.whole WB).cell 1
      go_wp2_with fail
      refine (H2.out.ins HI.out).mono ?_
      rintro e w3 ⟨rfl, S3, h3, _⟩
      have H3 := Lib.hid h3; clear h3 H2 c0 c1
      go_wp2_with fail
      refine (H3.out.min HMIN.out).mono ?_
      rintro e w4 ⟨rfl, h4, _⟩
      have H4 := Lib.hid h4; clear h4 H3
      simp only [kv]
      have wa4 := H4.out.whole WA; have wb4 := H4.out.whole WB
      have c0 := (wa4.alloc (.cells #[.int .u64 aa, .int .u64 ab] 25)).cell 0; have c1 := (wa4.alloc (.cells #[.int .u64 aa, .int .u64 ab] 25)).cell 1
      have c0a := ((wa4.alloc (.cells #[.int .u64 aa, .int .u64 ab] 25)).alloc (.cells #[.int .u64 aa, .int .u64 ab] 25)).cell 0
      have c1a := ((wa4.alloc (.cells #[.int .u64 aa, .int .u64 ab] 25)).alloc (.cells #[.int .u64 aa, .int .u64 ab] 25)).cell 1
      have d0a := ((wb4.alloc (.cells #[.int .u64 aa, .int .u64 ab] 25)).alloc (.cells #[.int .u64 aa, .int .u64 ab] 25)).cell 0
      have d1a := ((wb4.alloc (.cells #[.int .u64 aa, .int .u64 ab] 25)).alloc (.cells #[.int .u64 aa, .int .u64 ab] 25)).cell 1
      have wk := (Whole.new w4 25 #[.int .u64 aa, .int .u64 ab]).alloc (.cells #[.int .u64 aa, .int .u64 ab] 25)
      have wl := Whole.new (w4.alloc (.cells #[.int .u64 aa, .int .u64 ab] 25)) 25 #[.int .u64 aa, .int .u64 ab]
      rw [World.size_alloc] at wl
      have H5 := Lib.hid ((H4.out.alloc (.cells #[.int .u64 aa, .int .u64 ab] 25)).alloc (.cells #[.int .u64 aa, .int .u64 ab] 25))
      have WK := Lib.hid wk; have WL := Lib.hid wl
      clear wa4 wb4 wk wl
      go_wp2_with fail
      generalize (w4.alloc (.cells #[.int .u64 aa, .int .u64 ab] 25)).alloc (.cells #[.int .u64 aa, .int .u64 ab] 25) = w5 at *
      refine (H5.out.next HNEXT.out).mono ?_
      rintro e w6 ⟨rfl, h6, k6⟩
      have H6 := Lib.hid h6; have WK6 := Lib.hid (WK.out.keep k6 (fun h => h)); have WL6 := Lib.hid (WL.out.keep k6 (fun h => h)); clear h6 k6 H5 WK WL c0 c1 c0a c1a d0a d1a
      simp only [kv]
      have wa6 := (H6.out.whole WA).alloc (.cells #[.int .u64 aa, .int .u64 bb] 25); have wb6 := (H6.out.whole WB).alloc (.cells #[.int .u64 aa, .int .u64 bb] 25)
      have c0 := wa6.cell 0; have c1 := wa6.cell 1; have d0 := wb6.cell 0; have d1 := wb6.cell 1
      have H7 := Lib.hid (H6.out.alloc (.cells #[.int .u64 aa, .int .u64 bb] 25))
      have WN := Lib.hid (Whole.new w6 25 #[.int .u64 aa, .int .u64 bb])
      have WK7 := Lib.hid (WK6.out.alloc (.cells #[.int .u64 aa, .int .u64 bb] 25)); have WL7 := Lib.hid (WL6.out.alloc (.cells #[.int .u64 aa, .int .u64 bb] 25))
      go_wp2_with fail
      generalize w6.alloc (.cells #[.int .u64 aa, .int .u64 bb] 25) = w7 at *
      refine H7.out.awake.mono ?_
      rintro e w8 ⟨rfl, h8, k8⟩
      have H8 := Lib.hid h8
      have wn := WN.out.keep k8 (fun h => h); have wk := WK7.out.keep k8 (fun h => h); have wl := WL7.out.keep k8 (fun h => h)
      have wa8 := H8.out.whole WA; have wb8 := H8.out.whole WB
      clear c0 c1 d0 d1 h8 k8
      have c0 := wa8.cell 0; have c1 := wa8.cell 1; have d0 := wb8.cell 0; have d1 := wb8.cell 1
      have n0 := wn.cell 0; have n1 := wn.cell 1; have k0 := wk.cell 0; have k1 := wk.cell 1; have l0 := wl.cell 0; have l1 := wl.cell 1
      go_wp2
      go_ret
      exact ⟨rfl, HBB.out.trans (H8.out.bel.mono HSZ.out)⟩
    · subst h
      have HI := Lib.hid (two_same ⟨aa, ab⟩); have HMIN : Hid (hdK [(⟨aa, ab⟩ : Key)] = ⟨aa, ab⟩ ∧ hdB [(⟨aa, ab⟩ : Key)] = true) := Lib.hid ⟨rfl, rfl⟩
      have HNEXT := Lib.hid (next_one ⟨aa, ab⟩)
      have x1 : ¬ aa < aa := by omega
      have x2 : ¬ ab < ab := by omega
      go_enter Try.func8, Try.ntmps8
      go_wp2_with fail
      generalize (w.alloc (.cells #[.int .u64 aa, .int .u64 ab] 25)).alloc (.cells #[.int .u64 aa, .int .u64 ab] 25) = wB at *
      refine (Sit.new (N := 4) rfl wB).mono ?_
      rintro e w1 ⟨g, S1, rfl, h1, _⟩
      have H1 := Lib.hid h1; clear h1
      have c0 := (H1.out.whole WA).cell 0; have c1 := (H1.out.whole WA).cell 1
      go_wp2_with fail
      refine (H1.out.ins (one_ins ⟨aa, ab⟩)).mono ?_
      rintro e w2 ⟨rfl, S2, h2, _⟩
      have H2 := Lib.hid h2; clear h2 H1 c0 c1
      have c0 := (H2.out.whole WB).cell 0; have c1 := (H2.out.whole WB).cell 1
      go_wp2_with fail
      refine (H2.out.ins HI.out).mono ?_
      rintro e w3 ⟨rfl, S3, h3, _⟩
      have H3 := Lib.hid h3; clear h3 H2 c0 c1
      go_wp2_with fail
      refine (H3.out.min HMIN.out).mono ?_
      rintro e w4 ⟨rfl, h4, _⟩
      have H4 := Lib.hid h4; clear h4 H3
      simp only [kv]
      have wa4 := H4.out.whole WA; have wb4 := H4.out.whole WB
      have c0 := (wa4.alloc (.cells #[.int .u64 aa, .int .u64 ab] 25)).cell 0; have c1 := (wa4.alloc (.cells #[.int .u64 aa, .int .u64 ab] 25)).cell 1
      have c0a := ((wa4.alloc (.cells #[.int .u64 aa, .int .u64 ab] 25)).alloc (.cells #[.int .u64 aa, .int .u64 ab] 25)).cell 0
      have c1a := ((wa4.alloc (.cells #[.int .u64 aa, .int .u64 ab] 25)).alloc (.cells #[.int .u64 aa, .int .u64 ab] 25)).cell 1
      have d0a := ((wb4.alloc (.cells #[.int .u64 aa, .int .u64 ab] 25)).alloc (.cells #[.int .u64 aa, .int .u64 ab] 25)).cell 0
      have d1a := ((wb4.alloc (.cells #[.int .u64 aa, .int .u64 ab] 25)).alloc (.cells #[.int .u64 aa, .int .u64 ab] 25)).cell 1
      have wk := (Whole.new w4 25 #[.int .u64 aa, .int .u64 ab]).alloc (.cells #[.int .u64 aa, .int .u64 ab] 25)
      have wl := Whole.new (w4.alloc (.cells #[.int .u64 aa, .int .u64 ab] 25)) 25 #[.int .u64 aa, .int .u64 ab]
      rw [World.size_alloc] at wl
      have H5 := Lib.hid ((H4.out.alloc (.cells #[.int .u64 aa, .int .u64 ab] 25)).alloc (.cells #[.int .u64 aa, .int .u64 ab] 25))
      have WK := Lib.hid wk; have WL := Lib.hid wl
      clear wa4 wb4 wk wl
      go_wp2_with fail
      generalize (w4.alloc (.cells #[.int .u64 aa, .int .u64 ab] 25)).alloc (.cells #[.int .u64 aa, .int .u64 ab] 25) = w5 at *
      refine (H5.out.next HNEXT.out).mono ?_
      rintro e w6 ⟨rfl, h6, k6⟩
      have H6 := Lib.hid h6; have WK6 := Lib.hid (WK.out.keep k6 (fun h => h)); have WL6 := Lib.hid (WL.out.keep k6 (fun h => h)); clear h6 k6 H5 WK WL c0 c1 c0a c1a d0a d1a
      simp only [kv]
      have wa6 := (H6.out.whole WA).alloc (.cells #[.int .u64 0, .int .u64 0] 25); have wb6 := (H6.out.whole WB).alloc (.cells #[.int .u64 0, .int .u64 0] 25)
      have c0 := wa6.cell 0; have c1 := wa6.cell 1; have d0 := wb6.cell 0; have d1 := wb6.cell 1
      have H7 := Lib.hid (H6.out.alloc (.cells #[.int .u64 0, .int .u64 0] 25))
      have WN := Lib.hid (Whole.new w6 25 #[.int .u64 0, .int .u64 0])
      have WK7 := Lib.hid (WK6.out.alloc (.cells #[.int .u64 0, .int .u64 0] 25)); have WL7 := Lib.hid (WL6.out.alloc (.cells #[.int .u64 0, .int .u64 0] 25))
      go_wp2_with fail
      generalize w6.alloc (.cells #[.int .u64 0, .int .u64 0] 25) = w7 at *
      refine H7.out.awake.mono ?_
      rintro e w8 ⟨rfl, h8, k8⟩
      have H8 := Lib.hid h8
      have wn := WN.out.keep k8 (fun h => h); have wk := WK7.out.keep k8 (fun h => h); have wl := WL7.out.keep k8 (fun h => h)
      have wa8 := H8.out.whole WA; have wb8 := H8.out.whole WB
      clear c0 c1 d0 d1 h8 k8
      have c0 := wa8.cell 0; have c1 := wa8.cell 1; have d0 := wb8.cell 0; have d1 := wb8.cell 1
      have n0 := wn.cell 0; have n1 := wn.cell 1; have k0 := wk.cell 0; have k1 := wk.cell 1; have l0 := wl.cell 0; have l1 := wl.cell 1
      go_wp2
      go_ret
      exact ⟨rfl, HBB.out.trans (H8.out.bel.mono HSZ.out)⟩
    · have hlt : KLt ⟨aa, bb⟩ ⟨aa, ab⟩ := .inr ⟨rfl, h⟩
      have HI := Lib.hid (two_down hlt); have HMIN : Hid (hdK [(⟨aa, bb⟩ : Key), ⟨aa, ab⟩] = ⟨aa, bb⟩ ∧ hdB [(⟨aa, bb⟩ : Key), ⟨aa, ab⟩] = true) := Lib.hid ⟨rfl, rfl⟩
      have HNEXT := Lib.hid (next_two hlt)
      have x1 : ¬ ab < bb := by omega
      have x2 : (bb == ab) = false := by rw [beq_eq_false_iff_ne]; omega
      have x3 : (ab == bb) = false := by rw [beq_eq_false_iff_ne]; omega
      have x4 : ¬ aa < aa := by omega
      clear hlt
      go_enter Try.func8, Try.ntmps8
      go_wp2_with fail
      generalize (w.alloc (.cells #[.int .u64 aa, .int .u64 ab] 25)).alloc (.cells #[.int .u64 aa, .int .u64 bb] 25) = wB at *
      refine (Sit.new (N := 4) rfl wB).mono ?_
      rintro e w1 ⟨g, S1, rfl, h1, _⟩
      have H1 := Lib.hid h1; clear h1
      have c0 := (H1.out.whole WA).cell 0; have c1 := (H1.out.whole WA).cell 1
      go_wp2_with fail
      refine (H1.out.ins (one_ins ⟨aa, ab⟩)).mono ?_
      rintro e w2 ⟨rfl, S2, h2, _⟩
      have H2 := Lib.hid h2; clear h2 H1 c0 c1
      have c0 := (H2.out.whole WB).cell 0; have c1 := (H2.out.whole WB).cell 1
      go_wp2_with fail
      refine (H2.out.ins HI.out).mono ?_
      rintro e w3 ⟨rfl, S3, h3, _⟩
      have H3 := Lib.hid h3; clear h3 H2 c0 c1
      go_wp2_with fail
      refine (H3.out.min HMIN.out).mono ?_
      rintro e w4 ⟨rfl, h4, _⟩
      have H4 := Lib.hid h4; clear h4 H3
      simp only [kv]
      have wa4 := H4.out.whole WA; have wb4 := H4.out.whole WB
      have c0 := (wa4.alloc (.cells #[.int .u64 aa, .int .u64 bb] 25)).cell 0; have c1 := (wa4.alloc (.cells #[.int .u64 aa, .int .u64 bb] 25)).cell 1
      have c0a := ((wa4.alloc (.cells #[.int .u64 aa, .int .u64 bb] 25)).alloc (.cells #[.int .u64 aa, .int .u64 ab] 25)).cell 0
      have c1a := ((wa4.alloc (.cells #[.int .u64 aa, .int .u64 bb] 25)).alloc (.cells #[.int .u64 aa, .int .u64 ab] 25)).cell 1
      have d0a := ((wb4.alloc (.cells #[.int .u64 aa, .int .u64 bb] 25)).alloc (.cells #[.int .u64 aa, .int .u64 ab] 25)).cell 0
      have d1a := ((wb4.alloc (.cells #[.int .u64 aa, .int .u64 bb] 25)).alloc (.cells #[.int .u64 aa, .int .u64 ab] 25)).cell 1
      have wk := (Whole.new w4 25 #[.int .u64 aa, .int .u64 bb]).alloc (.cells #[.int .u64 aa, .int .u64 bb] 25)
      have wl := Whole.new (w4.alloc (.cells #[.int .u64 aa, .int .u64 bb] 25)) 25 #[.int .u64 aa, .int .u64 bb]
      rw [World.size_alloc] at wl
      have H5 := Lib.hid ((H4.out.alloc (.cells #[.int .u64 aa, .int .u64 bb] 25)).alloc (.cells #[.int .u64 aa, .int .u64 bb] 25))
      have WK := Lib.hid wk; have WL := Lib.hid wl
      clear wa4 wb4 wk wl
      go_wp2_with fail
      generalize (w4.alloc (.cells #[.int .u64 aa, .int .u64 bb] 25)).alloc (.cells #[.int .u64 aa, .int .u64 bb] 25) = w5 at *
      refine (H5.out.next HNEXT.out).mono ?_
      rintro e w6 ⟨rfl, h6, k6⟩
      have H6 := Lib.hid h6; have WK6 := Lib.hid (WK.out.keep k6 (fun h => h)); have WL6 := Lib.hid (WL.out.keep k6 (fun h => h)); clear h6 k6 H5 WK WL c0 c1 c0a c1a d0a d1a
      simp only [kv]
      have wa6 := (H6.out.whole WA).alloc (.cells #[.int .u64 aa, .int .u64 ab] 25); have wb6 := (H6.out.whole WB).alloc (.cells #[.int .u64 aa, .int .u64 ab] 25)
      have c0 := wa6.cell 0; have c1 := wa6.cell 1; have d0 := wb6.cell 0; have d1 := wb6.cell 1
      have H7 := Lib.hid (H6.out.alloc (.cells #[.int .u64 aa, .int .u64 ab] 25))
      have WN := Lib.hid (Whole.new w6 25 #[.int .u64 aa, .int .u64 ab])
      have WK7 := Lib.hid (WK6.out.alloc (.cells #[.int .u64 aa, .int .u64 ab] 25)); have WL7 := Lib.hid (WL6.out.alloc (.cells #[.int .u64 aa, .int .u64 ab] 25))
      go_wp2_with fail
      generalize w6.alloc (.cells #[.int .u64 aa, .int .u64 ab] 25) = w7 at *
      refine H7.out.awake.mono ?_
      rintro e w8 ⟨rfl, h8, k8⟩
      have H8 := Lib.hid h8
      have wn := WN.out.keep k8 (fun h => h); have wk := WK7.out.keep k8 (fun h => h); have wl := WL7.out.keep k8 (fun h => h)
      have wa8 := H8.out.whole WA; have wb8 := H8.out.whole WB
      clear c0 c1 d0 d1 h8 k8
      have c0 := wa8.cell 0; have c1 := wa8.cell 1; have d0 := wb8.cell 0; have d1 := wb8.cell 1
      have n0 := wn.cell 0; have n1 := wn.cell 1; have k0 := wk.cell 0; have k1 := wk.cell 1; have l0 := wl.cell 0; have l1 := wl.cell 1
      go_wp2
      go_ret
      exact ⟨rfl, HBB.out.trans (H8.out.bel.mono HSZ.out)⟩
  · have hlt : KLt ⟨ba, bb⟩ ⟨aa, ab⟩ := .inl h
    have HI := Lib.hid (two_down hlt); have HMIN : Hid (hdK [(⟨ba, bb⟩ : Key), ⟨aa, ab⟩] = ⟨ba, bb⟩ ∧ hdB [(⟨ba, bb⟩ : Key), ⟨aa, ab⟩] = true) := Lib.hid ⟨rfl, rfl⟩
    have HNEXT := Lib.hid (next_two hlt)
    have x1 : ¬ aa < ba := by omega
    have x2 : (ba == aa) = false := by rw [beq_eq_false_iff_ne]; omega
    have x3 : (aa == ba) = false := by rw [beq_eq_false_iff_ne]; omega
    clear hlt
    go_enter Try.func8, Try.ntmps8
    go_wp2_with fail
    generalize (w.alloc (.cells #[.int .u64 aa, .int .u64 ab] 25)).alloc (.cells #[.int .u64 ba, .int .u64 bb] 25) = wB at *
    refine (Sit.new (N := 4) rfl wB).mono ?_
    rintro e w1 ⟨g, S1, rfl, h1, _⟩
    have H1 := Lib.hid h1; clear h1
    have c0 := (H1.out.whole WA).cell 0; have c1 := (H1.out.whole WA).cell 1
    go_wp2_with fail
    refine (H1.out.ins (one_ins ⟨aa, ab⟩)).mono ?_
    rintro e w2 ⟨rfl, S2, h2, _⟩
    have H2 := Lib.hid h2; clear h2 H1 c0 c1
    have c0 := (H2.out.whole WB).cell 0; have c1 := (H2.out.whole WB).cell 1
    go_wp2_with fail
    refine (H2.out.ins HI.out).mono ?_
    rintro e w3 ⟨rfl, S3, h3, _⟩
    have H3 := Lib.hid h3; clear h3 H2 c0 c1
    go_wp2_with fail
    refine (H3.out.min HMIN.out).mono ?_
    rintro e w4 ⟨rfl, h4, _⟩
    have H4 := Lib.hid h4; clear h4 H3
    simp only [kv]
    have wa4 := H4.out.whole WA; have wb4 := H4.out.whole WB
    have c0 := (wa4.alloc (.cells #[.int .u64 ba, .int .u64 bb] 25)).cell 0; have c1 := (wa4.alloc (.cells #[.int .u64 ba, .int .u64 bb] 25)).cell 1
    have c0a := ((wa4.alloc (.cells #[.int .u64 ba, .int .u64 bb] 25)).alloc (.cells #[.int .u64 aa, .int .u64 ab] 25)).cell 0
    have c1a := ((wa4.alloc (.cells #[.int .u64 ba, .int .u64 bb] 25)).alloc (.cells #[.int .u64 aa, .int .u64 ab] 25)).cell 1
    have d0a := ((wb4.alloc (.cells #[.int .u64 ba, .int .u64 bb] 25)).alloc (.cells #[.int .u64 aa, .int .u64 ab] 25)).cell 0
    have d1a := ((wb4.alloc (.cells #[.int .u64 ba, .int .u64 bb] 25)).alloc (.cells #[.int .u64 aa, .int .u64 ab] 25)).cell 1
    have wk := (Whole.new w4 25 #[.int .u64 ba, .int .u64 bb]).alloc (.cells #[.int .u64 ba, .int .u64 bb] 25)
    have wl := Whole.new (w4.alloc (.cells #[.int .u64 ba, .int .u64 bb] 25)) 25 #[.int .u64 ba, .int .u64 bb]
    rw [World.size_alloc] at wl
    have H5 := Lib.hid ((H4.out.alloc (.cells #[.int .u64 ba, .int .u64 bb] 25)).alloc (.cells #[.int .u64 ba, .int .u64 bb] 25))
    have WK := Lib.hid wk; have WL := Lib.hid wl
    clear wa4 wb4 wk wl
    go_wp2_with fail
    generalize (w4.alloc (.cells #[.int .u64 ba, .int .u64 bb] 25)).alloc (.cells #[.int .u64 ba, .int .u64 bb] 25) = w5 at *
    refine (H5.out.next HNEXT.out).mono ?_
    rintro e w6 ⟨rfl, h6, k6⟩
    have H6 := Lib.hid h6; have WK6 := Lib.hid (WK.out.keep k6 (fun h => h)); have WL6 := Lib.hid (WL.out.keep k6 (fun h => h)); clear h6 k6 H5 WK WL c0 c1 c0a c1a d0a d1a
    simp only [kv]
    have wa6 := (H6.out.whole WA).alloc (.cells #[.int .u64 aa, .int .u64 ab] 25); have wb6 := (H6.out.whole WB).alloc (.cells #[.int .u64 aa, .int .u64 ab] 25)
    have c0 := wa6.cell 0; have c1 := wa6.cell 1; have d0 := wb6.cell 0; have d1 := wb6.cell 1
    have H7 := Lib.hid (H6.out.alloc (.cells #[.int .u64 aa, .int .u64 ab] 25))
    have WN := Lib.hid (Whole.new w6 25 #[.int .u64 aa, .int .u64 ab])
    have WK7 := Lib.hid (WK6.out.alloc (.cells #[.int .u64 aa, .int .u64 ab] 25)); have WL7 := Lib.hid (WL6.out.alloc (.cells #[.int .u64 aa, .int .u64 ab] 25))
    go_wp2_with fail
    generalize w6.alloc (.cells #[.int .u64 aa, .int .u64 ab] 25) = w7 at *
    refine H7.out.awake.mono ?_
    rintro e w8 ⟨rfl, h8, k8⟩
    have H8 := Lib.hid h8
    have wn := WN.out.keep k8 (fun h => h); have wk := WK7.out.keep k8 (fun h => h); have wl := WL7.out.keep k8 (fun h => h)
    have wa8 := H8.out.whole WA; have wb8 := H8.out.whole WB
    clear c0 c1 d0 d1 h8 k8
    have c0 := wa8.cell 0; have c1 := wa8.cell 1; have d0 := wb8.cell 0; have d1 := wb8.cell 1
    have n0 := wn.cell 0; have n1 := wn.cell 1; have k0 := wk.cell 0; have k1 := wk.cell 1; have l0 := wl.cell 0; have l1 := wl.cell 1
    go_wp2
    go_ret
    exact ⟨rfl, HBB.out.trans (H8.out.bel.mono HSZ.out)⟩

set_option maxRecDepth 100000 in
theorem lifted (os : Os) (started : os.Started) (H : Type) (enc : TypeId × Value → H) :
    ReturnsInHanded {} Try.checked os 8 .any (Rows.treeOrderSpec.pre6 enc Try.prog Try.f8 Rows.treeOrderRow.domain false) (Rows.treeOrderSpec.post enc Try.prog Try.f8 false true false false) := by
  refine returnsInHanded_of_change (C := Try.checked) own started (by kernel_rfl) Try.func8
    (ChangeSpec.witness6 (enc := enc) (C := Try.checked) false ⟨#[], #[.agg #[.int .u64 0, .int .u64 0], .agg #[.int .u64 0, .int .u64 0]], []⟩ 8 (by kernel_rfl) (by kernel_rfl) (by kernel_rfl) (by kernel_rfl)) ?_
  intro W base args ds gs before hval0 hW hcnd _
  have hval : ∀ (j : Nat) t v, Try.f8.params[j]? = some t → args[j]? = some v → Value.okWide Try.prog W .any base t v := hval0
  have hW' := hW
  obtain ⟨p, q, hA0, hV, rfl, hfz, hnd⟩ := hW
  have hA : DataW.TrodAll enc Try.prog W 0 (fun _ => true) true Try.f8.params.toList args.toList ds p := hA0
  rw [Try.params8] at hA hval
  obtain ⟨v0, vs0, d0, ds0, p0, q0, hargs, rfl, rfl, h0, r0'⟩ := trodAll_cons hA
  obtain ⟨v1, vs1, d1, ds1, p1, q1, rfl, rfl, rfl, h1, r1'⟩ := trodAll_cons r0'
  obtain ⟨rfl, rfl, rfl⟩ := trodAll_nil r1'
  obtain rfl : args = #[v0, v1] := by cases args; simp_all
  obtain ⟨rfl, rfl⟩ := trodVars_none hV
  have k0 := h0
  have lt0 : ∀ x ∈ p0, x.block < W.heap.size := by obtain ⟨m, hm⟩ := k0; exact DataW.trod_lt m _ _ _ hm
  obtain ⟨a0, rfl⟩ := open_key (hval 0 25 v0 rfl rfl) h0
  have k1 := h1
  have lt1 : ∀ x ∈ p1, x.block < W.heap.size := by obtain ⟨m, hm⟩ := k1; exact DataW.trod_lt m _ _ _ hm
  obtain ⟨a1, rfl⟩ := open_key (hval 1 25 v1 rfl rfl) h1
  clear hA0 hval0
  refine (walk a0 a1 W ).mono fun e W' ⟨he, bel⟩ => ?_
  subst he
  exact ⟨_, rfl, _, _, _, [], _, [], hW', trodAll_mk1 (shut_bool Try.underlying4 _), (trodAll_cons_mk (Below.trod laidOut (by kernel_rfl) (of_decide_eq_true (by kernel_rfl)) k0 bel lt0) (trodAll_cons_mk (Below.trod laidOut (by kernel_rfl) (of_decide_eq_true (by kernel_rfl)) k1 bel lt1) trodAll_mk0)), rfl, bel.frame _, fun h => by cases h⟩

theorem over : Rows.treeOrderRow.holds Try.pinned (OpenSpec.ofChange Rows.treeOrderSpec) :=
  OpenClaim.holds_of_wide 8 Try.f8 rfl rfl rfl rfl rfl rfl rfl ⟨rfl, rfl, rfl, rfl, rfl⟩ rfl rfl rfl rfl rfl (by kernel_rfl) Try.func8 (by kernel_rfl)
    (of_decide_eq_true (by kernel_rfl)) (by unfold Func.isWrapper; first | (rw [if_pos (by decide +kernel)]; kernel_rfl) | (rw [if_neg (by decide +kernel)]; exact ⟨rfl, rfl⟩))
    (fun os started H enc _ => lifted os started H enc)

theorem proved : Rows.TreeOrderSaid := over
end Go.Proofs.Ytnbfleocnpgmlaa.treeOrder
namespace Go.Proofs.Ytnbfleocnpgmlaa
theorem treeOrder_holds : Rows.TreeOrderSaid := treeOrder.proved
#print axioms treeOrder_holds
end Go.Proofs.Ytnbfleocnpgmlaa
