/-
  Proved: canterlaw05.TreeLines answers true at every input, and leaves its arguments as they were. Conditions: none.
-/
import Derived.Test.YtnbfleocnpgmlaaRows
import Derived.WalkKit
import Derived.ProofKit
import Derived.OpenShut
import Derived.ShutString
import Derived.Below
import Derived.Test.YtnbfleocnpgmlaaSit
namespace Go.Proofs.Ytnbfleocnpgmlaa.treeLines
open Go.ChangeShapes Go.WideShapes Go.ChangeAt Go.RowKit
set_option linter.unusedVariables false

theorem own : ownKnob Try.prog.godebug = none := by kernel_rfl
theorem laidOut : laidOutB Try.prog = true := by kernel_rfl

def kk (st i : Nat) : Key := ⟨((i * st : Nat) : Int), (st : Int)⟩
def seg (st lo len : Nat) : List Key := (List.range' lo len).map (kk st)
theorem kk_lt {st i j : Nat} (hs : 0 < st) (h : i < j) : KLt (kk st i) (kk st j) := by
  refine .inl ?_
  have : i * st < j * st := Nat.mul_lt_mul_of_pos_right h hs
  show ((i * st : Nat) : Int) < ((j * st : Nat) : Int)
  omega
theorem seg_len (st lo len : Nat) : (seg st lo len).length = len := by simp [seg]
theorem seg_mem {st lo len : Nat} {x : Key} (h : x ∈ seg st lo len) : ∃ i, lo ≤ i ∧ i < lo + len ∧ x = kk st i := by
  simp only [seg, List.mem_map, List.mem_range'_1] at h
  obtain ⟨i, hi, rfl⟩ := h
  exact ⟨i, hi.1, hi.2, rfl⟩
theorem seg_up (st lo len : Nat) : seg st lo (len + 1) = seg st lo len ++ [kk st (lo + len)] := by
  simp [seg, List.range'_concat]
theorem seg_down (st lo len : Nat) : seg st lo (len + 1) = kk st lo :: seg st (lo + 1) len := by
  simp [seg, List.range'_succ]
theorem seg_sorted (st lo : Nat) (hs : 0 < st) : ∀ len, (seg st lo len).Pairwise KLt := by
  intro len
  induction len with
  | zero => simp [seg]
  | succ len ih =>
    rw [seg_up, List.pairwise_append]
    refine ⟨ih, by simp, fun x hx y hy => ?_⟩
    obtain ⟨i, _, hi, rfl⟩ := seg_mem hx
    simp at hy; subst hy
    exact kk_lt hs hi
theorem ins_up {m st i : Nat} (hs : 0 < st) (h : i < m) : insE m (seg st 0 i) (kk st i) = 0 ∧ insS m (seg st 0 i) (kk st i) = seg st 0 (i + 1) := by
  have hh := insK_split (k := kk st i) (A := seg st 0 i) (B := []) (fun x hx => by obtain ⟨j, _, hj, rfl⟩ := seg_mem hx; exact kk_lt hs (by omega)) (fun x hx => by simp at hx)
  rw [List.append_nil] at hh
  unfold insE insS
  rw [if_neg hh.1, if_neg (by rw [seg_len]; omega), if_neg hh.1, if_neg (by rw [seg_len]; omega), hh.2, seg_up]
  simp
theorem ins_down {m st lo len : Nat} (hs : 0 < st) (h : len < m) : insE m (seg st (lo + 1) len) (kk st lo) = 0 ∧ insS m (seg st (lo + 1) len) (kk st lo) = seg st lo (len + 1) := by
  have hh := insK_split (k := kk st lo) (A := []) (B := seg st (lo + 1) len) (fun x hx => by simp at hx) (fun x hx => by obtain ⟨j, hj, _, rfl⟩ := seg_mem hx; exact kk_lt hs (by omega))
  rw [List.nil_append, List.nil_append] at hh
  unfold insE insS
  rw [if_neg hh.1, if_neg (by rw [seg_len]; omega), if_neg hh.1, if_neg (by rw [seg_len]; omega), hh.2, seg_down]
  simp
theorem ins_full {m st : Nat} (hs : 0 < st) : insE m (seg st 0 m) ⟨1152921504606846976, 0⟩ = 5 ∧ insS m (seg st 0 m) ⟨1152921504606846976, 0⟩ = seg st 0 m := by
  have hn : (⟨1152921504606846976, 0⟩ : Key) ∉ seg st 0 m := fun h => by
    obtain ⟨i, _, _, e⟩ := seg_mem h
    have := congrArg Key.b e
    simp only [kk] at this
    omega
  unfold insE insS
  rw [if_neg hn, if_pos (by rw [seg_len]; omega), if_neg hn, if_pos (by rw [seg_len]; omega)]
  simp
theorem min_seg (st lo len : Nat) : hdK (seg st lo (len + 1)) = kk st lo ∧ hdB (seg st lo (len + 1)) = true := by rw [seg_down]; exact ⟨rfl, rfl⟩
theorem del_seg {st lo len : Nat} (hs : 0 < st) : delE (seg st lo (len + 1)) (kk st lo) = 0 ∧ delS (seg st lo (len + 1)) (kk st lo) = seg st (lo + 1) len := by
  have h := seg_sorted st lo hs (len + 1)
  rw [seg_down] at h ⊢
  exact ⟨if_pos (by simp), del_split (A := []) h⟩

set_option maxHeartbeats 4000000 in
set_option maxRecDepth 100000 in
theorem walk (a0 : Int) (a1 : Bool) (a2 : Int) (w : World) (w0 : (Lit.int .i64 a0).wf = true)  (w2 : (Lit.int .u64 a2).wf = true) :
    Calls Try.prog 5 #[.int .i64 a0, .bool a1, .int .u64 a2] w fun e w' => e = .returned (.bool true) ∧ Below w.heap.size w w' := by
  have heq := Try.neKey
  obtain ⟨u, hu⟩ : ∃ u : Nat, IntKind.u64.wrap a0 = (u : Int) := ⟨(IntKind.u64.wrap a0).toNat, by rw [IntKind.wrap_u64]; omega⟩
  obtain ⟨u2, rfl⟩ : ∃ u : Nat, a2 = (u : Int) := ⟨a2.toNat, by simp [Lit.wf, IntKind.min, IntKind.max, IntKind.signed, IntKind.bits] at w2; omega⟩
  clear w0 w2
  go_enter Try.func5, Try.ntmps5
  go_wp2_with fail
  obtain ⟨m, hm⟩ : ∃ m : Nat, (u : Int) % 300 = (m : Int) := ⟨u % 300, by omega⟩
  obtain ⟨st, hst⟩ : ∃ s : Nat, 1 + (u2 : Int) % 1000 = (s : Int) := ⟨1 + u2 % 1000, by omega⟩
  have hm2 : m ≤ 299 := by omega
  have hst0 : 0 < st := by omega
  have hst2 : st ≤ 1000 := by omega
  rw [hm, hst]
  clear hm hst hu
  refine (Sit.new (N := m) (by unfold capN; rw [if_neg (by omega), if_pos (by omega)]; simp) w).mono ?_
  rintro e w1 ⟨g, S1, rfl, h1, _⟩
  have H1 := Lib.hid h1; clear h1
  go_wp2_with fail
  refine H1.out.awake.mono ?_
  rintro e w2 ⟨rfl, h2, _⟩
  have H2 := Lib.hid h2; clear h2 H1
  cases a1 with
  | false =>
    go_wp2
    go_loopw [8] (fun a8 wr => ∃ (i : Nat) (S : Nat → Prop), i ≤ m ∧ a8 = .int .i64 i ∧ Sit w wr S g m (seg st 0 i)) (fun a8 _ => m - (intOf a8).toNat)
    case atStart => exact ⟨0, S1, Nat.zero_le _, rfl, H2.out⟩
    case round =>
      obtain ⟨i, S, hi, rfl, hsit⟩ := hrel
      have HS := Lib.hid hsit; clear hsit H2
      by_cases hlt : i < m
      · have hi1 : (i : Int) < (m : Int) := by omega
        have HINS := Lib.hid (ins_up hst0 hlt)
        obtain ⟨P, hP⟩ : ∃ P, P = i * st := ⟨_, rfl⟩
        have hPl : P ≤ 299000 := by rw [hP]; exact Nat.le_trans (Nat.mul_le_mul (show i ≤ 299 by omega) hst2) (by decide)
        have hPe : (i : Int) * (st : Int) = (P : Int) := by rw [hP]; simp
        have hkk : kk st i = ⟨(P : Int), (st : Int)⟩ := by unfold kk; rw [hP]
        rw [hkk] at HINS
        clear hP hkk
        go_wp2_with fail
        refine (HS.out.ins HINS.out).mono ?_
        rintro e w5 ⟨rfl, S5, h5, _⟩
        have H5 := Lib.hid h5; clear h5 HS
        go_wp2_with fail
        refine H5.out.low.mono ?_
        rintro e w6 ⟨rfl, h6, _⟩
        have H6 := Lib.hid h6; clear h6 H5
        go_wp2
        go_roundw
        case rel => exact ⟨i + 1, S5, by omega, by go_num, H6.out⟩
        case measure => simp [intOf]; omega
      · obtain rfl : m = i := by omega
        have HS1 := HS; clear HS
        go_wp2_with fail
        refine (HS1.out.ins (ins_full hst0)).mono ?_
        rintro e w4 ⟨rfl, S4, h4, _⟩
        have HS4 := Lib.hid h4; clear h4 HS1
        go_wp2
        go_loopw [10] (fun a10 wr => ∃ (i : Nat) (S : Nat → Prop), i ≤ m ∧ a10 = .int .i64 i ∧ Sit w wr S g m (seg st i (m - i))) (fun a10 _ => m - (intOf a10).toNat)
        case atStart => exact ⟨0, S4, Nat.zero_le _, rfl, HS4.out⟩
        case round =>
          obtain ⟨i, S, hi, rfl, hsit⟩ := hrel
          have HS := Lib.hid hsit; clear hsit HS4
          by_cases hlt : i < m
          · have hi1 : (i : Int) < (m : Int) := by omega
            have hseg : m - i = (m - (i + 1)) + 1 := by omega
            rw [hseg] at HS
            have HMIN := Lib.hid (min_seg st i (m - (i + 1))); have HDEL := Lib.hid (del_seg (lo := i) (len := m - (i + 1)) hst0)
            obtain ⟨P, hP⟩ : ∃ P, P = i * st := ⟨_, rfl⟩
            have hPl : P ≤ 299000 := by rw [hP]; exact Nat.le_trans (Nat.mul_le_mul (show i ≤ 299 by omega) hst2) (by decide)
            have hPe : (i : Int) * (st : Int) = (P : Int) := by rw [hP]; simp
            have hkk : kk st i = ⟨(P : Int), (st : Int)⟩ := by unfold kk; rw [hP]
            rw [hkk] at HMIN HDEL
            have HPE := Lib.hid hP
            clear hP hkk
            go_wp2_with fail
            refine (HS.out.min HMIN.out).mono ?_
            rintro e w5 ⟨rfl, h5, _⟩
            have H5 := Lib.hid (h5.alloc (.cells #[.int .u64 (P : Int), .int .u64 (st : Int)] 25)); clear h5 HS
            have xx : ((P : Int) == (P : Int) && (st : Int) == (st : Int)) = true := by simp
            simp only [kv]
            go_wp2_with fail
            refine (H5.out.del HDEL.out).mono ?_
            rintro e w6 ⟨rfl, S6, h6, _⟩
            have H6 := Lib.hid h6; clear h6 H5
            go_wp2_with fail
            refine H6.out.low.mono ?_
            rintro e w7 ⟨rfl, h7, _⟩
            have H7 := Lib.hid h7; clear h7 H6
            go_wp2
            go_roundw
            case rel => exact ⟨i + 1, S6, by omega, by go_num, H7.out⟩
            case measure => simp [intOf]; omega
          · obtain rfl : m = i := by omega
            have hz : m - m = 0 := by omega
            rw [hz] at HS
            have HL : Hid ((seg st m 0).length = 0) := Lib.hid (seg_len _ _ _)
            go_wp2_with fail
            refine (HS.out.len HL.out).mono ?_
            rintro e w5 ⟨rfl, h5, _⟩
            have H5 := Lib.hid h5.bel; clear h5 HS
            go_wp2
            go_ret
            exact ⟨by first | rfl | simp, H5.out⟩
  | true =>
    go_wp2
    go_loopw [8] (fun a8 wr => ∃ (i : Nat) (S : Nat → Prop), i ≤ m ∧ a8 = .int .i64 i ∧ Sit w wr S g m (seg st (m - i) i)) (fun a8 _ => m - (intOf a8).toNat)
    case atStart => exact ⟨0, S1, Nat.zero_le _, rfl, H2.out⟩
    case round =>
      obtain ⟨i, S, hi, rfl, hsit⟩ := hrel
      have HS := Lib.hid hsit; clear hsit H2
      by_cases hlt : i < m
      · have hi1 : (i : Int) < (m : Int) := by omega
        obtain ⟨q, hq⟩ : ∃ q, m - i = q + 1 := ⟨m - i - 1, by omega⟩
        rw [hq] at HS
        have HINS := Lib.hid (ins_down (m := m) (lo := q) (len := i) hst0 hlt)
        obtain ⟨P, hP⟩ : ∃ P, P = q * st := ⟨_, rfl⟩
        have hPl : P ≤ 299000 := by rw [hP]; exact Nat.le_trans (Nat.mul_le_mul (show q ≤ 299 by omega) hst2) (by decide)
        have hPe : (q : Int) * (st : Int) = (P : Int) := by rw [hP]; simp
        have hkk : kk st q = ⟨(P : Int), (st : Int)⟩ := by unfold kk; rw [hP]
        have hqe : (m : Int) - 1 - (i : Int) = (q : Int) := by omega
        have hq2 : q ≤ 299 := by omega
        rw [hkk] at HINS
        clear hP hkk
        go_wp2_with fail
        refine (HS.out.ins HINS.out).mono ?_
        rintro e w5 ⟨rfl, S5, h5, _⟩
        have H5 := Lib.hid h5; clear h5 HS
        go_wp2_with fail
        refine H5.out.low.mono ?_
        rintro e w6 ⟨rfl, h6, _⟩
        have H6 := Lib.hid h6; clear h6 H5
        go_wp2
        go_roundw
        case rel => exact ⟨i + 1, S5, by omega, by go_num, by rw [show m - (i + 1) = q by omega]; exact H6.out⟩
        case measure => simp [intOf]; omega
      · obtain rfl : m = i := by omega
        have HS1 := HS; clear HS
        rw [show m - m = 0 by omega] at HS1
        go_wp2_with fail
        refine (HS1.out.ins (ins_full hst0)).mono ?_
        rintro e w4 ⟨rfl, S4, h4, _⟩
        have HS4 := Lib.hid h4; clear h4 HS1
        go_wp2
        go_loopw [10] (fun a10 wr => ∃ (i : Nat) (S : Nat → Prop), i ≤ m ∧ a10 = .int .i64 i ∧ Sit w wr S g m (seg st i (m - i))) (fun a10 _ => m - (intOf a10).toNat)
        case atStart => exact ⟨0, S4, Nat.zero_le _, rfl, HS4.out⟩
        case round =>
          obtain ⟨i, S, hi, rfl, hsit⟩ := hrel
          have HS := Lib.hid hsit; clear hsit HS4
          by_cases hlt : i < m
          · have hi1 : (i : Int) < (m : Int) := by omega
            have hseg : m - i = (m - (i + 1)) + 1 := by omega
            rw [hseg] at HS
            have HMIN := Lib.hid (min_seg st i (m - (i + 1))); have HDEL := Lib.hid (del_seg (lo := i) (len := m - (i + 1)) hst0)
            obtain ⟨P, hP⟩ : ∃ P, P = i * st := ⟨_, rfl⟩
            have hPl : P ≤ 299000 := by rw [hP]; exact Nat.le_trans (Nat.mul_le_mul (show i ≤ 299 by omega) hst2) (by decide)
            have hPe : (i : Int) * (st : Int) = (P : Int) := by rw [hP]; simp
            have hkk : kk st i = ⟨(P : Int), (st : Int)⟩ := by unfold kk; rw [hP]
            rw [hkk] at HMIN HDEL
            have HPE := Lib.hid hP
            clear hP hkk
            go_wp2_with fail
            refine (HS.out.min HMIN.out).mono ?_
            rintro e w5 ⟨rfl, h5, _⟩
            have H5 := Lib.hid (h5.alloc (.cells #[.int .u64 (P : Int), .int .u64 (st : Int)] 25)); clear h5 HS
            have xx : ((P : Int) == (P : Int) && (st : Int) == (st : Int)) = true := by simp
            simp only [kv]
            go_wp2_with fail
            refine (H5.out.del HDEL.out).mono ?_
            rintro e w6 ⟨rfl, S6, h6, _⟩
            have H6 := Lib.hid h6; clear h6 H5
            go_wp2_with fail
            refine H6.out.low.mono ?_
            rintro e w7 ⟨rfl, h7, _⟩
            have H7 := Lib.hid h7; clear h7 H6
            go_wp2
            go_roundw
            case rel => exact ⟨i + 1, S6, by omega, by go_num, H7.out⟩
            case measure => simp [intOf]; omega
          · obtain rfl : m = i := by omega
            have hz : m - m = 0 := by omega
            rw [hz] at HS
            have HL : Hid ((seg st m 0).length = 0) := Lib.hid (seg_len _ _ _)
            go_wp2_with fail
            refine (HS.out.len HL.out).mono ?_
            rintro e w5 ⟨rfl, h5, _⟩
            have H5 := Lib.hid h5.bel; clear h5 HS
            go_wp2
            go_ret
            exact ⟨by first | rfl | simp, H5.out⟩

set_option maxRecDepth 100000 in
theorem lifted (os : Os) (started : os.Started) (H : Type) (enc : TypeId × Value → H) :
    ReturnsInHanded {} Try.checked os 5 .any (Rows.treeLinesSpec.pre6 enc Try.prog Try.f5 Rows.treeLinesRow.domain false) (Rows.treeLinesSpec.post enc Try.prog Try.f5 false true false false) := by
  refine returnsInHanded_of_change (C := Try.checked) own started (by kernel_rfl) Try.func5
    (ChangeSpec.witness6 (enc := enc) (C := Try.checked) false ⟨#[], #[.int .i64 0, .bool false, .int .u64 0], []⟩ 8 (by kernel_rfl) (by kernel_rfl) (by kernel_rfl) (by kernel_rfl)) ?_
  intro W base args ds gs before hval0 hW hcnd _
  have hval : ∀ (j : Nat) t v, Try.f5.params[j]? = some t → args[j]? = some v → Value.okWide Try.prog W .any base t v := hval0
  have hW' := hW
  obtain ⟨p, q, hA0, hV, rfl, hfz, hnd⟩ := hW
  have hA : DataW.TrodAll enc Try.prog W 0 (fun _ => true) true Try.f5.params.toList args.toList ds p := hA0
  rw [Try.params5] at hA hval
  obtain ⟨v0, vs0, d0, ds0, p0, q0, hargs, rfl, rfl, h0, r0'⟩ := trodAll_cons hA
  obtain ⟨v1, vs1, d1, ds1, p1, q1, rfl, rfl, rfl, h1, r1'⟩ := trodAll_cons r0'
  obtain ⟨v2, vs2, d2, ds2, p2, q2, rfl, rfl, rfl, h2, r2'⟩ := trodAll_cons r1'
  obtain ⟨rfl, rfl, rfl⟩ := trodAll_nil r2'
  obtain rfl : args = #[v0, v1, v2] := by cases args; simp_all
  obtain ⟨rfl, rfl⟩ := trodVars_none hV
  obtain ⟨a0, rfl, rfl, rfl, w0⟩ := open_int Try.underlying3 (hval 0 3 v0 rfl rfl) h0
  obtain ⟨a1, rfl, rfl, rfl⟩ := open_bool Try.underlying4 (hval 1 4 v1 rfl rfl) h1
  obtain ⟨a2, rfl, rfl, rfl, w2⟩ := open_int Try.underlying23 (hval 2 23 v2 rfl rfl) h2
  clear hA0 hval0
  refine (walk a0 a1 a2 W w0 w2).mono fun e W' ⟨he, bel⟩ => ?_
  subst he
  exact ⟨_, rfl, _, _, _, [], _, [], hW', trodAll_mk1 (shut_bool Try.underlying4 _), (trodAll_cons_mk (shut_int Try.underlying3 w0) (trodAll_cons_mk (shut_bool Try.underlying4 _) (trodAll_cons_mk (shut_int Try.underlying23 w2) trodAll_mk0))), rfl, bel.frame _, fun h => by cases h⟩

theorem over : Rows.treeLinesRow.holds Try.pinned (OpenSpec.ofChange Rows.treeLinesSpec) :=
  OpenClaim.holds_of_wide 5 Try.f5 rfl rfl rfl rfl rfl rfl rfl ⟨rfl, rfl, rfl, rfl, rfl⟩ rfl rfl rfl rfl rfl (by kernel_rfl) Try.func5 (by kernel_rfl)
    (of_decide_eq_true (by kernel_rfl)) (by unfold Func.isWrapper; first | (rw [if_pos (by decide +kernel)]; kernel_rfl) | (rw [if_neg (by decide +kernel)]; exact ⟨rfl, rfl⟩))
    (fun os started H enc _ => lifted os started H enc)

theorem proved : Rows.TreeLinesSaid := over
end Go.Proofs.Ytnbfleocnpgmlaa.treeLines
namespace Go.Proofs.Ytnbfleocnpgmlaa
theorem treeLines_holds : Rows.TreeLinesSaid := treeLines.proved
#print axioms treeLines_holds
end Go.Proofs.Ytnbfleocnpgmlaa
