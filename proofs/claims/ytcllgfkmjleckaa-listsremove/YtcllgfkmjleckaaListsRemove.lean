/-
  Proved: canterlaw19.ListsRemove answers true at every list of bools and every number, and leaves its arguments as they were. Conditions: none.
-/
import Derived.Test.YtcllgfkmjleckaaRows
import Derived.WalkKit
import Derived.ProofKit
import Derived.OpenShut
import Derived.ShutString
import Derived.Below
import Derived.Test.YtcllgfkmjleckaaAwakeLs
import Derived.Test.YtcllgfkmjleckaaOpenLs
import Derived.OwnWalk
import Derived.Deep.DeepCutAuto
import Derived.Deep.CutBlock
import Derived.Deep.LoopGhost
namespace Go.Proofs.Ytcllgfkmjleckaa.listsRemove
open Go.ChangeShapes Go.WideShapes Go.ChangeAt Go.RowKit
set_option linter.unusedVariables false

theorem own : ownKnob Try.prog.godebug = none := by kernel_rfl
theorem laidOut : laidOutB Try.prog = true := by kernel_rfl

/-- Of the first k those that are pushed as new ones, and those that are not. -/
def newsOf (z : List Bool) (k : Nat) : List Int := ((List.range k).filter fun i => z.getD i false).map fun (i : Nat) => (i : Int)
def oldsOf (z : List Bool) (k : Nat) : List Int := ((List.range k).filter fun i => !(z.getD i false)).map fun (i : Nat) => (i : Int)
theorem news_succ (z : List Bool) (k : Nat) : newsOf z (k + 1) = newsOf z k ++ if z.getD k false = true then [(k : Int)] else [] := by
  unfold newsOf
  rw [List.range_succ, List.filter_append, List.map_append]
  congr 1
  cases h : z.getD k false <;> simp only [List.filter_cons, h] <;> rfl
theorem olds_succ (z : List Bool) (k : Nat) : oldsOf z (k + 1) = oldsOf z k ++ if z.getD k false = true then [] else [(k : Int)] := by
  unfold oldsOf
  rw [List.range_succ, List.filter_append, List.map_append]
  congr 1
  cases h : z.getD k false <;> simp only [List.filter_cons, h] <;> rfl
theorem news_lt {z : List Bool} {k : Nat} {x : Int} (h : x ∈ newsOf z k) : x < (k : Int) := by
  unfold newsOf at h
  obtain ⟨i, hi, rfl⟩ := List.mem_map.1 h
  have := List.mem_range.1 (List.mem_filter.1 hi).1
  omega
theorem olds_lt {z : List Bool} {k : Nat} {x : Int} (h : x ∈ oldsOf z k) : x < (k : Int) := by
  unfold oldsOf at h
  obtain ⟨i, hi, rfl⟩ := List.mem_map.1 h
  have := List.mem_range.1 (List.mem_filter.1 hi).1
  omega
theorem both_len (z : List Bool) : ∀ k, (newsOf z k).length + (oldsOf z k).length = k
  | 0 => rfl
  | k + 1 => by
    have := both_len z k
    rw [news_succ, olds_succ, List.length_append, List.length_append]
    cases z.getD k false <;> simp <;> omega
theorem both_mem (z : List Bool) {q k : Nat} (h : q < k) : (q : Int) ∈ newsOf z k ∨ (q : Int) ∈ oldsOf z k := by
  unfold newsOf oldsOf
  cases hz : z.getD q false with
  | true => exact .inl (List.mem_map.2 ⟨q, List.mem_filter.2 ⟨List.mem_range.2 h, hz⟩, rfl⟩)
  | false => exact .inr (List.mem_map.2 ⟨q, List.mem_filter.2 ⟨List.mem_range.2 h, by rw [hz]; rfl⟩, rfl⟩)
theorem push_one (z : List Bool) {k : Nat} (f : Bool) (hf : z.getD k false = f) (h : k < 8) : pushV (newsOf z k) (oldsOf z k) (k : Int) = 0 ∧ pushN (newsOf z k) (oldsOf z k) (k : Int) f = newsOf z (k + 1) ∧ pushO (newsOf z k) (oldsOf z k) (k : Int) f = oldsOf z (k + 1) := by
  have h0 : pushV (newsOf z k) (oldsOf z k) (k : Int) = 0 := by
    unfold pushV
    rw [if_neg (by omega), if_neg (fun h => by
      rcases h with h | h
      · have := news_lt h; omega
      · have := olds_lt h; omega)]
  refine ⟨h0, ?_, ?_⟩
  · unfold pushN; rw [h0, news_succ, hf]; cases f <;> simp
  · unfold pushO; rw [h0, olds_succ, hf]; cases f <;> simp
theorem fst_tell (N O : List Int) : fstL (tellL N O) = N ++ O := by simp [fstL, tellL, Function.comp_def]
theorem told_all {N O : List Int} (h : N.length + O.length ≤ 8) : toldL N O 99 = tellL N O := by
  unfold toldL
  exact List.take_of_length_le (by rw [tell_len]; omega)
theorem filter_both {N O : List Int} (hn : (N ++ O).Nodup) (q : Int) : (N ++ O).filter (fun x => x != q) = N.erase q ++ O.erase q := by
  have h := List.nodup_append.1 hn
  rw [List.filter_append, List.Nodup.erase_eq_filter h.1, List.Nodup.erase_eq_filter h.2.1]
theorem push_again {N O : List Int} (hn : (N ++ O).Nodup) (q : Nat) (hq : q < 8) : pushV (N.erase (q : Int)) (O.erase (q : Int)) (q : Int) = 0 ∧ pushN (N.erase (q : Int)) (O.erase (q : Int)) (q : Int) true = N.erase (q : Int) ++ [(q : Int)] ∧ pushO (N.erase (q : Int)) (O.erase (q : Int)) (q : Int) true = O.erase (q : Int) ∧
    placeV (N.erase (q : Int) ++ [(q : Int)]) (O.erase (q : Int)) (q : Int) = 1 := by
  have h := List.nodup_append.1 hn
  have h0 : pushV (N.erase (q : Int)) (O.erase (q : Int)) (q : Int) = 0 := by
    unfold pushV
    rw [if_neg (by omega), if_neg (fun h' => by
      rcases h' with h' | h'
      · exact h.1.not_mem_erase h'
      · exact h.2.1.not_mem_erase h')]
  refine ⟨h0, ?_, ?_, ?_⟩
  · unfold pushN; simp [h0]
  · unfold pushO; simp [h0]
  · unfold placeV; simp
theorem take_flt (l : List Int) (q : Int) {k : Nat} (h : k < l.length) : (l.take (k + 1)).filter (fun x => x != q) = (l.take k).filter (fun x => x != q) ++ if (l.getD k 0 == q) = true then [] else [l.getD k 0] := by
  rw [take_more l h, List.filter_append]
  congr 1
  generalize l.getD k 0 = x
  cases hb : x == q
  · have hn : (x != q) = true := by simp [bne, hb]
    simp only [List.filter_cons, hn, if_true, List.filter_nil, Bool.false_eq_true, if_false]
  · have hn : (x != q) = false := by simp [bne, hb]
    simp only [List.filter_cons, hn, if_true, List.filter_nil, Bool.false_eq_true, if_false]

set_option maxHeartbeats 4000000 in
set_option maxRecDepth 100000 in
theorem walk (a0 : Option Addr) (cap0 : Nat) (z0 : List Bool) (a1 : Int) (w : World) (c0 : z0.length ≤ 9223372036854775807) (r0 : RdL 1 cellsB w a0 z0) (w1 : (Lit.int .i64 a1).wf = true) :
    Calls Try.prog 6 #[.slice a0 z0.length cap0, .int .i64 a1] w fun e w' => e = .returned (.bool true) ∧ Below w.heap.size w w' := by
  clear w1
  have HZ := Lib.hid r0
  clear r0
  obtain ⟨u, hu⟩ : ∃ u : Nat, IntKind.u64.wrap a1 = (u : Int) := ⟨(IntKind.u64.wrap a1).toNat, by rw [IntKind.wrap_u64]; omega⟩
  have HR := Lib.hid (Room.begin w)
  go_enter Try.func6, Try.ntmps6
  go_wp2_with fail
  refine HR.out.lsnew.mono ?_
  rintro e w1 ⟨rfl, h1⟩
  have R1 := Lib.hid h1; clear h1 HR
  generalize w.heap.size = g at *
  go_wp2_with fail
  refine (awakels_any _).mono ?_
  rintro e w2 ⟨rfl, k2⟩
  have R2 := Lib.hid (R1.out.kept k2); clear k2 R1
  obtain ⟨n, hn⟩ : ∃ n, n = min z0.length 8 := ⟨_, rfl⟩
  go_upto_region 4 with fail
  go_cut [6] (fun s6 wx => s6 = .int .i64 n ∧ wx = w2)
  case first =>
    rcases Nat.lt_trichotomy z0.length 8 with h | h | h
    · obtain rfl : n = z0.length := by omega
      have g1 : (z0.length : Int) < 8 := by omega
      clear hn h
      go_wp2
      go_meet
      exact ⟨rfl, rfl⟩
    · obtain rfl : n = z0.length := by omega
      have g1 : (z0.length : Int) = 8 := by omega
      clear hn h
      go_wp2
      go_meet
      first | exact ⟨rfl, rfl⟩ | exact ⟨by rw [g1], rfl⟩
    · obtain rfl : n = 8 := by omega
      have g1 : (8 : Int) < (z0.length : Int) := by omega
      clear hn h
      go_wp2
      go_meet
      exact ⟨rfl, rfl⟩
  case rest =>
  obtain ⟨rfl, hwc⟩ := hcut
  have hwc := hwc.symm
  subst hwc
  have hn8 : n ≤ 8 := by omega
  have hnz : n ≤ z0.length := by omega
  clear hn
  by_cases h0 : n = 0
  · subst h0
    go_wp2
    go_ret
    exact ⟨rfl, R2.out.bel⟩
  have hb0 : ((n : Int) == 0) = false := by simp; omega
  have hb1 : ¬ ((n : Int) = 0) := by omega
  go_wp2
  go_loopw [7] (fun i wr => ∃ (k : Nat), k ≤ n ∧ i = .int .i64 k ∧ Room w wr [lsT g (newsOf z0 k) (oldsOf z0 k)]) (fun i _ => n - (intOf i).toNat)
  case atStart => exact ⟨0, by omega, rfl, R2.out⟩
  case round =>
    obtain ⟨k, hk, rfl, hR⟩ := hrel
    have R := Lib.hid hR; clear hR R2
    by_cases hlt : k < n
    · have hi1 : (k : Int) < (n : Int) := by omega
      have hi2 : (k : Int) < (z0.length : Int) := by omega
      obtain ⟨f, hf⟩ : ∃ f, z0[k]? = some f := ⟨_, List.getElem?_eq_getElem (by omega)⟩
      obtain ⟨b, off, rfl, -⟩ := HZ.out k _ hf
      obtain ⟨_, _, e, _, hc⟩ := HZ.out.below R.out.bel k _ hf
      cases e
      have c0 := hc 0 _ rfl
      simp only [Nat.mul_one, Nat.add_zero] at c0
      have HS := Lib.hid (push_one z0 f (by simp [hf]) (show k < 8 by omega))
      clear hf hc HZ
      go_wp2_with fail
      refine (R.out.lspush f HS.out.1 HS.out.2.1 HS.out.2.2).mono ?_
      rintro e w3 ⟨rfl, h3⟩
      have R3 := Lib.hid h3; clear h3 R HS c0
      go_wp2
      go_roundw
      case rel => exact ⟨k + 1, by omega, by go_num, R3.out⟩
      case measure => simp [intOf]; omega
    · obtain rfl : k = n := by omega
      clear hk hlt HZ
      have hwn : IntKind.u64.wrap (k : Int) = (k : Int) := by rw [IntKind.wrap_u64]; omega
      have hm : Int.tmod (u : Int) (k : Int) = ((u % k : Nat) : Int) := rfl
      obtain ⟨q, hq⟩ : ∃ q, q = u % k := ⟨_, rfl⟩
      have hqk : q < k := by rw [hq]; exact Nat.mod_lt _ (by omega)
      rw [← hq] at hm
      have hwq : IntKind.i64.wrap (q : Int) = (q : Int) := by rw [IntKind.wrap_i64]; omega
      have HOK : Hid (LsOk (newsOf z0 k) (oldsOf z0 k)) := Lib.hid (show Ls wr g _ _ from R.out.get0).ok
      have HM : Hid (true = decide ((q : Int) ∈ newsOf z0 k ∨ (q : Int) ∈ oldsOf z0 k)) := Lib.hid (by simp [both_mem z0 hqk])
      have HL : Hid ((newsOf z0 k).length + (oldsOf z0 k).length = k) := Lib.hid (both_len z0 k)
      clear hq
      generalize newsOf z0 k = N at *
      generalize oldsOf z0 k = O at *
      have hL := HL.out
      have HT1 := Lib.hid (told_all (N := N) (O := O) (by omega))
      have HT2 := Lib.hid (told_all (N := N.erase (q : Int)) (O := O.erase (q : Int)) (by have := List.length_erase_le (a := (q : Int)) (l := N); have := List.length_erase_le (a := (q : Int)) (l := O); omega))
      have HP := Lib.hid (push_again HOK.out.once q (by omega))
      have HF := Lib.hid (filter_both HOK.out.once (q : Int))
      go_wp2_with fail
      refine (R.out.lstold k HT1.out (by rw [tell_len]; exact HL.out)).mono ?_
      rintro e w3 ⟨p1, c1, p2, c2, rfl, h3⟩
      rw [fst_tell] at h3
      have R3 := Lib.hid (h3.less (M := [lsT g N O, rowI (.slice p1 k c1) (N ++ O)]) (List.Sublist.cons_cons _ (List.Sublist.cons_cons _ (List.nil_sublist _)))); clear h3 R
      go_wp2_with fail
      refine (R3.out.lsremove HM.out rfl rfl).mono ?_
      rintro e w4 ⟨rfl, h4⟩
      have R4 := Lib.hid h4; clear h4 R3 HM
      obtain ⟨IL, hIL⟩ : ∃ IL, IL = N.erase (q : Int) ++ O.erase (q : Int) := ⟨_, rfl⟩
      rw [← hIL] at HF
      have HIL := Lib.hid hIL
      clear hIL hL
      go_wp2_with fail
      refine (R4.out.lstold IL.length HT2.out (by rw [tell_len, HIL.out, List.length_append])).mono ?_
      rintro e w5 ⟨p3, c3, p4, c4, rfl, h5⟩
      rw [fst_tell, ← HIL.out] at h5
      have R5 := Lib.hid (h5.less (M := [lsT g (N.erase (q : Int)) (O.erase (q : Int)), rowI (.slice p3 IL.length c3) IL, rowI (.slice p1 k c1) (N ++ O)]) (List.Sublist.cons_cons _ (List.Sublist.cons_cons _ (List.Sublist.cons _ (List.Sublist.cons_cons _ (List.nil_sublist _)))))); clear h5 R4 HT1 HT2
      obtain ⟨WL, hWL⟩ : ∃ WL, WL = N ++ O := ⟨_, rfl⟩
      rw [← hWL] at R5 HF
      have HWL : Hid (WL.length = k) := Lib.hid (by rw [hWL, List.length_append]; exact HL.out)
      clear hWL HL HOK HIL
      generalize N.erase (q : Int) = N' at *
      generalize O.erase (q : Int) = O' at *
      go_wp2
      go_loopw [13, 14] (fun s13 i wr => ∃ (j : Nat) (v : Value), j ≤ k ∧ i = .int .i64 j ∧ s13 = v ∧ Room w wr [rowI v ((WL.take j).filter (fun x => x != (q : Int))), lsT g N' O', rowI (.slice p3 IL.length c3) IL, rowI (.slice p1 k c1) WL]) (fun _ i _ => k - (intOf i).toNat)
      case atStart => exact ⟨0, _, by omega, rfl, rfl, R5.out.add (t := rowI (.slice none 0 0) []) (owns_rowI (Owns.nil _ _)) (Keep.refl _ _) (fun k e => by cases e)⟩
      case round =>
        obtain ⟨j, v, hj, rfl, hv, hR⟩ := hrel
        obtain ⟨pv, cv, hsv, _⟩ := (rowI_owns hR.get0).shape
        have R := Lib.hid hR; clear hR R5
        rw [hsv] at hv R
        subst hv
        clear hsv
        by_cases hlt : j < k
        · have hi1 : (j : Int) < (k : Int) := by omega
          obtain ⟨pb, po, rfl, _, cj⟩ := (rowI_owns R.out.get3).rdi j (by rw [HWL.out]; exact hlt)
          have HTK := Lib.hid (take_flt WL (q : Int) (k := j) (by rw [HWL.out]; exact hlt))
          obtain ⟨x, hx⟩ : ∃ x, x = WL.getD j 0 := ⟨_, rfl⟩
          rw [← hx] at cj HTK
          obtain ⟨l, hl⟩ : ∃ l, l = (WL.take j).filter (fun x => x != (q : Int)) := ⟨_, rfl⟩
          rw [← hl] at HTK R
          rw [← hl]
          have hll : l.length ≤ 8 := by
            have h1 := List.length_filter_le (fun x => x != (q : Int)) (WL.take j)
            rw [← hl, List.length_take] at h1
            omega
          rw [len_iv] at R ⊢
          clear hx hl
          cases hxq : (x == (q : Int)) with
          | true =>
            have hxn : (x != (q : Int)) = false := by simp [bne, hxq]
            rw [hxq] at HTK
            simp only [if_true, List.append_nil] at HTK
            clear hxq
            go_wp2
            go_roundw
            case rel => exact ⟨j + 1, _, by omega, by go_num, rfl, by rw [HTK.out]; exact R.out⟩
            case measure => simp [intOf]; omega
          | false =>
            have hxn : (x != (q : Int)) = true := by simp [bne, hxq]
            rw [hxq] at HTK
            simp only [Bool.false_eq_true, if_false] at HTK
            clear hxq
            obtain ⟨i0, hi, hz0, hz1, hz2⟩ := info_parts Try.infoLs
            have HI := Lib.hid hi; have HZ0 := Lib.hid hz0; have HZ1 := Lib.hid hz1; have HZ2 := Lib.hid hz2; clear hi hz0 hz1 hz2
            go_wp2_with (at_builtin; refine wpList_append_owns rfl _ _ 26 rfl 3 i0 (.int .i64 0) 8 Try.underlying26 HI.out HZ0.out HZ1.out HZ2.out rfl (.slice pv l.length cv) (iv l) rfl (rowI_owns (R.out.alloc _).get0) (some ⟨wr.heap.size, 0, none⟩) 1 1 [.int .i64 x] rfl rfl (fun h => (by cases h)) (one_news wr _ _) (one_iv [x]) (by unfold maxLen; rw [len_iv]; omega) (by rw [len_iv]; omega) ?_; intro v' w6 hown hk6 hnew6 _; rw [app_iv] at hown; have R6 := Lib.hid ((R.out.alloc (.cells #[.int .i64 x] 3)).step0 (t' := rowI v' (l ++ [x])) (owns_rowI hown) hk6 hnew6); clear hown hk6 hnew6)
            go_roundw
            case rel => exact ⟨j + 1, _, by omega, by go_num, rfl, by rw [HTK.out]; exact R6.out⟩
            case measure => simp [intOf]; omega
        · obtain rfl : j = k := by omega
          have hall : (WL.take j).filter (fun x => x != (q : Int)) = IL := by rw [List.take_of_length_le (by rw [HWL.out]; omega), HF.out]
          rw [len_iv, hall] at R ⊢
          have hIL8 : IL.length ≤ 100000 := by
            have h1 := List.length_filter_le (fun x => x != (q : Int)) WL
            rw [HF.out, HWL.out] at h1
            omega
          have f1 : ((j : Int) == (j : Int)) = true := by simp
          clear hall hlt hj
          go_wp2_with fail
          refine (plain_int p3 pv c3 cv IL _ hIL8 (rowI_owns R.out.get2).rdi (rowI_owns R.out.get0).rdi).mono ?_
          rintro e w7 ⟨rfl, n7, hw7⟩
          have R7 : Hid (Room w w7 [lsT g N' O']) := Lib.hid (by rw [hw7]; exact (R.out.drewN n7).less (List.Sublist.cons _ (List.Sublist.cons_cons _ (List.nil_sublist _))))
          clear hw7 R
          go_wp2_with fail
          refine (R7.out.lspush true HP.out.1 HP.out.2.1 HP.out.2.2.1).mono ?_
          rintro e w8 ⟨rfl, h8⟩
          have R8 := Lib.hid h8; clear h8 R7
          go_wp2_with fail
          refine (R8.out.lsplace HP.out.2.2.2).mono ?_
          rintro e w9 ⟨rfl, h9⟩
          have R9 := Lib.hid h9; clear h9 R8
          go_wp2
          go_ret
          exact ⟨rfl, R9.out.bel⟩

set_option maxRecDepth 100000 in
theorem lifted (os : Os) (started : os.Started) (H : Type) (enc : TypeId × Value → H) :
    ReturnsInHanded {} Try.checked os 6 .any (Rows.listsRemoveSpec.pre6 enc Try.prog Try.f6 Rows.listsRemoveRow.domain false) (Rows.listsRemoveSpec.post enc Try.prog Try.f6 false true false false) := by
  refine returnsInHanded_of_change (C := Try.checked) own started (by kernel_rfl) Try.func6
    (ChangeSpec.witness6 (enc := enc) (C := Try.checked) false ⟨#[], #[.slice none 0 0, .int .i64 0], []⟩ 8 (by kernel_rfl) (by kernel_rfl) (by kernel_rfl) (by kernel_rfl)) ?_
  intro W base args ds gs before hval0 hW hcnd _
  have hval : ∀ (j : Nat) t v, Try.f6.params[j]? = some t → args[j]? = some v → Value.okWide Try.prog W .any base t v := hval0
  have hW' := hW
  obtain ⟨p, q, hA0, hV, rfl, hfz, hnd⟩ := hW
  have hA : DataW.TrodAll enc Try.prog W 0 (fun _ => true) true Try.f6.params.toList args.toList ds p := hA0
  rw [Try.params6] at hA hval
  obtain ⟨v0, vs0, d0, ds0, p0, q0, hargs, rfl, rfl, h0, r0'⟩ := trodAll_cons hA
  obtain ⟨v1, vs1, d1, ds1, p1, q1, rfl, rfl, rfl, h1, r1'⟩ := trodAll_cons r0'
  obtain ⟨rfl, rfl, rfl⟩ := trodAll_nil r1'
  obtain rfl : args = #[v0, v1] := by cases args; simp_all
  obtain ⟨rfl, rfl⟩ := trodVars_none hV
  obtain ⟨a0, len0, cap0, rfl⟩ := okWide_slice Try.underlying37 (hval 0 37 v0 rfl rfl)
  have k0 := h0
  have lt0 : ∀ x ∈ p0, x.block < W.heap.size := by obtain ⟨m, hm⟩ := k0; exact DataW.trod_lt m _ _ _ hm
  obtain ⟨z0, hz0, hc0, r0⟩ := open_bits h0
  subst hz0
  obtain ⟨a1, rfl, rfl, rfl, w1⟩ := open_int Try.underlying3 (hval 1 3 v1 rfl rfl) h1
  clear hA0 hval0
  refine (walk a0 cap0 z0 a1 W hc0 r0 w1).mono fun e W' ⟨he, bel⟩ => ?_
  subst he
  exact ⟨_, rfl, _, _, _, [], _, [], hW', trodAll_mk1 (shut_bool Try.underlying4 _), (trodAll_cons_mk (Below.trod laidOut (by kernel_rfl) (of_decide_eq_true (by kernel_rfl)) k0 bel lt0) (trodAll_cons_mk (shut_int Try.underlying3 w1) trodAll_mk0)), rfl, bel.frame _, fun h => by cases h⟩

theorem over : Rows.listsRemoveRow.holds Try.pinned (OpenSpec.ofChange Rows.listsRemoveSpec) :=
  OpenClaim.holds_of_wide 6 Try.f6 rfl rfl rfl rfl rfl rfl rfl ⟨rfl, rfl, rfl, rfl, rfl⟩ rfl rfl rfl rfl rfl (by kernel_rfl) Try.func6 (by kernel_rfl)
    (of_decide_eq_true (by kernel_rfl)) (by unfold Func.isWrapper; first | (rw [if_pos (by decide +kernel)]; kernel_rfl) | (rw [if_neg (by decide +kernel)]; exact ⟨rfl, rfl⟩))
    (fun os started H enc _ => lifted os started H enc)

theorem proved : Rows.ListsRemoveSaid := over
end Go.Proofs.Ytcllgfkmjleckaa.listsRemove
namespace Go.Proofs.Ytcllgfkmjleckaa
theorem listsRemove_holds : Rows.ListsRemoveSaid := listsRemove.proved
#print axioms listsRemove_holds
end Go.Proofs.Ytcllgfkmjleckaa
