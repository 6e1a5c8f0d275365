/-
  canterlaw20.FqFair, walked. Conditions: numbers are of their kind; the three lists lie in memory as slices do.
-/
import Derived.Test.YtnljjdfajmjdjaaJ49
import Derived.Test.YtnljjdfajmjdjaaJ21
import Derived.LoopTactic
import Derived.Laws.BitsLemmas
namespace Go.Proofs.Ytnljjdfajmjdjaa
open Go.RowKit
set_option maxRecDepth 100000
set_option linter.unusedSimpArgs false
set_option linter.unusedVariables false

theorem mod_two (a : Int) : ∃ n s : Int, (IntKind.u64.wrap a).tmod 6 = n ∧ wrap64 n = n ∧ wrap64 (2 + n) = s ∧ s = 2 + n ∧ 0 ≤ n ∧ n < 6 := by
  have h0 : 0 ≤ IntKind.u64.wrap a := by rw [IntKind.wrap_u64]; exact Int.emod_nonneg _ (by decide)
  have h1 := Int.emod_nonneg (IntKind.u64.wrap a) (b := 6) (by decide)
  have h2 := Int.emod_lt_of_pos (IntKind.u64.wrap a) (b := 6) (by decide)
  refine ⟨(IntKind.u64.wrap a) % 6, 2 + (IntKind.u64.wrap a) % 6, Int.tmod_eq_emod_of_nonneg h0, ?_, ?_, rfl, h1, h2⟩
  · generalize (IntKind.u64.wrap a) % 6 = n at *
    unfold wrap64; omega
  · generalize (IntKind.u64.wrap a) % 6 = n at *
    unfold wrap64; omega
theorem zu : U64 0 := ⟨by decide, by decide⟩
set_option maxRecDepth 100000 in
set_option maxHeartbeats 20000000 in
theorem fair_walk (c : Cf) (hc : U64 c.h ∧ U64 c.r) (aa ba oa : Option Addr) (acap bcap ocap : Nat) (as_ bs_ os_ : List Int) (a4 a5 : Int) (w : World) (hal : as_.length ≤ 9223372036854775807) (has_ : Rd .i64 w aa as_) (hbl : bs_.length ≤ 9223372036854775807) (hbs : Rd .i64 w ba bs_) (hol : os_.length ≤ 9223372036854775807) (hos : Rd .i64 w oa os_) :
    Calls Try.prog 5 #[c.v, .slice aa as_.length acap, .slice ba bs_.length bcap, .slice oa os_.length ocap, .int .i64 a4, .int .i64 a5] w fun e w' => e = .returned (.bool true) ∧ Below w.heap.size w w' := by
  obtain ⟨N, NN, p1, p2, _, _, p5, p6⟩ := mod_num a4 400 (by decide) (by decide)
  obtain ⟨lt, ltt, q1, q2, _, _, q5, q6⟩ := mod_num a5 30 (by decide) (by decide)
  have HC := Lib.hid hc; have HAL := Lib.hid hal; have HAS := Lib.hid has_; have HBL := Lib.hid hbl; have HBS := Lib.hid hbs; have HOL := Lib.hid hol; have HOS := Lib.hid hos
  have HP1 := Lib.hid (And.intro p1 p2); have HP5 := Lib.hid (And.intro p5 p6); have HQ1 := Lib.hid (And.intro q1 q2); have HQ5 := Lib.hid (And.intro q5 q6)
  have R0 := Lib.hid ((Room.begin w).box 24 (confL c).toArray)
  obtain ⟨w1, hw1⟩ : ∃ w1, w1 = w.alloc (.cells (confL c).toArray 24) := ⟨_, rfl⟩
  rw [← hw1] at R0
  unfold confL at hw1
  clear hc hal has_ hbl hbs hol hos p1 p2 p5 p6 q1 q2 q5 q6
  dsimp only [Cf.v]
  go_enter Try.func5, Try.ntmps5
  go_wp2_with fail
  rw [← hw1]
  clear hw1
  refine (playc_any c HC.out.2 HC.out.1 w1).mono ?_
  rintro e w2 ⟨p', rfl, hp, k2⟩
  have R2 := Lib.hid (R0.out.kept k2); have HP' := Lib.hid hp
  clear k2 hp R0
  have HT := Lib.hid (there_conf (show Whole w2 w.heap.size 24 (confL c).toArray from R2.out.get0))
  go_upto_region 2 with (refine wpList_store_mid rfl 24 (.tmp 6) (.tmp 29) rfl w.heap.size 0 (confL p').toArray rfl rfl HT.out Try.size24 (one_conf p') ?_)
  have R3 := Lib.hid (R2.out.step0 (t' := confT w.heap.size p') (whole_conf R2.out.get0) (Keep.setCells (S := fun k => k = w.heap.size) rfl (confL p') 0 (Keep.refl _ w2)) (fun k e => .inl e))
  try rw [show (confL p').toArray.toList = confL p' from rfl]
  clear HT R2
  generalize World.setCells w2 _ _ _ = w3 at *
  have s0 := show Whole w3 w.heap.size 24 (confL p').toArray from R3.out.get0
  have s1 := s0.put 5 (.int .u64 0)
  have s2 := s1.put 2 (.int .i64 512)
  have s3 := s2.put 3 (.int .i64 40)
  have c5 : w3.cell? ⟨w.heap.size, 5, none⟩ = some (.int .u64 p'.r) := s0.cell 5
  have c2 : (w3.setCell ⟨w.heap.size, 5, none⟩ (.int .u64 0)).cell? ⟨w.heap.size, 2, none⟩ = some (.int .i64 p'.l) := s1.cell 2
  have c3 : ((w3.setCell ⟨w.heap.size, 5, none⟩ (.int .u64 0)).setCell ⟨w.heap.size, 2, none⟩ (.int .i64 512)).cell? ⟨w.heap.size, 3, none⟩ = some (.int .i64 p'.w) := s2.cell 3
  have f5 := s0.free 5; have f2 := s1.free 2; have f3 := s2.free 3
  obtain ⟨p, hp⟩ : ∃ p : Cf, p = { p' with r := 0, l := 512, w := 40 } := ⟨_, rfl⟩
  have HP : Hid p.Ok := Lib.hid (by
    have h := HP'.out
    rw [hp]
    exact ⟨h.hq, h.hf, ⟨show (1 : Int) ≤ 512 by decide, show (512 : Int) ≤ 512 by decide⟩, ⟨show (1 : Int) ≤ 40 by decide, show (40 : Int) ≤ 512 by decide⟩, h.hh, ⟨show (0 : Int) ≤ 0 by decide, show (0 : Int) ≤ 18446744073709551615 by decide⟩, h.hk, h.hm⟩)
  have HPL : Hid (p.l = 512 ∧ p.w = 40) := Lib.hid (by rw [hp]; exact ⟨rfl, rfl⟩)
  have HPR : Hid (p.r = 0) := Lib.hid (by rw [hp])
  have HS3 : Hid (Whole (((w3.setCell ⟨w.heap.size, 5, none⟩ (.int .u64 0)).setCell ⟨w.heap.size, 2, none⟩ (.int .i64 512)).setCell ⟨w.heap.size, 3, none⟩ (.int .i64 40)) w.heap.size 24 (confL p).toArray) := Lib.hid (by rw [hp]; exact s3)
  have R3' := Lib.hid (R3.out.step0 (t' := confT w.heap.size p) HS3.out ((((Keep.refl (fun k => k = w.heap.size) w3).setCell (p := ⟨w.heap.size, 5, none⟩) (.inl rfl) _).setCell (p := ⟨w.heap.size, 2, none⟩) (.inl rfl) _).setCell (p := ⟨w.heap.size, 3, none⟩) (.inl rfl) _) (fun k e => .inl e))
  clear s0 s1 s2 s3 HP' hp HS3 R3
  go_upto_region 3 with fail
  clear c5 c2 c3 f5 f2 f3
  generalize World.setCell (World.setCell (World.setCell w3 _ _) _ _) _ _ = w4 at *
  obtain ⟨b0, b1, b2, b3, b4, b5, b6, b7, b8⟩ := nine_of (show Whole w4 w.heap.size 24 (confL p).toArray from R3'.out.get0)
  go_wp2_with fail
  refine (R3'.out.fqnew p HP.out).mono ?_
  rintro e w5 ⟨g, own, rfl, hr4⟩
  have R4 := Lib.hid hr4
  clear hr4 R3' b0 b1 b2 b3 b4 b5 b6 b7 b8
  go_wp2_with fail
  refine (awakef_any w5).mono ?_
  rintro e w6 ⟨rfl, k5⟩
  have R5 := Lib.hid (((R4.out.kept k5).box1 58 #[.int .i64 0, .int .i64 0]).box2 58 #[.int .i64 0, .int .i64 0])
  clear k5 R4
  go_upto_region 9 with fail
  obtain ⟨HB, hHB⟩ : ∃ HB, HB = (w6.alloc (.cells #[.int .i64 0, .int .i64 0] 58)).heap.size := ⟨_, rfl⟩
  have hHB2 : HB = w6.heap.size + 1 := by rw [hHB]; simp
  rw [← hHB] at R5
  try rw [← hHB]
  try rw [← hHB2]
  clear hHB hHB2
  generalize hPB : w6.heap.size = PB at *
  generalize World.alloc (World.alloc w6 _) _ = w7 at *
  clear hPB
  go_upto_region 10 with fail
  simp only [HQ1.out.1, HQ1.out.2]
  clear HQ1
  go_upto_region 11 with fail
  go_loopw [18, 19] (fun lv iv wR => ∃ (j : Nat) (L h0 h1 u0 u1 : Int) (own' : Nat → Prop) (x : Qm) (n0 n1 : Nat), lv = .int .i64 L ∧ iv = .int .i64 j ∧ (j : Int) ≤ N ∧ Run x p h0 h1 L n0 n1 ∧ L ≤ 9000 ∧ (0 ≤ h0 ∧ h0 ≤ 9000 * j) ∧ (0 ≤ h1 ∧ h1 ≤ 9000 * j) ∧ (0 ≤ u0 ∧ u0 ≤ 3 * j) ∧ (0 ≤ u1 ∧ u1 ≤ 3 * j) ∧ Room w wR [fqT g own' x, blkT PB 58 #[.int .i64 u0, .int .i64 u1], blkT HB 58 #[.int .i64 h0, .int .i64 h1], confT w.heap.size p]) (fun _ iv _ => 400 - (intOf iv).toNat)
  case atStart => exact ⟨0, 0, 0, 0, 0, 0, own, newQ p, 0, 0, rfl, rfl, HP5.out.1, Run.new p, by decide, by decide, by decide, by decide, by decide, R5.out⟩
  case round =>
    obtain ⟨j, L, h0, h1, u0, u1, own', x, n0, n1, rfl, rfl, hj, hrn, hl9, hh0, hh1, hu0, hu1, hr⟩ := hrel
    have R := Lib.hid hr; have HRN := Lib.hid hrn; have HL9 := Lib.hid hl9; have HH := Lib.hid (And.intro hh0 hh1); have HU : Hid ((0 ≤ u0 ∧ u0 ≤ 3 * j + n0) ∧ (0 ≤ u1 ∧ u1 ≤ 3 * j + n1)) := Lib.hid (by omega)
    clear hr hrn hl9 hh0 hh1 hu0 hu1 R5
    by_cases hlt : (j : Int) < N
    · have HJ : Hid ((j : Int) < 400) := Lib.hid (by have := HP5.out.2; omega)
      have hj400 : (j : Int) < 400 := HJ.out
      have HJN := Lib.hid hlt
      have hp1 := HP1.out.1
      have hlt' : (j : Int) < wrap64 N := by rw [HP1.out.2]; exact hlt
      go_upto_region 14 with fail
      clear hp1 hlt' hlt
      go_loopw [18, 20] (fun lv kv wR => ∃ (k : Nat) (L : Int) (own' : Nat → Prop) (x : Qm) (n0 n1 : Nat) (u0 u1 : Int), k ≤ 2 ∧ lv = .int .i64 L ∧ kv = .int .i64 k ∧ (1 ≤ k → n0 = 3) ∧ (2 ≤ k → n1 = 3) ∧ Run x p h0 h1 L n0 n1 ∧ L ≤ 9000 ∧ (0 ≤ u0 ∧ u0 ≤ 3 * j + n0) ∧ (0 ≤ u1 ∧ u1 ≤ 3 * j + n1) ∧ Room w wR [fqT g own' x, blkT PB 58 #[.int .i64 u0, .int .i64 u1], blkT HB 58 #[.int .i64 h0, .int .i64 h1], confT w.heap.size p]) (fun _ kv _ => 2 - (intOf kv).toNat)
      case atStart => exact ⟨0, L, own', x, n0, n1, u0, u1, by omega, rfl, rfl, fun e => by omega, fun e => by omega, HRN.out, HL9.out, HU.out.1, HU.out.2, R.out⟩
      case round =>
        clear R HRN HL9 HU
        obtain ⟨k, L, own', x, n0, n1, u0, u1, hk2, rfl, rfl, e0, e1, hrn, hl9, hu0, hu1, hr⟩ := hrel
        have R := Lib.hid hr; have HRN := Lib.hid hrn; have HL9 := Lib.hid hl9; have HU := Lib.hid (And.intro hu0 hu1)
        clear hr hrn hl9 hu0 hu1
        have hk3 : k = 0 ∨ k = 1 ∨ k = 2 := by omega
        rcases hk3 with rfl | rfl | rfl
        · clear e0 e1
          rw [show (((0 : Nat)) : Int) = (0 : Int) from rfl]
          have hxo : x.Ok := FQ.ok (show FQ wr g own' x from R.out.get0)
          have HXO := Lib.hid hxo
          clear hxo
          go_wp2_with fail
          refine (R.out.fqflow0 HXO.out).mono ?_
          rintro e w8 ⟨VV, tb, rfl, hr8⟩
          obtain ⟨va, vc, rfl⟩ := sgs_shape hr8.get1
          have R8 := Lib.hid (hr8.box2 44 #[.int .i64 (x.F 0).s, .int .i64 (x.F 0).c, .int .i64 (x.F 0).p, .int .u64 (x.F 0).n, .int .u64 (x.F 0).u, .slice va (x.F 0).q.length vc])
          clear hr8 R HXO
          dsimp only [Fl.v]
          rw [HRN.out.e0] at R8 ⊢
          go_upto_region 17 with fail
          generalize hFB : w8.heap.size = FB at *
          generalize World.alloc w8 _ = w9 at *
          clear hFB
          have c5 : w9.cell? ⟨FB, 5, none⟩ = some (.slice va n0 vc) := Whole.cell R8.out.get2 5
          go_upto_region 18 with fail
          have R9 := Lib.hid (R8.out.less (M := [fqT g own' x, blkT PB 58 #[.int .i64 u0, .int .i64 u1], blkT HB 58 #[.int .i64 h0, .int .i64 h1], confT w.heap.size p]) (((List.Sublist.refl _).cons _ |>.cons _).cons_cons _))
          clear c5 R8
          go_loopw [18, 23] (fun lv nv wR => ∃ (L' : Int) (m : Nat) (own2 : Nat → Prop) (y : Qm) (u : Int), lv = .int .i64 L' ∧ nv = .int .i64 m ∧ m ≤ 3 ∧ Run y p h0 h1 L' m n1 ∧ L' ≤ 9000 ∧ (0 ≤ u ∧ u ≤ 3 * j + m) ∧ Room w wR [fqT g own2 y, blkT PB 58 #[.int .i64 u, .int .i64 u1], blkT HB 58 #[.int .i64 h0, .int .i64 h1], confT w.heap.size p]) (fun _ nv _ => 3 - (intOf nv).toNat)
          case atStart => exact ⟨L, n0, own', x, u0, rfl, rfl, HRN.out.b0, HRN.out, HL9.out, by have := HU.out; omega, R9.out⟩
          case round =>
            obtain ⟨L', m, own2, y, u, rfl, rfl, hm, hrn, hl9, hu, hr⟩ := hrel
            have RC := Lib.hid hr; have HRM := Lib.hid hrn; have HLM := Lib.hid hl9; have HUM := Lib.hid hu
            clear hr hrn hl9 hu R9
            by_cases hm3 : m < 3
            · have hi3 : (m : Int) < 3 := by omega
              have hxo : y.Ok := FQ.ok (show FQ wr g own2 y from RC.out.get0)
              have HXO := Lib.hid hxo
              have c0 : wr.cell? ⟨PB, 0, none⟩ = some (.int .i64 u) := Whole.cell RC.out.get1 0
              have hu0 : 0 ≤ u := HUM.out.1
              clear hxo
              go_wp2_with fail
              refine (size_any aa acap as_ u (by have := HUM.out; omega) wr HAL.out (HAS.out.below RC.out.bel)).mono ?_
              rintro e w9 ⟨v, rfl, hv, rfl⟩
              have HSV := Lib.hid hv
              clear hv
              have HL0 := Lib.hid HRM.out.L0
              go_upto_region 24 with fail
              obtain ⟨LM, hLM⟩ : ∃ LM, max L' v = LM := ⟨_, rfl⟩
              rw [show (if L' < v then v else L') = LM by rw [← hLM]; split <;> omega]
              have HLM2 := Lib.hid hLM
              clear hLM
              have f0 : wr.frozen? ⟨PB, 0, none⟩ = false := Whole.free (show Whole wr PB 58 _ from RC.out.get1) 0
              have hu1 : u ≤ 3 * 400 + 3 := by have := HUM.out; have := HJ.out; omega
              have RD := Lib.hid (RC.out.step1 (t' := blkT PB 58 #[.int .i64 (u + 1), .int .i64 u1]) (Whole.put (show Whole wr PB 58 _ from RC.out.get1) 0 (.int .i64 (u + 1))) ((Keep.refl (fun k => k = PB) wr).setCell (p := ⟨PB, 0, none⟩) (.inl rfl) _) (fun k e => .inl e))
              go_upto_region 25 with fail
              clear c0 f0 RC
              generalize World.setCell wr _ _ = wd at *
              go_wp2_with fail
              refine (RD.out.fqenq ⟨0, 0, v, 0, false⟩ 0 zu zu zu).mono ?_
              rintro e we ⟨rfl, own3, hr3⟩
              have RE := Lib.hid hr3
              have HRE := Lib.hid (HRM.out.put0z (z := 0) rfl HXO.out HPL.out HSV.out hm3)
              rw [HLM2.out] at HRE
              clear hr3 RD
              obtain ⟨y2, hy2⟩ : ∃ y2, y2 = enqQ y ⟨0, 0, v, 0, false⟩ 0 := ⟨_, rfl⟩
              rw [← hy2] at RE HRE
              clear hy2
              go_wp2
              go_roundw
              case rel => exact ⟨LM, m + 1, own3, y2, u + 1, rfl, by go_num, by omega, HRE.out, by rw [← HLM2.out]; have := HLM.out; have := HSV.out; omega, by have := HUM.out; omega, RE.out⟩
              case measure => simp [intOf]; omega
            · obtain rfl : m = 3 := by omega
              clear hm3 hm
              go_wp2
              go_roundw
              case rel => exact ⟨1, L', own2, y, 3, n1, u, u1, by omega, rfl, rfl, fun _ => rfl, fun e => by omega, HRM.out, HLM.out, by have := HUM.out; omega, by have := HU.out; omega, RC.out⟩
              case measure => simp [intOf]
        · obtain rfl : n0 = 3 := e0 (by omega)
          clear e0 e1
          rw [show (((1 : Nat)) : Int) = (1 : Int) from rfl]
          have hxo : x.Ok := FQ.ok (show FQ wr g own' x from R.out.get0)
          have HXO := Lib.hid hxo
          clear hxo
          go_wp2_with fail
          refine (R.out.fqflow1 HXO.out).mono ?_
          rintro e w8 ⟨VV, tb, rfl, hr8⟩
          obtain ⟨va, vc, rfl⟩ := sgs_shape hr8.get1
          have R8 := Lib.hid (hr8.box2 44 #[.int .i64 (x.F 1).s, .int .i64 (x.F 1).c, .int .i64 (x.F 1).p, .int .u64 (x.F 1).n, .int .u64 (x.F 1).u, .slice va (x.F 1).q.length vc])
          clear hr8 R HXO
          dsimp only [Fl.v]
          rw [HRN.out.e1] at R8 ⊢
          go_upto_region 17 with fail
          generalize hFB : w8.heap.size = FB at *
          generalize World.alloc w8 _ = w9 at *
          clear hFB
          have c5 : w9.cell? ⟨FB, 5, none⟩ = some (.slice va n1 vc) := Whole.cell R8.out.get2 5
          go_upto_region 18 with fail
          have R9 := Lib.hid (R8.out.less (M := [fqT g own' x, blkT PB 58 #[.int .i64 u0, .int .i64 u1], blkT HB 58 #[.int .i64 h0, .int .i64 h1], confT w.heap.size p]) (((List.Sublist.refl _).cons _ |>.cons _).cons_cons _))
          clear c5 R8
          go_loopw [18, 23] (fun lv nv wR => ∃ (L' : Int) (m : Nat) (own2 : Nat → Prop) (y : Qm) (u : Int), lv = .int .i64 L' ∧ nv = .int .i64 m ∧ m ≤ 3 ∧ Run y p h0 h1 L' 3 m ∧ L' ≤ 9000 ∧ (0 ≤ u ∧ u ≤ 3 * j + m) ∧ Room w wR [fqT g own2 y, blkT PB 58 #[.int .i64 u0, .int .i64 u], blkT HB 58 #[.int .i64 h0, .int .i64 h1], confT w.heap.size p]) (fun _ nv _ => 3 - (intOf nv).toNat)
          case atStart => exact ⟨L, n1, own', x, u1, rfl, rfl, HRN.out.b1, HRN.out, HL9.out, by have := HU.out; omega, R9.out⟩
          case round =>
            obtain ⟨L', m, own2, y, u, rfl, rfl, hm, hrn, hl9, hu, hr⟩ := hrel
            have RC := Lib.hid hr; have HRM := Lib.hid hrn; have HLM := Lib.hid hl9; have HUM := Lib.hid hu
            clear hr hrn hl9 hu R9
            by_cases hm3 : m < 3
            · have hi3 : (m : Int) < 3 := by omega
              have hxo : y.Ok := FQ.ok (show FQ wr g own2 y from RC.out.get0)
              have HXO := Lib.hid hxo
              have c0 : wr.cell? ⟨PB, 1, none⟩ = some (.int .i64 u) := Whole.cell RC.out.get1 1
              have hu0 : 0 ≤ u := HUM.out.1
              clear hxo
              go_wp2_with fail
              refine (size_any aa acap as_ u (by have := HUM.out; omega) wr HAL.out (HAS.out.below RC.out.bel)).mono ?_
              rintro e w9 ⟨v, rfl, hv, rfl⟩
              clear hv
              go_wp2_with fail
              refine (size_any ba bcap bs_ u (by have := HUM.out; omega) wr HBL.out (HBS.out.below RC.out.bel)).mono ?_
              rintro e w9 ⟨v, rfl, hv, rfl⟩
              have HSV := Lib.hid hv
              clear hv
              have HL0 := Lib.hid HRM.out.L0
              go_upto_region 24 with fail
              obtain ⟨LM, hLM⟩ : ∃ LM, max L' v = LM := ⟨_, rfl⟩
              rw [show (if L' < v then v else L') = LM by rw [← hLM]; split <;> omega]
              have HLM2 := Lib.hid hLM
              clear hLM
              have f0 : wr.frozen? ⟨PB, 1, none⟩ = false := Whole.free (show Whole wr PB 58 _ from RC.out.get1) 1
              have hu1 : u ≤ 3 * 400 + 3 := by have := HUM.out; have := HJ.out; omega
              have RD := Lib.hid (RC.out.step1 (t' := blkT PB 58 #[.int .i64 u0, .int .i64 (u + 1)]) (Whole.put (show Whole wr PB 58 _ from RC.out.get1) 1 (.int .i64 (u + 1))) ((Keep.refl (fun k => k = PB) wr).setCell (p := ⟨PB, 1, none⟩) (.inl rfl) _) (fun k e => .inl e))
              go_upto_region 25 with fail
              clear c0 f0 RC
              generalize World.setCell wr _ _ = wd at *
              go_wp2_with fail
              refine (RD.out.fqenq ⟨1, 0, v, 0, false⟩ 0 zu zu zu).mono ?_
              rintro e we ⟨rfl, own3, hr3⟩
              have RE := Lib.hid hr3
              have HRE := Lib.hid (HRM.out.put1z (z := 1) rfl HXO.out HPL.out HSV.out (by decide) hm3)
              rw [HLM2.out] at HRE
              clear hr3 RD
              obtain ⟨y2, hy2⟩ : ∃ y2, y2 = enqQ y ⟨1, 0, v, 0, false⟩ 0 := ⟨_, rfl⟩
              rw [← hy2] at RE HRE
              clear hy2
              go_wp2
              go_roundw
              case rel => exact ⟨LM, m + 1, own3, y2, u + 1, rfl, by go_num, by omega, HRE.out, by rw [← HLM2.out]; have := HLM.out; have := HSV.out; omega, by have := HUM.out; omega, RE.out⟩
              case measure => simp [intOf]; omega
            · obtain rfl : m = 3 := by omega
              clear hm3 hm
              go_wp2
              go_roundw
              case rel => exact ⟨2, L', own2, y, 3, 3, u0, u, by omega, rfl, rfl, fun _ => rfl, fun _ => rfl, HRM.out, HLM.out, by have := HU.out; omega, by have := HUM.out; omega, RC.out⟩
              case measure => simp [intOf]
        · obtain rfl : n0 = 3 := e0 (by omega)
          obtain rfl : n1 = 3 := e1 (by omega)
          clear e0 e1
          rw [show (((2 : Nat)) : Int) = (2 : Int) from rfl]
          by_cases hw : lt ≤ (j : Int) ∧ (j : Int) < (os_.length : Int)
          · obtain ⟨hw1, hw2⟩ := hw
            obtain ⟨ob, oo, ea, _, cz⟩ := (HOS.out.below R.out.bel) j (by omega)
            subst ea
            obtain ⟨v, hv⟩ : ∃ v, os_.getD j 0 = v := ⟨_, rfl⟩
            rw [hv] at cz
            obtain ⟨n6, s6, m1, m2, m3, m4, m5, m6⟩ := mod_two v
            have HS6 : Hid (s6 = ((2 + n6.toNat : Nat) : Int) ∧ 2 ≤ 2 + n6.toNat ∧ 2 + n6.toNat < 8) := Lib.hid (by omega)
            have HN6 : Hid (0 ≤ n6 ∧ n6 < 6 ∧ s6 = 2 + n6) := Lib.hid (by omega)
            have HCZ := Lib.hid hv
            clear hv m4 m5 m6
            go_upto_region 27 with fail
            have hxo : x.Ok := FQ.ok (show FQ wr g own' x from R.out.get0)
            have HXO := Lib.hid hxo
            clear hxo hw1
            refine wp_region_sch (fun W => W.cell? ⟨ob, oo + j, none⟩ = some (.int .i64 v)) [(true, 0), (true, 1), (true, 2), (true, 3), (true, 4), (true, 5), (true, 6), (true, 7), (true, 8), (true, 9), (true, 10), (true, 11), (false, 12), (true, 13), (false, 14)] (by kernel_rfl) (by kernel_rfl) (by kernel_rfl) (by kernel_rfl) cz ?_
            have RD := Lib.hid R.out.drew
            have HCD : Hid (wr.drew.cell? ⟨ob, oo + j, none⟩ = some (.int .i64 v)) := Lib.hid cz
            clear cz R
            generalize wr.drew = wd at *
            (repeat (refine wpSch_yes (v := ?_) rfl (fun _ _ _ h => h) (by rfl) ?_ ?_; rotate_left; (next => (intro w hSw; (try dsimp only at hSw); (have hS1 := hSw); go_simp; (try with_reducible rfl))); (try simp only [Act.put, List.setIfInBounds_toArray, List.set_cons_zero, List.set_cons_succ])))
            try simp only [m2, m3]
            have HW2 := Lib.hid hw2
            clear hw2
            refine wpSch_call rfl (by rfl) (fun K hK => ?_); go_simp
            refine (size_any _ ocap os_ (j : Int) (by omega) wd HOL.out (HOS.out.below RD.out.bel)).mono ?_
            rintro e we ⟨v2, rfl, hv2, rfl⟩
            have HSV := Lib.hid hv2
            clear hv2
            refine hK.out _ _ HCD.out (fun hHeld => ?_)
            clear hK K hHeld
            (try simp only [Act.put, List.setIfInBounds_toArray, List.set_cons_zero, List.set_cons_succ])
            (repeat (refine wpSch_yes (v := ?_) rfl (fun _ _ _ h => h) (by rfl) ?_ ?_; rotate_left; (next => (intro w hSw; (try dsimp only at hSw); (have hS1 := hSw); go_simp; (try with_reducible rfl))); (try simp only [Act.put, List.setIfInBounds_toArray, List.set_cons_zero, List.set_cons_succ])))
            have m2' : IntKind.i64.wrap n6 = n6 := by rw [IntKind.wrap_i64]; have := HN6.out; omega
            have m3' : IntKind.i64.wrap (2 + n6) = s6 := by rw [IntKind.wrap_i64]; have := HN6.out; omega
            simp only [m2', m3']
            clear m1 m2 m3 m2' m3'
            refine wpSch_call rfl (by rfl) (fun K hK => ?_); go_simp
            refine (RD.out.fqenq ⟨s6, 0, v2, 0, false⟩ 0 zu zu zu).mono ?_
            rintro e wf ⟨rfl, own3, hr3⟩
            have HRE := Lib.hid (HRN.out.put2z HS6.out.1 HXO.out HPL.out HS6.out.2.1 HS6.out.2.2 HSV.out)
            obtain ⟨x2, hx2⟩ : ∃ x2, x2 = enqQ x ⟨s6, 0, v2, 0, false⟩ 0 := ⟨_, rfl⟩
            have RE := Lib.hid hr3
            rw [← hx2] at RE HRE
            clear hx2 hr3 RD HCD HRN HXO
            refine hK.out _ _ (by
              obtain ⟨ob2, oo2, ea2, _, cz2⟩ := (HOS.out.below RE.out.bel) j (by have := HW2.out; omega)
              cases ea2
              rw [HCZ.out] at cz2
              exact cz2) (fun hHeld => ?_)
            clear hK K hHeld
            (try simp only [Act.put, List.setIfInBounds_toArray, List.set_cons_zero, List.set_cons_succ])
            refine wpSch_nil ?_
            have R := Lib.hid RE.out; have HRN := Lib.hid HRE.out
            clear RE HRE HS6 HSV HCZ HW2
            generalize x2 = x at *
            generalize own3 = own' at *
            generalize wf = wr at *
            have hxo : x.Ok := FQ.ok (show FQ wr g own' x from R.out.get0)
            obtain ⟨y, so, hys⟩ : ∃ y so, deqQ (dlyQ [] x.c.r) x 0 = (y, so) := ⟨_, _, rfl⟩
            have HYS := Lib.hid hys
            have hpl := HRN.out.pull hxo HPR.out hys
            obtain ⟨s9, rfl, hs1, hs2, hs3, hF, m0, m1, hrn2⟩ := hpl
            obtain ⟨ss, sf, sl, st, sa⟩ := s9
            dsimp only at hs1 hs2 hs3
            have HFY := Lib.hid hF; have HRY := Lib.hid hrn2; have HSL := Lib.hid (And.intro hs2 hs3)
            clear hxo hys hF hrn2 hs2 hs3
            go_wp2_with fail
            refine (R.out.fqdeq0 0 zu HYS.out).mono ?_
            rintro e w8 ⟨rfl, own9, hr9⟩
            have R9 := Lib.hid (hr9.box1 34 #[.int .i64 ss, .int .u64 sf, .int .i64 sl, .int .u64 st, .bool sa])
            clear hr9 R HYS HRN
            dsimp only [Option.getD, Option.isSome, Sg.v]
            go_upto_region 31 with fail
            generalize hSB : w8.heap.size = SB at *
            generalize World.alloc w8 _ = wS at *
            clear hSB
            have hs3 : ss = 0 ∨ ss = 1 ∨ 2 ≤ ss := by omega
            rcases hs3 with rfl | rfl | hs2
            · clear hs1
              have c0 : wS.cell? ⟨SB, 0, none⟩ = some (.int .i64 0) := Whole.cell R9.out.get1 0
              have c2 : wS.cell? ⟨SB, 2, none⟩ = some (.int .i64 sl) := Whole.cell R9.out.get1 2
              have ch : wS.cell? ⟨HB, 0, none⟩ = some (.int .i64 h0) := Whole.cell R9.out.get3 0
              have hb1 : 0 ≤ h0 ∧ h0 ≤ 3600000 := by have := HH.out; have := HJ.out; omega
              have hb2 : 1 ≤ sl ∧ sl ≤ 9000 := ⟨HSL.out.1, by have := HSL.out.2 (Or.inl rfl); have := HL9.out; omega⟩
              obtain ⟨hb1, hb1'⟩ := hb1
              obtain ⟨hb2, hb2'⟩ := hb2
              go_upto_region 32 with fail
              refine wp_region_late (fun W => W.cell? ⟨SB, 0, none⟩ = some (.int .i64 0) ∧ W.cell? ⟨SB, 2, none⟩ = some (.int .i64 sl) ∧ W.cell? ⟨HB, 0, none⟩ = some (.int .i64 h0)) [10] (.yes 0 (.yes 1 (.yes 2 (.yes 3 (.yes 4 (.yes 5 (.yes 6 (.yes 7 (.yes 8 (.yes 9 (.one 10 .nil))))))))))) (by kernel_rfl) (by kernel_rfl) (by kernel_rfl) (by kernel_rfl) ⟨c0, c2, ch⟩ ?_
              have RN := Lib.hid R9.out.drew
              clear c0 c2 ch R9
              generalize wS.drew = wT at *
              (repeat (refine wpSchL_yes (v := ?_) rfl (fun _ _ _ h => h) (by rfl) ?_ ?_; rotate_left; (next => (intro w hSw; (try dsimp only at hSw); obtain ⟨hS0, hS1, hS2⟩ := hSw; go_simp; (try with_reducible rfl))); (try simp only [Act.put, List.setIfInBounds_toArray, List.set_cons_zero, List.set_cons_succ])))
              have hwr : IntKind.i64.wrap (h0 + sl) = h0 + sl := by rw [IntKind.wrap_i64]; omega
              simp only [hwr]
              clear hwr
              have ch : wT.cell? ⟨HB, 0, none⟩ = some (.int .i64 h0) := Whole.cell RN.out.get3 0
              have fh : wT.frozen? ⟨HB, 0, none⟩ = false := Whole.free (show Whole wT HB 58 _ from RN.out.get3) 0
              have RO := Lib.hid (RN.out.step3 (t' := blkT HB 58 #[.int .i64 (h0 + sl), .int .i64 h1]) (Whole.put (show Whole wT HB 58 _ from RN.out.get3) 0 (.int .i64 (h0 + sl))) ((Keep.refl (fun k => k = HB) wT).setCell (p := ⟨HB, 0, none⟩) (.inl rfl) _) (fun k e => .inl e))
              clear RN
              refine wpSchL_one (wpOneL_call rfl (by rfl) (fun K hK => ?_))
              go_simp
              refine hK.out _ _ (fun h => absurd h (by decide)) (fun hHeld => ?_)
              clear hK K hHeld ch fh hb1 hb2 hb1' hb2'
              generalize World.setCell wT _ _ = wU at *
              refine wpSchL_nil ?_
              (try simp only [Act.put, List.setIfInBounds_toArray, List.set_cons_zero, List.set_cons_succ])
              have HRZ : Hid (Run y p (h0 + sl) h1 L m0 m1) := Lib.hid HRY.out
              have HFZ : Hid (Fair y p (h0 + sl) h1 L) := Lib.hid HFY.out
              have HHZ : Hid ((0 ≤ h0 + sl ∧ h0 + sl ≤ 9000 * (j + 1)) ∧ (0 ≤ h1 ∧ h1 ≤ 9000 * (j + 1))) := Lib.hid (by have := HH.out; have := HL9.out; have := HSL.out.1; have := HSL.out.2 (Or.inl rfl); omega)
              have RV := Lib.hid (RO.out.less (M := [fqT g own9 y, blkT PB 58 #[.int .i64 u0, .int .i64 u1], blkT HB 58 #[.int .i64 (h0 + sl), .int .i64 h1], confT w.heap.size p]) ((List.Sublist.refl _).cons _ |>.cons_cons _))
              clear RO HRY HFY HH HSL
              obtain ⟨h0, hh⟩ : ∃ z, z = h0 + sl := ⟨_, rfl⟩
              rw [← hh] at HRZ HFZ HHZ RV
              clear hh
              have c0 : wU.cell? ⟨HB, 0, none⟩ = some (.int .i64 h0) := Whole.cell RV.out.get2 0
              have c1 : wU.cell? ⟨HB, 1, none⟩ = some (.int .i64 h1) := Whole.cell RV.out.get2 1
              have cq : wU.cell? ⟨w.heap.size, 0, none⟩ = some (.int .i64 p.q) := Whole.cell RV.out.get3 0
              have cf : wU.cell? ⟨w.heap.size, 1, none⟩ = some (.int .i64 p.f) := Whole.cell RV.out.get3 1
              have hb : (0 ≤ h0 ∧ h0 ≤ 3600000) ∧ (0 ≤ h1 ∧ h1 ≤ 3600000) := by have := HHZ.out; have := HJ.out; omega
              obtain ⟨⟨hb0, hb0'⟩, hb1, hb1'⟩ := hb
              go_upto_region 34 with fail
              clear c0 c1 hb0 hb0' hb1 hb1'
              obtain ⟨F, hF⟩ : ∃ F, ((if h0 < h1 then h1 else h0) - if h1 < h0 then h1 else h0) = F := ⟨_, rfl⟩
              rw [hF]
              have hFF : F ≤ p.q + max p.q p.f + L := by
                rw [← hF]
                have := HFZ.out.near (by have := HP.out.hq; omega)
                split <;> split <;> omega
              have hF0 : 0 ≤ F := by rw [← hF]; split <;> split <;> omega
              have hF1 : F ≤ 3600000 := by rw [← hF]; have := HHZ.out; have := HJ.out; split <;> split <;> omega
              clear hF
              have hq1 := HP.out.hq.1; have hq2 := HP.out.hq.2; have hf1 := HP.out.hf.1; have hf2 := HP.out.hf.2
              have hL0 := HRZ.out.L0; have hL1 := HL9.out
              by_cases hqf : p.q < p.f
              · have hcmp : ¬ p.q + 2 * p.f + 2 * L < F := by omega
                clear hFF
                go_wp2
                go_roundw
                case rel => exact ⟨j + 1, L, h0, h1, u0, u1, own9, y, m0, m1, rfl, by go_num, by have := HJN.out; omega, HRZ.out, HL9.out, by have := HHZ.out; omega, by have := HHZ.out; omega, by have := HU.out; omega, by have := HU.out; omega, RV.out⟩
                case measure => simp [intOf]; have := HJ.out; omega
              · have hcmp : ¬ p.q + 2 * p.q + 2 * L < F := by omega
                clear hFF
                go_wp2
                go_roundw
                case rel => exact ⟨j + 1, L, h0, h1, u0, u1, own9, y, m0, m1, rfl, by go_num, by have := HJN.out; omega, HRZ.out, HL9.out, by have := HHZ.out; omega, by have := HHZ.out; omega, by have := HU.out; omega, by have := HU.out; omega, RV.out⟩
                case measure => simp [intOf]; have := HJ.out; omega
            · clear hs1
              have c0 : wS.cell? ⟨SB, 0, none⟩ = some (.int .i64 1) := Whole.cell R9.out.get1 0
              have c2 : wS.cell? ⟨SB, 2, none⟩ = some (.int .i64 sl) := Whole.cell R9.out.get1 2
              have ch : wS.cell? ⟨HB, 1, none⟩ = some (.int .i64 h1) := Whole.cell R9.out.get3 1
              have hb1 : 0 ≤ h1 ∧ h1 ≤ 3600000 := by have := HH.out; have := HJ.out; omega
              have hb2 : 1 ≤ sl ∧ sl ≤ 9000 := ⟨HSL.out.1, by have := HSL.out.2 (Or.inr rfl); have := HL9.out; omega⟩
              obtain ⟨hb1, hb1'⟩ := hb1
              obtain ⟨hb2, hb2'⟩ := hb2
              go_upto_region 32 with fail
              refine wp_region_late (fun W => W.cell? ⟨SB, 0, none⟩ = some (.int .i64 1) ∧ W.cell? ⟨SB, 2, none⟩ = some (.int .i64 sl) ∧ W.cell? ⟨HB, 1, none⟩ = some (.int .i64 h1)) [10] (.yes 0 (.yes 1 (.yes 2 (.yes 3 (.yes 4 (.yes 5 (.yes 6 (.yes 7 (.yes 8 (.yes 9 (.one 10 .nil))))))))))) (by kernel_rfl) (by kernel_rfl) (by kernel_rfl) (by kernel_rfl) ⟨c0, c2, ch⟩ ?_
              have RN := Lib.hid R9.out.drew
              clear c0 c2 ch R9
              generalize wS.drew = wT at *
              (repeat (refine wpSchL_yes (v := ?_) rfl (fun _ _ _ h => h) (by rfl) ?_ ?_; rotate_left; (next => (intro w hSw; (try dsimp only at hSw); obtain ⟨hS0, hS1, hS2⟩ := hSw; go_simp; (try with_reducible rfl))); (try simp only [Act.put, List.setIfInBounds_toArray, List.set_cons_zero, List.set_cons_succ])))
              have hwr : IntKind.i64.wrap (h1 + sl) = h1 + sl := by rw [IntKind.wrap_i64]; omega
              simp only [hwr]
              clear hwr
              have ch : wT.cell? ⟨HB, 1, none⟩ = some (.int .i64 h1) := Whole.cell RN.out.get3 1
              have fh : wT.frozen? ⟨HB, 1, none⟩ = false := Whole.free (show Whole wT HB 58 _ from RN.out.get3) 1
              have RO := Lib.hid (RN.out.step3 (t' := blkT HB 58 #[.int .i64 h0, .int .i64 (h1 + sl)]) (Whole.put (show Whole wT HB 58 _ from RN.out.get3) 1 (.int .i64 (h1 + sl))) ((Keep.refl (fun k => k = HB) wT).setCell (p := ⟨HB, 1, none⟩) (.inl rfl) _) (fun k e => .inl e))
              clear RN
              refine wpSchL_one (wpOneL_call rfl (by rfl) (fun K hK => ?_))
              go_simp
              refine hK.out _ _ (fun h => absurd h (by decide)) (fun hHeld => ?_)
              clear hK K hHeld ch fh hb1 hb2 hb1' hb2'
              generalize World.setCell wT _ _ = wU at *
              refine wpSchL_nil ?_
              (try simp only [Act.put, List.setIfInBounds_toArray, List.set_cons_zero, List.set_cons_succ])
              have HRZ : Hid (Run y p h0 (h1 + sl) L m0 m1) := Lib.hid HRY.out
              have HFZ : Hid (Fair y p h0 (h1 + sl) L) := Lib.hid HFY.out
              have HHZ : Hid ((0 ≤ h0 ∧ h0 ≤ 9000 * (j + 1)) ∧ (0 ≤ h1 + sl ∧ h1 + sl ≤ 9000 * (j + 1))) := Lib.hid (by have := HH.out; have := HL9.out; have := HSL.out.1; have := HSL.out.2 (Or.inr rfl); omega)
              have RV := Lib.hid (RO.out.less (M := [fqT g own9 y, blkT PB 58 #[.int .i64 u0, .int .i64 u1], blkT HB 58 #[.int .i64 h0, .int .i64 (h1 + sl)], confT w.heap.size p]) ((List.Sublist.refl _).cons _ |>.cons_cons _))
              clear RO HRY HFY HH HSL
              obtain ⟨h1, hh⟩ : ∃ z, z = h1 + sl := ⟨_, rfl⟩
              rw [← hh] at HRZ HFZ HHZ RV
              clear hh
              have c0 : wU.cell? ⟨HB, 0, none⟩ = some (.int .i64 h0) := Whole.cell RV.out.get2 0
              have c1 : wU.cell? ⟨HB, 1, none⟩ = some (.int .i64 h1) := Whole.cell RV.out.get2 1
              have cq : wU.cell? ⟨w.heap.size, 0, none⟩ = some (.int .i64 p.q) := Whole.cell RV.out.get3 0
              have cf : wU.cell? ⟨w.heap.size, 1, none⟩ = some (.int .i64 p.f) := Whole.cell RV.out.get3 1
              have hb : (0 ≤ h0 ∧ h0 ≤ 3600000) ∧ (0 ≤ h1 ∧ h1 ≤ 3600000) := by have := HHZ.out; have := HJ.out; omega
              obtain ⟨⟨hb0, hb0'⟩, hb1, hb1'⟩ := hb
              go_upto_region 34 with fail
              clear c0 c1 hb0 hb0' hb1 hb1'
              obtain ⟨F, hF⟩ : ∃ F, ((if h0 < h1 then h1 else h0) - if h1 < h0 then h1 else h0) = F := ⟨_, rfl⟩
              rw [hF]
              have hFF : F ≤ p.q + max p.q p.f + L := by
                rw [← hF]
                have := HFZ.out.near (by have := HP.out.hq; omega)
                split <;> split <;> omega
              have hF0 : 0 ≤ F := by rw [← hF]; split <;> split <;> omega
              have hF1 : F ≤ 3600000 := by rw [← hF]; have := HHZ.out; have := HJ.out; split <;> split <;> omega
              clear hF
              have hq1 := HP.out.hq.1; have hq2 := HP.out.hq.2; have hf1 := HP.out.hf.1; have hf2 := HP.out.hf.2
              have hL0 := HRZ.out.L0; have hL1 := HL9.out
              by_cases hqf : p.q < p.f
              · have hcmp : ¬ p.q + 2 * p.f + 2 * L < F := by omega
                clear hFF
                go_wp2
                go_roundw
                case rel => exact ⟨j + 1, L, h0, h1, u0, u1, own9, y, m0, m1, rfl, by go_num, by have := HJN.out; omega, HRZ.out, HL9.out, by have := HHZ.out; omega, by have := HHZ.out; omega, by have := HU.out; omega, by have := HU.out; omega, RV.out⟩
                case measure => simp [intOf]; have := HJ.out; omega
              · have hcmp : ¬ p.q + 2 * p.q + 2 * L < F := by omega
                clear hFF
                go_wp2
                go_roundw
                case rel => exact ⟨j + 1, L, h0, h1, u0, u1, own9, y, m0, m1, rfl, by go_num, by have := HJN.out; omega, HRZ.out, HL9.out, by have := HHZ.out; omega, by have := HHZ.out; omega, by have := HU.out; omega, by have := HU.out; omega, RV.out⟩
                case measure => simp [intOf]; have := HJ.out; omega
            · have c0 : wS.cell? ⟨SB, 0, none⟩ = some (.int .i64 ss) := Whole.cell R9.out.get1 0
              have HRZ : Hid (Run y p h0 h1 L m0 m1) := Lib.hid (by
                have h := HRY.out
                unfold hadQ at h
                rw [if_neg (by dsimp only; omega), if_neg (by dsimp only; omega)] at h
                exact h)
              have HFZ : Hid (Fair y p h0 h1 L) := Lib.hid (by
                have h := HFY.out
                unfold hadQ at h
                rw [if_neg (by dsimp only; omega), if_neg (by dsimp only; omega)] at h
                exact h)
              have HHZ : Hid ((0 ≤ h0 ∧ h0 ≤ 9000 * ((j : Int) + 1)) ∧ (0 ≤ h1 ∧ h1 ≤ 9000 * ((j : Int) + 1))) := Lib.hid (by have := HH.out; omega)
              go_upto_region 33 with fail
              have RV := Lib.hid (R9.out.less (M := [fqT g own9 y, blkT PB 58 #[.int .i64 u0, .int .i64 u1], blkT HB 58 #[.int .i64 h0, .int .i64 h1], confT w.heap.size p]) ((List.Sublist.refl _).cons _ |>.cons_cons _))
              clear R9 c0 HRY HFY HH HSL hs1 hs2
              generalize wS = wU at *
              have c0 : wU.cell? ⟨HB, 0, none⟩ = some (.int .i64 h0) := Whole.cell RV.out.get2 0
              have c1 : wU.cell? ⟨HB, 1, none⟩ = some (.int .i64 h1) := Whole.cell RV.out.get2 1
              have cq : wU.cell? ⟨w.heap.size, 0, none⟩ = some (.int .i64 p.q) := Whole.cell RV.out.get3 0
              have cf : wU.cell? ⟨w.heap.size, 1, none⟩ = some (.int .i64 p.f) := Whole.cell RV.out.get3 1
              have hb : (0 ≤ h0 ∧ h0 ≤ 3600000) ∧ (0 ≤ h1 ∧ h1 ≤ 3600000) := by have := HHZ.out; have := HJ.out; omega
              obtain ⟨⟨hb0, hb0'⟩, hb1, hb1'⟩ := hb
              go_upto_region 34 with fail
              clear c0 c1 hb0 hb0' hb1 hb1'
              obtain ⟨F, hF⟩ : ∃ F, ((if h0 < h1 then h1 else h0) - if h1 < h0 then h1 else h0) = F := ⟨_, rfl⟩
              rw [hF]
              have hFF : F ≤ p.q + max p.q p.f + L := by
                rw [← hF]
                have := HFZ.out.near (by have := HP.out.hq; omega)
                split <;> split <;> omega
              have hF0 : 0 ≤ F := by rw [← hF]; split <;> split <;> omega
              have hF1 : F ≤ 3600000 := by rw [← hF]; have := HHZ.out; have := HJ.out; split <;> split <;> omega
              clear hF
              have hq1 := HP.out.hq.1; have hq2 := HP.out.hq.2; have hf1 := HP.out.hf.1; have hf2 := HP.out.hf.2
              have hL0 := HRZ.out.L0; have hL1 := HL9.out
              by_cases hqf : p.q < p.f
              · have hcmp : ¬ p.q + 2 * p.f + 2 * L < F := by omega
                clear hFF
                go_wp2
                go_roundw
                case rel => exact ⟨j + 1, L, h0, h1, u0, u1, own9, y, m0, m1, rfl, by go_num, by have := HJN.out; omega, HRZ.out, HL9.out, by have := HHZ.out; omega, by have := HHZ.out; omega, by have := HU.out; omega, by have := HU.out; omega, RV.out⟩
                case measure => simp [intOf]; have := HJ.out; omega
              · have hcmp : ¬ p.q + 2 * p.q + 2 * L < F := by omega
                clear hFF
                go_wp2
                go_roundw
                case rel => exact ⟨j + 1, L, h0, h1, u0, u1, own9, y, m0, m1, rfl, by go_num, by have := HJN.out; omega, HRZ.out, HL9.out, by have := HHZ.out; omega, by have := HHZ.out; omega, by have := HU.out; omega, by have := HU.out; omega, RV.out⟩
                case measure => simp [intOf]; have := HJ.out; omega
          · have hw2 : (j : Int) < lt ∨ (lt ≤ (j : Int) ∧ ¬ (j : Int) < (os_.length : Int)) := by omega
            clear hw
            rcases hw2 with hw1 | ⟨hw1, hw2⟩
            · skip
              have hxo : x.Ok := FQ.ok (show FQ wr g own' x from R.out.get0)
              obtain ⟨y, so, hys⟩ : ∃ y so, deqQ (dlyQ [] x.c.r) x 0 = (y, so) := ⟨_, _, rfl⟩
              have HYS := Lib.hid hys
              have hpl := HRN.out.pull hxo HPR.out hys
              obtain ⟨s9, rfl, hs1, hs2, hs3, hF, m0, m1, hrn2⟩ := hpl
              obtain ⟨ss, sf, sl, st, sa⟩ := s9
              dsimp only at hs1 hs2 hs3
              have HFY := Lib.hid hF; have HRY := Lib.hid hrn2; have HSL := Lib.hid (And.intro hs2 hs3)
              clear hxo hys hF hrn2 hs2 hs3
              go_wp2_with fail
              refine (R.out.fqdeq0 0 zu HYS.out).mono ?_
              rintro e w8 ⟨rfl, own9, hr9⟩
              have R9 := Lib.hid (hr9.box1 34 #[.int .i64 ss, .int .u64 sf, .int .i64 sl, .int .u64 st, .bool sa])
              clear hr9 R HYS HRN
              dsimp only [Option.getD, Option.isSome, Sg.v]
              go_upto_region 31 with fail
              generalize hSB : w8.heap.size = SB at *
              generalize World.alloc w8 _ = wS at *
              clear hSB
              have hs3 : ss = 0 ∨ ss = 1 ∨ 2 ≤ ss := by omega
              rcases hs3 with rfl | rfl | hs2
              · clear hs1
                have c0 : wS.cell? ⟨SB, 0, none⟩ = some (.int .i64 0) := Whole.cell R9.out.get1 0
                have c2 : wS.cell? ⟨SB, 2, none⟩ = some (.int .i64 sl) := Whole.cell R9.out.get1 2
                have ch : wS.cell? ⟨HB, 0, none⟩ = some (.int .i64 h0) := Whole.cell R9.out.get3 0
                have hb1 : 0 ≤ h0 ∧ h0 ≤ 3600000 := by have := HH.out; have := HJ.out; omega
                have hb2 : 1 ≤ sl ∧ sl ≤ 9000 := ⟨HSL.out.1, by have := HSL.out.2 (Or.inl rfl); have := HL9.out; omega⟩
                obtain ⟨hb1, hb1'⟩ := hb1
                obtain ⟨hb2, hb2'⟩ := hb2
                go_upto_region 32 with fail
                refine wp_region_late (fun W => W.cell? ⟨SB, 0, none⟩ = some (.int .i64 0) ∧ W.cell? ⟨SB, 2, none⟩ = some (.int .i64 sl) ∧ W.cell? ⟨HB, 0, none⟩ = some (.int .i64 h0)) [10] (.yes 0 (.yes 1 (.yes 2 (.yes 3 (.yes 4 (.yes 5 (.yes 6 (.yes 7 (.yes 8 (.yes 9 (.one 10 .nil))))))))))) (by kernel_rfl) (by kernel_rfl) (by kernel_rfl) (by kernel_rfl) ⟨c0, c2, ch⟩ ?_
                have RN := Lib.hid R9.out.drew
                clear c0 c2 ch R9
                generalize wS.drew = wT at *
                (repeat (refine wpSchL_yes (v := ?_) rfl (fun _ _ _ h => h) (by rfl) ?_ ?_; rotate_left; (next => (intro w hSw; (try dsimp only at hSw); obtain ⟨hS0, hS1, hS2⟩ := hSw; go_simp; (try with_reducible rfl))); (try simp only [Act.put, List.setIfInBounds_toArray, List.set_cons_zero, List.set_cons_succ])))
                have hwr : IntKind.i64.wrap (h0 + sl) = h0 + sl := by rw [IntKind.wrap_i64]; omega
                simp only [hwr]
                clear hwr
                have ch : wT.cell? ⟨HB, 0, none⟩ = some (.int .i64 h0) := Whole.cell RN.out.get3 0
                have fh : wT.frozen? ⟨HB, 0, none⟩ = false := Whole.free (show Whole wT HB 58 _ from RN.out.get3) 0
                have RO := Lib.hid (RN.out.step3 (t' := blkT HB 58 #[.int .i64 (h0 + sl), .int .i64 h1]) (Whole.put (show Whole wT HB 58 _ from RN.out.get3) 0 (.int .i64 (h0 + sl))) ((Keep.refl (fun k => k = HB) wT).setCell (p := ⟨HB, 0, none⟩) (.inl rfl) _) (fun k e => .inl e))
                clear RN
                refine wpSchL_one (wpOneL_call rfl (by rfl) (fun K hK => ?_))
                go_simp
                refine hK.out _ _ (fun h => absurd h (by decide)) (fun hHeld => ?_)
                clear hK K hHeld ch fh hb1 hb2 hb1' hb2'
                generalize World.setCell wT _ _ = wU at *
                refine wpSchL_nil ?_
                (try simp only [Act.put, List.setIfInBounds_toArray, List.set_cons_zero, List.set_cons_succ])
                have HRZ : Hid (Run y p (h0 + sl) h1 L m0 m1) := Lib.hid HRY.out
                have HFZ : Hid (Fair y p (h0 + sl) h1 L) := Lib.hid HFY.out
                have HHZ : Hid ((0 ≤ h0 + sl ∧ h0 + sl ≤ 9000 * (j + 1)) ∧ (0 ≤ h1 ∧ h1 ≤ 9000 * (j + 1))) := Lib.hid (by have := HH.out; have := HL9.out; have := HSL.out.1; have := HSL.out.2 (Or.inl rfl); omega)
                have RV := Lib.hid (RO.out.less (M := [fqT g own9 y, blkT PB 58 #[.int .i64 u0, .int .i64 u1], blkT HB 58 #[.int .i64 (h0 + sl), .int .i64 h1], confT w.heap.size p]) ((List.Sublist.refl _).cons _ |>.cons_cons _))
                clear RO HRY HFY HH HSL
                obtain ⟨h0, hh⟩ : ∃ z, z = h0 + sl := ⟨_, rfl⟩
                rw [← hh] at HRZ HFZ HHZ RV
                clear hh
                have c0 : wU.cell? ⟨HB, 0, none⟩ = some (.int .i64 h0) := Whole.cell RV.out.get2 0
                have c1 : wU.cell? ⟨HB, 1, none⟩ = some (.int .i64 h1) := Whole.cell RV.out.get2 1
                have cq : wU.cell? ⟨w.heap.size, 0, none⟩ = some (.int .i64 p.q) := Whole.cell RV.out.get3 0
                have cf : wU.cell? ⟨w.heap.size, 1, none⟩ = some (.int .i64 p.f) := Whole.cell RV.out.get3 1
                have hb : (0 ≤ h0 ∧ h0 ≤ 3600000) ∧ (0 ≤ h1 ∧ h1 ≤ 3600000) := by have := HHZ.out; have := HJ.out; omega
                obtain ⟨⟨hb0, hb0'⟩, hb1, hb1'⟩ := hb
                go_upto_region 34 with fail
                clear c0 c1 hb0 hb0' hb1 hb1'
                obtain ⟨F, hF⟩ : ∃ F, ((if h0 < h1 then h1 else h0) - if h1 < h0 then h1 else h0) = F := ⟨_, rfl⟩
                rw [hF]
                have hFF : F ≤ p.q + max p.q p.f + L := by
                  rw [← hF]
                  have := HFZ.out.near (by have := HP.out.hq; omega)
                  split <;> split <;> omega
                have hF0 : 0 ≤ F := by rw [← hF]; split <;> split <;> omega
                have hF1 : F ≤ 3600000 := by rw [← hF]; have := HHZ.out; have := HJ.out; split <;> split <;> omega
                clear hF
                have hq1 := HP.out.hq.1; have hq2 := HP.out.hq.2; have hf1 := HP.out.hf.1; have hf2 := HP.out.hf.2
                have hL0 := HRZ.out.L0; have hL1 := HL9.out
                by_cases hqf : p.q < p.f
                · have hcmp : ¬ p.q + 2 * p.f + 2 * L < F := by omega
                  clear hFF
                  go_wp2
                  go_roundw
                  case rel => exact ⟨j + 1, L, h0, h1, u0, u1, own9, y, m0, m1, rfl, by go_num, by have := HJN.out; omega, HRZ.out, HL9.out, by have := HHZ.out; omega, by have := HHZ.out; omega, by have := HU.out; omega, by have := HU.out; omega, RV.out⟩
                  case measure => simp [intOf]; have := HJ.out; omega
                · have hcmp : ¬ p.q + 2 * p.q + 2 * L < F := by omega
                  clear hFF
                  go_wp2
                  go_roundw
                  case rel => exact ⟨j + 1, L, h0, h1, u0, u1, own9, y, m0, m1, rfl, by go_num, by have := HJN.out; omega, HRZ.out, HL9.out, by have := HHZ.out; omega, by have := HHZ.out; omega, by have := HU.out; omega, by have := HU.out; omega, RV.out⟩
                  case measure => simp [intOf]; have := HJ.out; omega
              · clear hs1
                have c0 : wS.cell? ⟨SB, 0, none⟩ = some (.int .i64 1) := Whole.cell R9.out.get1 0
                have c2 : wS.cell? ⟨SB, 2, none⟩ = some (.int .i64 sl) := Whole.cell R9.out.get1 2
                have ch : wS.cell? ⟨HB, 1, none⟩ = some (.int .i64 h1) := Whole.cell R9.out.get3 1
                have hb1 : 0 ≤ h1 ∧ h1 ≤ 3600000 := by have := HH.out; have := HJ.out; omega
                have hb2 : 1 ≤ sl ∧ sl ≤ 9000 := ⟨HSL.out.1, by have := HSL.out.2 (Or.inr rfl); have := HL9.out; omega⟩
                obtain ⟨hb1, hb1'⟩ := hb1
                obtain ⟨hb2, hb2'⟩ := hb2
                go_upto_region 32 with fail
                refine wp_region_late (fun W => W.cell? ⟨SB, 0, none⟩ = some (.int .i64 1) ∧ W.cell? ⟨SB, 2, none⟩ = some (.int .i64 sl) ∧ W.cell? ⟨HB, 1, none⟩ = some (.int .i64 h1)) [10] (.yes 0 (.yes 1 (.yes 2 (.yes 3 (.yes 4 (.yes 5 (.yes 6 (.yes 7 (.yes 8 (.yes 9 (.one 10 .nil))))))))))) (by kernel_rfl) (by kernel_rfl) (by kernel_rfl) (by kernel_rfl) ⟨c0, c2, ch⟩ ?_
                have RN := Lib.hid R9.out.drew
                clear c0 c2 ch R9
                generalize wS.drew = wT at *
                (repeat (refine wpSchL_yes (v := ?_) rfl (fun _ _ _ h => h) (by rfl) ?_ ?_; rotate_left; (next => (intro w hSw; (try dsimp only at hSw); obtain ⟨hS0, hS1, hS2⟩ := hSw; go_simp; (try with_reducible rfl))); (try simp only [Act.put, List.setIfInBounds_toArray, List.set_cons_zero, List.set_cons_succ])))
                have hwr : IntKind.i64.wrap (h1 + sl) = h1 + sl := by rw [IntKind.wrap_i64]; omega
                simp only [hwr]
                clear hwr
                have ch : wT.cell? ⟨HB, 1, none⟩ = some (.int .i64 h1) := Whole.cell RN.out.get3 1
                have fh : wT.frozen? ⟨HB, 1, none⟩ = false := Whole.free (show Whole wT HB 58 _ from RN.out.get3) 1
                have RO := Lib.hid (RN.out.step3 (t' := blkT HB 58 #[.int .i64 h0, .int .i64 (h1 + sl)]) (Whole.put (show Whole wT HB 58 _ from RN.out.get3) 1 (.int .i64 (h1 + sl))) ((Keep.refl (fun k => k = HB) wT).setCell (p := ⟨HB, 1, none⟩) (.inl rfl) _) (fun k e => .inl e))
                clear RN
                refine wpSchL_one (wpOneL_call rfl (by rfl) (fun K hK => ?_))
                go_simp
                refine hK.out _ _ (fun h => absurd h (by decide)) (fun hHeld => ?_)
                clear hK K hHeld ch fh hb1 hb2 hb1' hb2'
                generalize World.setCell wT _ _ = wU at *
                refine wpSchL_nil ?_
                (try simp only [Act.put, List.setIfInBounds_toArray, List.set_cons_zero, List.set_cons_succ])
                have HRZ : Hid (Run y p h0 (h1 + sl) L m0 m1) := Lib.hid HRY.out
                have HFZ : Hid (Fair y p h0 (h1 + sl) L) := Lib.hid HFY.out
                have HHZ : Hid ((0 ≤ h0 ∧ h0 ≤ 9000 * (j + 1)) ∧ (0 ≤ h1 + sl ∧ h1 + sl ≤ 9000 * (j + 1))) := Lib.hid (by have := HH.out; have := HL9.out; have := HSL.out.1; have := HSL.out.2 (Or.inr rfl); omega)
                have RV := Lib.hid (RO.out.less (M := [fqT g own9 y, blkT PB 58 #[.int .i64 u0, .int .i64 u1], blkT HB 58 #[.int .i64 h0, .int .i64 (h1 + sl)], confT w.heap.size p]) ((List.Sublist.refl _).cons _ |>.cons_cons _))
                clear RO HRY HFY HH HSL
                obtain ⟨h1, hh⟩ : ∃ z, z = h1 + sl := ⟨_, rfl⟩
                rw [← hh] at HRZ HFZ HHZ RV
                clear hh
                have c0 : wU.cell? ⟨HB, 0, none⟩ = some (.int .i64 h0) := Whole.cell RV.out.get2 0
                have c1 : wU.cell? ⟨HB, 1, none⟩ = some (.int .i64 h1) := Whole.cell RV.out.get2 1
                have cq : wU.cell? ⟨w.heap.size, 0, none⟩ = some (.int .i64 p.q) := Whole.cell RV.out.get3 0
                have cf : wU.cell? ⟨w.heap.size, 1, none⟩ = some (.int .i64 p.f) := Whole.cell RV.out.get3 1
                have hb : (0 ≤ h0 ∧ h0 ≤ 3600000) ∧ (0 ≤ h1 ∧ h1 ≤ 3600000) := by have := HHZ.out; have := HJ.out; omega
                obtain ⟨⟨hb0, hb0'⟩, hb1, hb1'⟩ := hb
                go_upto_region 34 with fail
                clear c0 c1 hb0 hb0' hb1 hb1'
                obtain ⟨F, hF⟩ : ∃ F, ((if h0 < h1 then h1 else h0) - if h1 < h0 then h1 else h0) = F := ⟨_, rfl⟩
                rw [hF]
                have hFF : F ≤ p.q + max p.q p.f + L := by
                  rw [← hF]
                  have := HFZ.out.near (by have := HP.out.hq; omega)
                  split <;> split <;> omega
                have hF0 : 0 ≤ F := by rw [← hF]; split <;> split <;> omega
                have hF1 : F ≤ 3600000 := by rw [← hF]; have := HHZ.out; have := HJ.out; split <;> split <;> omega
                clear hF
                have hq1 := HP.out.hq.1; have hq2 := HP.out.hq.2; have hf1 := HP.out.hf.1; have hf2 := HP.out.hf.2
                have hL0 := HRZ.out.L0; have hL1 := HL9.out
                by_cases hqf : p.q < p.f
                · have hcmp : ¬ p.q + 2 * p.f + 2 * L < F := by omega
                  clear hFF
                  go_wp2
                  go_roundw
                  case rel => exact ⟨j + 1, L, h0, h1, u0, u1, own9, y, m0, m1, rfl, by go_num, by have := HJN.out; omega, HRZ.out, HL9.out, by have := HHZ.out; omega, by have := HHZ.out; omega, by have := HU.out; omega, by have := HU.out; omega, RV.out⟩
                  case measure => simp [intOf]; have := HJ.out; omega
                · have hcmp : ¬ p.q + 2 * p.q + 2 * L < F := by omega
                  clear hFF
                  go_wp2
                  go_roundw
                  case rel => exact ⟨j + 1, L, h0, h1, u0, u1, own9, y, m0, m1, rfl, by go_num, by have := HJN.out; omega, HRZ.out, HL9.out, by have := HHZ.out; omega, by have := HHZ.out; omega, by have := HU.out; omega, by have := HU.out; omega, RV.out⟩
                  case measure => simp [intOf]; have := HJ.out; omega
              · have c0 : wS.cell? ⟨SB, 0, none⟩ = some (.int .i64 ss) := Whole.cell R9.out.get1 0
                have HRZ : Hid (Run y p h0 h1 L m0 m1) := Lib.hid (by
                  have h := HRY.out
                  unfold hadQ at h
                  rw [if_neg (by dsimp only; omega), if_neg (by dsimp only; omega)] at h
                  exact h)
                have HFZ : Hid (Fair y p h0 h1 L) := Lib.hid (by
                  have h := HFY.out
                  unfold hadQ at h
                  rw [if_neg (by dsimp only; omega), if_neg (by dsimp only; omega)] at h
                  exact h)
                have HHZ : Hid ((0 ≤ h0 ∧ h0 ≤ 9000 * ((j : Int) + 1)) ∧ (0 ≤ h1 ∧ h1 ≤ 9000 * ((j : Int) + 1))) := Lib.hid (by have := HH.out; omega)
                go_upto_region 33 with fail
                have RV := Lib.hid (R9.out.less (M := [fqT g own9 y, blkT PB 58 #[.int .i64 u0, .int .i64 u1], blkT HB 58 #[.int .i64 h0, .int .i64 h1], confT w.heap.size p]) ((List.Sublist.refl _).cons _ |>.cons_cons _))
                clear R9 c0 HRY HFY HH HSL hs1 hs2
                generalize wS = wU at *
                have c0 : wU.cell? ⟨HB, 0, none⟩ = some (.int .i64 h0) := Whole.cell RV.out.get2 0
                have c1 : wU.cell? ⟨HB, 1, none⟩ = some (.int .i64 h1) := Whole.cell RV.out.get2 1
                have cq : wU.cell? ⟨w.heap.size, 0, none⟩ = some (.int .i64 p.q) := Whole.cell RV.out.get3 0
                have cf : wU.cell? ⟨w.heap.size, 1, none⟩ = some (.int .i64 p.f) := Whole.cell RV.out.get3 1
                have hb : (0 ≤ h0 ∧ h0 ≤ 3600000) ∧ (0 ≤ h1 ∧ h1 ≤ 3600000) := by have := HHZ.out; have := HJ.out; omega
                obtain ⟨⟨hb0, hb0'⟩, hb1, hb1'⟩ := hb
                go_upto_region 34 with fail
                clear c0 c1 hb0 hb0' hb1 hb1'
                obtain ⟨F, hF⟩ : ∃ F, ((if h0 < h1 then h1 else h0) - if h1 < h0 then h1 else h0) = F := ⟨_, rfl⟩
                rw [hF]
                have hFF : F ≤ p.q + max p.q p.f + L := by
                  rw [← hF]
                  have := HFZ.out.near (by have := HP.out.hq; omega)
                  split <;> split <;> omega
                have hF0 : 0 ≤ F := by rw [← hF]; split <;> split <;> omega
                have hF1 : F ≤ 3600000 := by rw [← hF]; have := HHZ.out; have := HJ.out; split <;> split <;> omega
                clear hF
                have hq1 := HP.out.hq.1; have hq2 := HP.out.hq.2; have hf1 := HP.out.hf.1; have hf2 := HP.out.hf.2
                have hL0 := HRZ.out.L0; have hL1 := HL9.out
                by_cases hqf : p.q < p.f
                · have hcmp : ¬ p.q + 2 * p.f + 2 * L < F := by omega
                  clear hFF
                  go_wp2
                  go_roundw
                  case rel => exact ⟨j + 1, L, h0, h1, u0, u1, own9, y, m0, m1, rfl, by go_num, by have := HJN.out; omega, HRZ.out, HL9.out, by have := HHZ.out; omega, by have := HHZ.out; omega, by have := HU.out; omega, by have := HU.out; omega, RV.out⟩
                  case measure => simp [intOf]; have := HJ.out; omega
                · have hcmp : ¬ p.q + 2 * p.q + 2 * L < F := by omega
                  clear hFF
                  go_wp2
                  go_roundw
                  case rel => exact ⟨j + 1, L, h0, h1, u0, u1, own9, y, m0, m1, rfl, by go_num, by have := HJN.out; omega, HRZ.out, HL9.out, by have := HHZ.out; omega, by have := HHZ.out; omega, by have := HU.out; omega, by have := HU.out; omega, RV.out⟩
                  case measure => simp [intOf]; have := HJ.out; omega
            · skip
              have hxo : x.Ok := FQ.ok (show FQ wr g own' x from R.out.get0)
              obtain ⟨y, so, hys⟩ : ∃ y so, deqQ (dlyQ [] x.c.r) x 0 = (y, so) := ⟨_, _, rfl⟩
              have HYS := Lib.hid hys
              have hpl := HRN.out.pull hxo HPR.out hys
              obtain ⟨s9, rfl, hs1, hs2, hs3, hF, m0, m1, hrn2⟩ := hpl
              obtain ⟨ss, sf, sl, st, sa⟩ := s9
              dsimp only at hs1 hs2 hs3
              have HFY := Lib.hid hF; have HRY := Lib.hid hrn2; have HSL := Lib.hid (And.intro hs2 hs3)
              clear hxo hys hF hrn2 hs2 hs3
              go_wp2_with fail
              refine (R.out.fqdeq0 0 zu HYS.out).mono ?_
              rintro e w8 ⟨rfl, own9, hr9⟩
              have R9 := Lib.hid (hr9.box1 34 #[.int .i64 ss, .int .u64 sf, .int .i64 sl, .int .u64 st, .bool sa])
              clear hr9 R HYS HRN
              dsimp only [Option.getD, Option.isSome, Sg.v]
              go_upto_region 31 with fail
              generalize hSB : w8.heap.size = SB at *
              generalize World.alloc w8 _ = wS at *
              clear hSB
              have hs3 : ss = 0 ∨ ss = 1 ∨ 2 ≤ ss := by omega
              rcases hs3 with rfl | rfl | hs2
              · clear hs1
                have c0 : wS.cell? ⟨SB, 0, none⟩ = some (.int .i64 0) := Whole.cell R9.out.get1 0
                have c2 : wS.cell? ⟨SB, 2, none⟩ = some (.int .i64 sl) := Whole.cell R9.out.get1 2
                have ch : wS.cell? ⟨HB, 0, none⟩ = some (.int .i64 h0) := Whole.cell R9.out.get3 0
                have hb1 : 0 ≤ h0 ∧ h0 ≤ 3600000 := by have := HH.out; have := HJ.out; omega
                have hb2 : 1 ≤ sl ∧ sl ≤ 9000 := ⟨HSL.out.1, by have := HSL.out.2 (Or.inl rfl); have := HL9.out; omega⟩
                obtain ⟨hb1, hb1'⟩ := hb1
                obtain ⟨hb2, hb2'⟩ := hb2
                go_upto_region 32 with fail
                refine wp_region_late (fun W => W.cell? ⟨SB, 0, none⟩ = some (.int .i64 0) ∧ W.cell? ⟨SB, 2, none⟩ = some (.int .i64 sl) ∧ W.cell? ⟨HB, 0, none⟩ = some (.int .i64 h0)) [10] (.yes 0 (.yes 1 (.yes 2 (.yes 3 (.yes 4 (.yes 5 (.yes 6 (.yes 7 (.yes 8 (.yes 9 (.one 10 .nil))))))))))) (by kernel_rfl) (by kernel_rfl) (by kernel_rfl) (by kernel_rfl) ⟨c0, c2, ch⟩ ?_
                have RN := Lib.hid R9.out.drew
                clear c0 c2 ch R9
                generalize wS.drew = wT at *
                (repeat (refine wpSchL_yes (v := ?_) rfl (fun _ _ _ h => h) (by rfl) ?_ ?_; rotate_left; (next => (intro w hSw; (try dsimp only at hSw); obtain ⟨hS0, hS1, hS2⟩ := hSw; go_simp; (try with_reducible rfl))); (try simp only [Act.put, List.setIfInBounds_toArray, List.set_cons_zero, List.set_cons_succ])))
                have hwr : IntKind.i64.wrap (h0 + sl) = h0 + sl := by rw [IntKind.wrap_i64]; omega
                simp only [hwr]
                clear hwr
                have ch : wT.cell? ⟨HB, 0, none⟩ = some (.int .i64 h0) := Whole.cell RN.out.get3 0
                have fh : wT.frozen? ⟨HB, 0, none⟩ = false := Whole.free (show Whole wT HB 58 _ from RN.out.get3) 0
                have RO := Lib.hid (RN.out.step3 (t' := blkT HB 58 #[.int .i64 (h0 + sl), .int .i64 h1]) (Whole.put (show Whole wT HB 58 _ from RN.out.get3) 0 (.int .i64 (h0 + sl))) ((Keep.refl (fun k => k = HB) wT).setCell (p := ⟨HB, 0, none⟩) (.inl rfl) _) (fun k e => .inl e))
                clear RN
                refine wpSchL_one (wpOneL_call rfl (by rfl) (fun K hK => ?_))
                go_simp
                refine hK.out _ _ (fun h => absurd h (by decide)) (fun hHeld => ?_)
                clear hK K hHeld ch fh hb1 hb2 hb1' hb2'
                generalize World.setCell wT _ _ = wU at *
                refine wpSchL_nil ?_
                (try simp only [Act.put, List.setIfInBounds_toArray, List.set_cons_zero, List.set_cons_succ])
                have HRZ : Hid (Run y p (h0 + sl) h1 L m0 m1) := Lib.hid HRY.out
                have HFZ : Hid (Fair y p (h0 + sl) h1 L) := Lib.hid HFY.out
                have HHZ : Hid ((0 ≤ h0 + sl ∧ h0 + sl ≤ 9000 * (j + 1)) ∧ (0 ≤ h1 ∧ h1 ≤ 9000 * (j + 1))) := Lib.hid (by have := HH.out; have := HL9.out; have := HSL.out.1; have := HSL.out.2 (Or.inl rfl); omega)
                have RV := Lib.hid (RO.out.less (M := [fqT g own9 y, blkT PB 58 #[.int .i64 u0, .int .i64 u1], blkT HB 58 #[.int .i64 (h0 + sl), .int .i64 h1], confT w.heap.size p]) ((List.Sublist.refl _).cons _ |>.cons_cons _))
                clear RO HRY HFY HH HSL
                obtain ⟨h0, hh⟩ : ∃ z, z = h0 + sl := ⟨_, rfl⟩
                rw [← hh] at HRZ HFZ HHZ RV
                clear hh
                have c0 : wU.cell? ⟨HB, 0, none⟩ = some (.int .i64 h0) := Whole.cell RV.out.get2 0
                have c1 : wU.cell? ⟨HB, 1, none⟩ = some (.int .i64 h1) := Whole.cell RV.out.get2 1
                have cq : wU.cell? ⟨w.heap.size, 0, none⟩ = some (.int .i64 p.q) := Whole.cell RV.out.get3 0
                have cf : wU.cell? ⟨w.heap.size, 1, none⟩ = some (.int .i64 p.f) := Whole.cell RV.out.get3 1
                have hb : (0 ≤ h0 ∧ h0 ≤ 3600000) ∧ (0 ≤ h1 ∧ h1 ≤ 3600000) := by have := HHZ.out; have := HJ.out; omega
                obtain ⟨⟨hb0, hb0'⟩, hb1, hb1'⟩ := hb
                go_upto_region 34 with fail
                clear c0 c1 hb0 hb0' hb1 hb1'
                obtain ⟨F, hF⟩ : ∃ F, ((if h0 < h1 then h1 else h0) - if h1 < h0 then h1 else h0) = F := ⟨_, rfl⟩
                rw [hF]
                have hFF : F ≤ p.q + max p.q p.f + L := by
                  rw [← hF]
                  have := HFZ.out.near (by have := HP.out.hq; omega)
                  split <;> split <;> omega
                have hF0 : 0 ≤ F := by rw [← hF]; split <;> split <;> omega
                have hF1 : F ≤ 3600000 := by rw [← hF]; have := HHZ.out; have := HJ.out; split <;> split <;> omega
                clear hF
                have hq1 := HP.out.hq.1; have hq2 := HP.out.hq.2; have hf1 := HP.out.hf.1; have hf2 := HP.out.hf.2
                have hL0 := HRZ.out.L0; have hL1 := HL9.out
                by_cases hqf : p.q < p.f
                · have hcmp : ¬ p.q + 2 * p.f + 2 * L < F := by omega
                  clear hFF
                  go_wp2
                  go_roundw
                  case rel => exact ⟨j + 1, L, h0, h1, u0, u1, own9, y, m0, m1, rfl, by go_num, by have := HJN.out; omega, HRZ.out, HL9.out, by have := HHZ.out; omega, by have := HHZ.out; omega, by have := HU.out; omega, by have := HU.out; omega, RV.out⟩
                  case measure => simp [intOf]; have := HJ.out; omega
                · have hcmp : ¬ p.q + 2 * p.q + 2 * L < F := by omega
                  clear hFF
                  go_wp2
                  go_roundw
                  case rel => exact ⟨j + 1, L, h0, h1, u0, u1, own9, y, m0, m1, rfl, by go_num, by have := HJN.out; omega, HRZ.out, HL9.out, by have := HHZ.out; omega, by have := HHZ.out; omega, by have := HU.out; omega, by have := HU.out; omega, RV.out⟩
                  case measure => simp [intOf]; have := HJ.out; omega
              · clear hs1
                have c0 : wS.cell? ⟨SB, 0, none⟩ = some (.int .i64 1) := Whole.cell R9.out.get1 0
                have c2 : wS.cell? ⟨SB, 2, none⟩ = some (.int .i64 sl) := Whole.cell R9.out.get1 2
                have ch : wS.cell? ⟨HB, 1, none⟩ = some (.int .i64 h1) := Whole.cell R9.out.get3 1
                have hb1 : 0 ≤ h1 ∧ h1 ≤ 3600000 := by have := HH.out; have := HJ.out; omega
                have hb2 : 1 ≤ sl ∧ sl ≤ 9000 := ⟨HSL.out.1, by have := HSL.out.2 (Or.inr rfl); have := HL9.out; omega⟩
                obtain ⟨hb1, hb1'⟩ := hb1
                obtain ⟨hb2, hb2'⟩ := hb2
                go_upto_region 32 with fail
                refine wp_region_late (fun W => W.cell? ⟨SB, 0, none⟩ = some (.int .i64 1) ∧ W.cell? ⟨SB, 2, none⟩ = some (.int .i64 sl) ∧ W.cell? ⟨HB, 1, none⟩ = some (.int .i64 h1)) [10] (.yes 0 (.yes 1 (.yes 2 (.yes 3 (.yes 4 (.yes 5 (.yes 6 (.yes 7 (.yes 8 (.yes 9 (.one 10 .nil))))))))))) (by kernel_rfl) (by kernel_rfl) (by kernel_rfl) (by kernel_rfl) ⟨c0, c2, ch⟩ ?_
                have RN := Lib.hid R9.out.drew
                clear c0 c2 ch R9
                generalize wS.drew = wT at *
                (repeat (refine wpSchL_yes (v := ?_) rfl (fun _ _ _ h => h) (by rfl) ?_ ?_; rotate_left; (next => (intro w hSw; (try dsimp only at hSw); obtain ⟨hS0, hS1, hS2⟩ := hSw; go_simp; (try with_reducible rfl))); (try simp only [Act.put, List.setIfInBounds_toArray, List.set_cons_zero, List.set_cons_succ])))
                have hwr : IntKind.i64.wrap (h1 + sl) = h1 + sl := by rw [IntKind.wrap_i64]; omega
                simp only [hwr]
                clear hwr
                have ch : wT.cell? ⟨HB, 1, none⟩ = some (.int .i64 h1) := Whole.cell RN.out.get3 1
                have fh : wT.frozen? ⟨HB, 1, none⟩ = false := Whole.free (show Whole wT HB 58 _ from RN.out.get3) 1
                have RO := Lib.hid (RN.out.step3 (t' := blkT HB 58 #[.int .i64 h0, .int .i64 (h1 + sl)]) (Whole.put (show Whole wT HB 58 _ from RN.out.get3) 1 (.int .i64 (h1 + sl))) ((Keep.refl (fun k => k = HB) wT).setCell (p := ⟨HB, 1, none⟩) (.inl rfl) _) (fun k e => .inl e))
                clear RN
                refine wpSchL_one (wpOneL_call rfl (by rfl) (fun K hK => ?_))
                go_simp
                refine hK.out _ _ (fun h => absurd h (by decide)) (fun hHeld => ?_)
                clear hK K hHeld ch fh hb1 hb2 hb1' hb2'
                generalize World.setCell wT _ _ = wU at *
                refine wpSchL_nil ?_
                (try simp only [Act.put, List.setIfInBounds_toArray, List.set_cons_zero, List.set_cons_succ])
                have HRZ : Hid (Run y p h0 (h1 + sl) L m0 m1) := Lib.hid HRY.out
                have HFZ : Hid (Fair y p h0 (h1 + sl) L) := Lib.hid HFY.out
                have HHZ : Hid ((0 ≤ h0 ∧ h0 ≤ 9000 * (j + 1)) ∧ (0 ≤ h1 + sl ∧ h1 + sl ≤ 9000 * (j + 1))) := Lib.hid (by have := HH.out; have := HL9.out; have := HSL.out.1; have := HSL.out.2 (Or.inr rfl); omega)
                have RV := Lib.hid (RO.out.less (M := [fqT g own9 y, blkT PB 58 #[.int .i64 u0, .int .i64 u1], blkT HB 58 #[.int .i64 h0, .int .i64 (h1 + sl)], confT w.heap.size p]) ((List.Sublist.refl _).cons _ |>.cons_cons _))
                clear RO HRY HFY HH HSL
                obtain ⟨h1, hh⟩ : ∃ z, z = h1 + sl := ⟨_, rfl⟩
                rw [← hh] at HRZ HFZ HHZ RV
                clear hh
                have c0 : wU.cell? ⟨HB, 0, none⟩ = some (.int .i64 h0) := Whole.cell RV.out.get2 0
                have c1 : wU.cell? ⟨HB, 1, none⟩ = some (.int .i64 h1) := Whole.cell RV.out.get2 1
                have cq : wU.cell? ⟨w.heap.size, 0, none⟩ = some (.int .i64 p.q) := Whole.cell RV.out.get3 0
                have cf : wU.cell? ⟨w.heap.size, 1, none⟩ = some (.int .i64 p.f) := Whole.cell RV.out.get3 1
                have hb : (0 ≤ h0 ∧ h0 ≤ 3600000) ∧ (0 ≤ h1 ∧ h1 ≤ 3600000) := by have := HHZ.out; have := HJ.out; omega
                obtain ⟨⟨hb0, hb0'⟩, hb1, hb1'⟩ := hb
                go_upto_region 34 with fail
                clear c0 c1 hb0 hb0' hb1 hb1'
                obtain ⟨F, hF⟩ : ∃ F, ((if h0 < h1 then h1 else h0) - if h1 < h0 then h1 else h0) = F := ⟨_, rfl⟩
                rw [hF]
                have hFF : F ≤ p.q + max p.q p.f + L := by
                  rw [← hF]
                  have := HFZ.out.near (by have := HP.out.hq; omega)
                  split <;> split <;> omega
                have hF0 : 0 ≤ F := by rw [← hF]; split <;> split <;> omega
                have hF1 : F ≤ 3600000 := by rw [← hF]; have := HHZ.out; have := HJ.out; split <;> split <;> omega
                clear hF
                have hq1 := HP.out.hq.1; have hq2 := HP.out.hq.2; have hf1 := HP.out.hf.1; have hf2 := HP.out.hf.2
                have hL0 := HRZ.out.L0; have hL1 := HL9.out
                by_cases hqf : p.q < p.f
                · have hcmp : ¬ p.q + 2 * p.f + 2 * L < F := by omega
                  clear hFF
                  go_wp2
                  go_roundw
                  case rel => exact ⟨j + 1, L, h0, h1, u0, u1, own9, y, m0, m1, rfl, by go_num, by have := HJN.out; omega, HRZ.out, HL9.out, by have := HHZ.out; omega, by have := HHZ.out; omega, by have := HU.out; omega, by have := HU.out; omega, RV.out⟩
                  case measure => simp [intOf]; have := HJ.out; omega
                · have hcmp : ¬ p.q + 2 * p.q + 2 * L < F := by omega
                  clear hFF
                  go_wp2
                  go_roundw
                  case rel => exact ⟨j + 1, L, h0, h1, u0, u1, own9, y, m0, m1, rfl, by go_num, by have := HJN.out; omega, HRZ.out, HL9.out, by have := HHZ.out; omega, by have := HHZ.out; omega, by have := HU.out; omega, by have := HU.out; omega, RV.out⟩
                  case measure => simp [intOf]; have := HJ.out; omega
              · have c0 : wS.cell? ⟨SB, 0, none⟩ = some (.int .i64 ss) := Whole.cell R9.out.get1 0
                have HRZ : Hid (Run y p h0 h1 L m0 m1) := Lib.hid (by
                  have h := HRY.out
                  unfold hadQ at h
                  rw [if_neg (by dsimp only; omega), if_neg (by dsimp only; omega)] at h
                  exact h)
                have HFZ : Hid (Fair y p h0 h1 L) := Lib.hid (by
                  have h := HFY.out
                  unfold hadQ at h
                  rw [if_neg (by dsimp only; omega), if_neg (by dsimp only; omega)] at h
                  exact h)
                have HHZ : Hid ((0 ≤ h0 ∧ h0 ≤ 9000 * ((j : Int) + 1)) ∧ (0 ≤ h1 ∧ h1 ≤ 9000 * ((j : Int) + 1))) := Lib.hid (by have := HH.out; omega)
                go_upto_region 33 with fail
                have RV := Lib.hid (R9.out.less (M := [fqT g own9 y, blkT PB 58 #[.int .i64 u0, .int .i64 u1], blkT HB 58 #[.int .i64 h0, .int .i64 h1], confT w.heap.size p]) ((List.Sublist.refl _).cons _ |>.cons_cons _))
                clear R9 c0 HRY HFY HH HSL hs1 hs2
                generalize wS = wU at *
                have c0 : wU.cell? ⟨HB, 0, none⟩ = some (.int .i64 h0) := Whole.cell RV.out.get2 0
                have c1 : wU.cell? ⟨HB, 1, none⟩ = some (.int .i64 h1) := Whole.cell RV.out.get2 1
                have cq : wU.cell? ⟨w.heap.size, 0, none⟩ = some (.int .i64 p.q) := Whole.cell RV.out.get3 0
                have cf : wU.cell? ⟨w.heap.size, 1, none⟩ = some (.int .i64 p.f) := Whole.cell RV.out.get3 1
                have hb : (0 ≤ h0 ∧ h0 ≤ 3600000) ∧ (0 ≤ h1 ∧ h1 ≤ 3600000) := by have := HHZ.out; have := HJ.out; omega
                obtain ⟨⟨hb0, hb0'⟩, hb1, hb1'⟩ := hb
                go_upto_region 34 with fail
                clear c0 c1 hb0 hb0' hb1 hb1'
                obtain ⟨F, hF⟩ : ∃ F, ((if h0 < h1 then h1 else h0) - if h1 < h0 then h1 else h0) = F := ⟨_, rfl⟩
                rw [hF]
                have hFF : F ≤ p.q + max p.q p.f + L := by
                  rw [← hF]
                  have := HFZ.out.near (by have := HP.out.hq; omega)
                  split <;> split <;> omega
                have hF0 : 0 ≤ F := by rw [← hF]; split <;> split <;> omega
                have hF1 : F ≤ 3600000 := by rw [← hF]; have := HHZ.out; have := HJ.out; split <;> split <;> omega
                clear hF
                have hq1 := HP.out.hq.1; have hq2 := HP.out.hq.2; have hf1 := HP.out.hf.1; have hf2 := HP.out.hf.2
                have hL0 := HRZ.out.L0; have hL1 := HL9.out
                by_cases hqf : p.q < p.f
                · have hcmp : ¬ p.q + 2 * p.f + 2 * L < F := by omega
                  clear hFF
                  go_wp2
                  go_roundw
                  case rel => exact ⟨j + 1, L, h0, h1, u0, u1, own9, y, m0, m1, rfl, by go_num, by have := HJN.out; omega, HRZ.out, HL9.out, by have := HHZ.out; omega, by have := HHZ.out; omega, by have := HU.out; omega, by have := HU.out; omega, RV.out⟩
                  case measure => simp [intOf]; have := HJ.out; omega
                · have hcmp : ¬ p.q + 2 * p.q + 2 * L < F := by omega
                  clear hFF
                  go_wp2
                  go_roundw
                  case rel => exact ⟨j + 1, L, h0, h1, u0, u1, own9, y, m0, m1, rfl, by go_num, by have := HJN.out; omega, HRZ.out, HL9.out, by have := HHZ.out; omega, by have := HHZ.out; omega, by have := HU.out; omega, by have := HU.out; omega, RV.out⟩
                  case measure => simp [intOf]; have := HJ.out; omega
    · have hp1 := HP1.out.1
      have hlt' : ¬ (j : Int) < wrap64 N := by rw [HP1.out.2]; exact hlt
      clear hlt
      go_wp2
      go_ret
      exact ⟨rfl, R.out.bel⟩
end Go.Proofs.Ytnljjdfajmjdjaa
