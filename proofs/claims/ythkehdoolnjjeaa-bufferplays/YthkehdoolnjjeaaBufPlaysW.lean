/-
  canterlaw21.BufferPlays, walked. Conditions: the list lies in memory as slices do.
-/
import Derived.Test.YthkehdoolnjjeaaRefBuf
import Derived.Test.YthkehdoolnjjeaaOpenBu
namespace Go.Proofs.Ythkehdoolnjjeaa
open Go.RowKit
set_option maxRecDepth 100000
set_option linter.unusedSimpArgs false
set_option linter.unusedVariables false

section
variable {wB w : World} {L : List Thing} {a : Thing} {g gx : Nat} {n : Int} {x y : Bst}
theorem Room.nthu {wB w : World} {L : List Thing} (h : Room wB w L) (i : Nat) {t : Thing} (e : L[i]? = some t) : t.at_ w := h.all t (List.mem_of_getElem? e)
theorem rb_cells (h : Room wB w (a :: rbufT g n x :: L)) : w.cell? ⟨g, 1, none⟩ = some (.int .u64 x.b) ∧ w.cell? ⟨g, 2, none⟩ = some (.int .u64 x.t) ∧ w.cell? ⟨g, 3, none⟩ = some (.int .u64 x.w) :=
  have h1 := (show RBufAt w g n x from h.get1).whole
  ⟨h1.cell 1, h1.cell 2, h1.cell 3⟩
theorem Room.rbacked1 (h : Room wB w (a :: rbufT g n x :: L)) (u : Int) (hu : 0 ≤ u) {v : Int} (ev : akE x u = v) (ex : akX x u = y) :
    Calls Try.prog 12 #[.pointer (some ⟨g, 0, none⟩), .int .u64 u] w fun e w' => e = .returned (.int .i64 v) ∧ Room wB w' (a :: rbufT g n y :: L) := by
  have := rbacked_any (show RBufAt w g n x from h.get1) u hu
  rw [ev, ex] at this
  exact this.mono fun _ _ ⟨he, h1, k1⟩ => ⟨he, h.step1 (t' := rbufT g n y) h1 k1 own_same⟩
theorem Room.rbwrite1 (h : Room wB w (a :: rbufT g n x :: L)) (m : Int) (hm : m ≤ 9223372036854775807) (hb : x.w + 1073741824 ≤ 9223372036854775807) {v : Int} (ev : wrE x m = v) (ex : wrX x m = y) :
    Calls Try.prog 14 #[.pointer (some ⟨g, 0, none⟩), .int .i64 m] w fun e w' => e = .returned (.int .i64 v) ∧ Room wB w' (a :: rbufT g n y :: L) := by
  have := rbwrite_any (show RBufAt w g n x from h.get1) m hm hb
  rw [ev, ex] at this
  exact this.mono fun _ _ ⟨he, h1, k1⟩ => ⟨he, h.step1 (t' := rbufT g n y) h1 k1 own_same⟩
theorem Room.rbtake1 (h : Room wB w (a :: rbufT g n x :: L)) (m : Int) (hm : m ≤ 9223372036854775807) {f u : Int} {b : Bool} (eb : tkB x m = b) (ef : tkF x m = f) (et : tkT x m = u) (ex : tkX x m = y) :
    Calls Try.prog 10 #[.pointer (some ⟨g, 0, none⟩), .int .i64 m] w fun e w' => e = .returned (.tuple #[.agg #[.int .u64 f, .int .u64 u], .bool b]) ∧ Room wB w' (a :: rbufT g n y :: L) := by
  have := rbtake_any (show RBufAt w g n x from h.get1) m hm
  rw [eb, ef, et, ex] at this
  exact this.mono fun _ _ ⟨he, h1, k1⟩ => ⟨he, h.step1 (t' := rbufT g n y) h1 k1 own_same⟩
end
set_option maxHeartbeats 8000000 in
theorem plays_walk (a0 : Int) (a : Option Addr) (cap : Nat) (zs : List WOp) (w : World) (hzl : zs.length ≤ 9223372036854775807) (hrd : RdL 3 cellsW w a zs) :
    Calls Try.prog 3 #[.int .i64 a0, .slice a zs.length cap] w fun e w' => e = .returned (.bool true) ∧ Below w.heap.size w w' := by
  have HZL := Lib.hid hzl; have HRD := Lib.hid hrd
  clear hzl hrd
  go_enter Try.func3, Try.ntmps3
  go_wp2_with fail
  refine ((Room.begin w).bunew a0).mono ?_
  rintro e w1 ⟨rfl, hr⟩
  have hr2 := hr.box1 28 #[.int .i64 a0, .int .u64 0, .int .u64 0, .int .u64 0]
  have R1 := Lib.hid (hr2.step1 (t' := rbufT w1.heap.size a0 (newB a0)) ⟨hr2.get1, newB_ok a0, rfl⟩ (Keep.refl _ _) (fun k e => .inl e))
  clear hr hr2
  go_upto_region 2 with fail
  generalize w.heap.size = gx at *
  generalize w1.heap.size = gr at *
  generalize World.alloc w1 _ = w2 at *
  go_wp2_with fail
  refine R1.out.awakeu.mono ?_
  rintro e w3 ⟨rfl, hr⟩
  have R5 := Lib.hid hr; clear hr R1
  go_upto_region 5 with fail
  go_loopw [7] (fun iv wR => ∃ (j : Nat) (x : Bst), j ≤ zs.length ∧ j ≤ 100 ∧ iv = .int .i64 j ∧ x.w ≤ 1073741824 * j ∧ Room w wR [bufT gx x, rbufT gr a0 x]) (fun iv _ => 100 - (intOf iv).toNat)
  case atStart => exact ⟨0, newB a0, by omega, by omega, rfl, Int.le_refl 0, R5.out⟩
  case round =>
    obtain ⟨j, x, hj1, hj2, rfl, hxw, hr⟩ := hrel
    have R := Lib.hid hr
    have HXW := Lib.hid hxw
    clear hr R5 hxw
    by_cases hlt : j < zs.length ∧ j < 100
    · have hi1 : (j : Int) < (zs.length : Int) := by omega
      have hi2 : (j : Int) < 100 := by omega
      obtain ⟨o, ho⟩ : ∃ o, zs[j]? = some o := ⟨_, List.getElem?_eq_getElem hlt.1⟩
      obtain ⟨b, off, ea, hbl, hcl⟩ := (HRD.out.below R.out.bel) j o ho
      subst ea
      have b0 : wr.cell? ⟨b, off + j * 3, none⟩ = some (.int .i64 o.k) := hcl 0 _ rfl
      have b1 : wr.cell? ⟨b, off + j * 3 + 1, none⟩ = some (.int .i64 o.n) := hcl 1 _ rfl
      have b2 : wr.cell? ⟨b, off + j * 3 + 2, none⟩ = some (.int .u64 o.u) := hcl 2 _ rfl
      have HWB : Hid (x.w + 1073741824 ≤ 9223372036854775807) := Lib.hid (by have := HXW.out; omega)
      have R1 := Lib.hid (R.out.box2 31 #[.int .i64 o.k, .int .i64 o.n, .int .u64 o.u])
      clear hcl hlt
      go_upto_region 8 with fail
      generalize hob : wr.heap.size = ob at *
      generalize World.alloc wr _ = w1 at *
      clear b0 b1 b2 hob hbl R
      have d0 : w1.cell? ⟨ob, 0, none⟩ = some (.int .i64 o.k) := Whole.cell R1.out.get2 0
      have d1 : w1.cell? ⟨ob, 1, none⟩ = some (.int .i64 o.n) := Whole.cell R1.out.get2 1
      have d2 : w1.cell? ⟨ob, 2, none⟩ = some (.int .u64 o.u) := Whole.cell R1.out.get2 2
      have hk : (o.k == 1) = true ∨ ((o.k == 1) = false ∧ (o.k == 2) = true) ∨ ((o.k == 1) = false ∧ (o.k == 2) = false) := by
        cases (o.k == 1) <;> cases (o.k == 2) <;> simp
      rcases hk with h1 | ⟨h1, h2⟩ | ⟨h1, h2⟩
      · obtain ⟨y, hy⟩ : ∃ y, tkX x o.n = y := ⟨_, rfl⟩
        obtain ⟨bb, hbb⟩ : ∃ bb, tkB x o.n = bb := ⟨_, rfl⟩
        obtain ⟨ff, hff⟩ : ∃ ff, tkF x o.n = ff := ⟨_, rfl⟩
        obtain ⟨uu, huu⟩ : ∃ uu, tkT x o.n = uu := ⟨_, rfl⟩
        have HY := Lib.hid hy; have HT := Lib.hid (And.intro hbb (And.intro hff huu))
        have HYW : Hid (y.w ≤ 1073741824 * ((j : Int) + 1)) := Lib.hid (by rw [← hy]; have := HXW.out; show x.w ≤ _; omega)
        clear hy hbb hff huu
        go_wp2_with fail
        refine (R1.out.butake o.n o.hn (b := bb) (f := ff) (u := uu) HT.out.1 HT.out.2.1 HT.out.2.2 HY.out).mono ?_
        rintro e w2 ⟨rfl, hr⟩
        have RA := Lib.hid (hr.box3 33 #[.int .u64 ff, .int .u64 uu]); clear hr R1 d0 d2
        go_upto_region 13 with fail
        generalize hXB : w2.heap.size = XB at *
        generalize World.alloc w2 _ = w3 at *
        clear hXB d1
        have d1 : w3.cell? ⟨ob, 1, none⟩ = some (.int .i64 o.n) := Whole.cell RA.out.get2 1
        go_wp2_with fail
        refine (RA.out.rbtake1 o.n o.hn (b := bb) (f := ff) (u := uu) HT.out.1 HT.out.2.1 HT.out.2.2 HY.out).mono ?_
        rintro e w4 ⟨rfl, hr⟩
        have RB := Lib.hid (hr.box3 33 #[.int .u64 ff, .int .u64 uu]); clear hr RA d1
        go_upto_region 14 with fail
        generalize hYB : w4.heap.size = YB at *
        generalize World.alloc w4 _ = w5 at *
        clear hYB
        have y0 : w5.cell? ⟨YB, 0, none⟩ = some (.int .u64 ff) := Whole.cell RB.out.get3 0
        have y1 : w5.cell? ⟨YB, 1, none⟩ = some (.int .u64 uu) := Whole.cell RB.out.get3 1
        have x0 : w5.cell? ⟨XB, 0, none⟩ = some (.int .u64 ff) := Whole.cell (RB.out.nthu 4 (t := blkT XB 33 #[.int .u64 ff, .int .u64 uu]) rfl) 0
        have x1 : w5.cell? ⟨XB, 1, none⟩ = some (.int .u64 uu) := Whole.cell (RB.out.nthu 4 (t := blkT XB 33 #[.int .u64 ff, .int .u64 uu]) rfl) 1
        have e1 : (ff == ff) = true := by simp
        have e2 : (uu == uu) = true := by simp
        have e3 : (bb == bb) = true := by simp
        have R2 := Lib.hid (RB.out.less (M := [bufT gx y, rbufT gr a0 y]) (by simp))
        clear RB
        generalize w5 = wr2 at *
        have hyo := (show BufAt wr2 gx y from R2.out.get0).ok
        have hb0 := hyo.b0; have hb1 := hyo.bt; have hb2 := hyo.tw; have hb3 := hyo.hi
        have HYO := Lib.hid hyo
        have wd1 : IntKind.u64.wrap (y.w - y.t) = y.w - y.t := by rw [IntKind.wrap_u64]; omega
        have wd2 : IntKind.u64.wrap (y.w - y.b) = y.w - y.b := by rw [IntKind.wrap_u64]; omega
        have ne1 : (y.w - y.t != y.w - y.t) = false := by simp
        have ne2 : (y.w - y.b != y.w - y.b) = false := by simp
        have ne3 : (y.w != y.w) = false := by simp
        clear hyo
        go_upto_region 17 with fail
        refine wp_region_sch (fun W => W.cell? ⟨gr, 1, none⟩ = some (.int .u64 y.b) ∧ W.cell? ⟨gr, 2, none⟩ = some (.int .u64 y.t) ∧ W.cell? ⟨gr, 3, none⟩ = some (.int .u64 y.w)) [(true, 0), (true, 1), (true, 2), (true, 3), (true, 5), (true, 6), (true, 7), (true, 8), (true, 9), (true, 10), (true, 11), (true, 12), (true, 13), (false, 4), (true, 14), (true, 15), (true, 16), (true, 17), (true, 19), (true, 20), (true, 21), (true, 22), (true, 23), (true, 24), (true, 25), (true, 26), (true, 27), (false, 18), (true, 28), (true, 29), (true, 30), (true, 31), (true, 33), (true, 34), (true, 35), (true, 36), (false, 32), (true, 37), (true, 38)] (by kernel_rfl) (by kernel_rfl) (by kernel_rfl) (by kernel_rfl) (rb_cells R2.out.drew) ?_
        have R3 := Lib.hid R2.out.drew
        clear R2
        generalize wr2.drew = w3 at *
        (repeat (refine wpSch_yes (v := ?_) rfl (fun _ _ _ h => h) (by rfl) ?_ ?_; rotate_left; (next => (intro w hSw; (try dsimp only at hSw); obtain ⟨hS1, hS2, hS3⟩ := hSw; go_simp; (try with_reducible rfl))); (try simp only [Act.put, List.setIfInBounds_toArray, List.set_cons_zero, List.set_cons_succ])))
        try simp only [wd1]
        refine wpSch_call rfl (by rfl) (fun K' hK' => ?_); go_simp
        refine (R3.out.buunsent (v := y.w - y.t) rfl).mono ?_
        rintro e w4 ⟨rfl, hr⟩
        have R4 := Lib.hid hr; clear hr R3
        refine hK'.out _ _ (rb_cells R4.out) (fun hHeld => ?_)
        clear hK' K' hHeld
        (try simp only [Act.put, List.setIfInBounds_toArray, List.set_cons_zero, List.set_cons_succ])
        (repeat (refine wpSch_yes (v := ?_) rfl (fun _ _ _ h => h) (by rfl) ?_ ?_; rotate_left; (next => (intro w hSw; (try dsimp only at hSw); obtain ⟨hS1, hS2, hS3⟩ := hSw; go_simp; (try with_reducible rfl))); (try simp only [Act.put, List.setIfInBounds_toArray, List.set_cons_zero, List.set_cons_succ])))
        try simp only [wd2]
        refine wpSch_call rfl (by rfl) (fun K' hK' => ?_); go_simp
        refine (R4.out.buheld (v := y.w - y.b) rfl).mono ?_
        rintro e w5 ⟨rfl, hr⟩
        have R5 := Lib.hid hr; clear hr R4
        refine hK'.out _ _ (rb_cells R5.out) (fun hHeld => ?_)
        clear hK' K' hHeld
        (try simp only [Act.put, List.setIfInBounds_toArray, List.set_cons_zero, List.set_cons_succ])
        (repeat (refine wpSch_yes (v := ?_) rfl (fun _ _ _ h => h) (by rfl) ?_ ?_; rotate_left; (next => (intro w hSw; (try dsimp only at hSw); obtain ⟨hS1, hS2, hS3⟩ := hSw; go_simp; (try with_reducible rfl))); (try simp only [Act.put, List.setIfInBounds_toArray, List.set_cons_zero, List.set_cons_succ])))
        refine wpSch_call rfl (by rfl) (fun K' hK' => ?_); go_simp
        refine (R5.out.buwritten (v := y.w) rfl).mono ?_
        rintro e w6 ⟨rfl, rfl⟩
        refine hK'.out _ _ (rb_cells R5.out) (fun hHeld => ?_)
        clear hK' K' hHeld
        (try simp only [Act.put, List.setIfInBounds_toArray, List.set_cons_zero, List.set_cons_succ])
        (repeat (refine wpSch_yes (v := ?_) rfl (fun _ _ _ h => h) (by rfl) ?_ ?_; rotate_left; (next => (intro w hSw; (try dsimp only at hSw); obtain ⟨hS1, hS2, hS3⟩ := hSw; go_simp; (try with_reducible rfl))); (try simp only [Act.put, List.setIfInBounds_toArray, List.set_cons_zero, List.set_cons_succ])))
        refine wpSch_nil ?_
        go_wp2
        go_roundw
        case rel => exact ⟨j + 1, y, by omega, by omega, by go_num, by have := HYW.out; omega, R5.out⟩
        case measure => simp [intOf]; omega
      · obtain ⟨y, hy⟩ : ∃ y, akX x o.u = y := ⟨_, rfl⟩
        obtain ⟨V, hV⟩ : ∃ V, akE x o.u = V := ⟨_, rfl⟩
        have HY := Lib.hid hy; have HV := Lib.hid hV
        have HYW : Hid (y.w ≤ 1073741824 * ((j : Int) + 1)) := Lib.hid (by
          rw [← hy]; have := HXW.out
          have e : (akX x o.u).w = x.w := by unfold akX; split <;> rfl
          omega)
        clear hy hV
        go_upto_region 16 with fail
        refine wp_region_sch (fun W => W.cell? ⟨ob, 2, none⟩ = some (.int .u64 o.u)) [(true, 0), (true, 1), (true, 2), (true, 4), (true, 5), (true, 6), (false, 3), (false, 7), (true, 8), (true, 9)] (by kernel_rfl) (by kernel_rfl) (by kernel_rfl) (by kernel_rfl) (Whole.cell R1.out.get2 2) ?_
        have RA := Lib.hid R1.out.drew
        clear R1 d0 d1 d2
        generalize w1.drew = w2 at *
        (repeat (refine wpSch_yes (v := ?_) rfl (fun _ _ _ h => h) (by rfl) ?_ ?_; rotate_left; (next => (intro w hSw; (try dsimp only at hSw); (have hS1 := hSw); go_simp; (try with_reducible rfl))); (try simp only [Act.put, List.setIfInBounds_toArray, List.set_cons_zero, List.set_cons_succ])))
        refine wpSch_call rfl (by rfl) (fun K' hK' => ?_); go_simp
        refine (RA.out.buacked o.u o.hu.1 (v := V) HV.out HY.out).mono ?_
        rintro e w3 ⟨rfl, hr⟩
        have RB := Lib.hid hr; clear hr RA
        refine hK'.out _ _ (Whole.cell RB.out.get2 2) (fun hHeld => ?_)
        clear hK' K' hHeld
        (try simp only [Act.put, List.setIfInBounds_toArray, List.set_cons_zero, List.set_cons_succ])
        (repeat (refine wpSch_yes (v := ?_) rfl (fun _ _ _ h => h) (by rfl) ?_ ?_; rotate_left; (next => (intro w hSw; (try dsimp only at hSw); (have hS1 := hSw); go_simp; (try with_reducible rfl))); (try simp only [Act.put, List.setIfInBounds_toArray, List.set_cons_zero, List.set_cons_succ])))
        refine wpSch_call rfl (by rfl) (fun K' hK' => ?_); go_simp
        refine (RB.out.rbacked1 o.u o.hu.1 (v := V) HV.out HY.out).mono ?_
        rintro e w4 ⟨rfl, hr⟩
        have RC := Lib.hid hr; clear hr RB
        refine hK'.out _ _ (Whole.cell RC.out.get2 2) (fun hHeld => ?_)
        clear hK' K' hHeld
        (try simp only [Act.put, List.setIfInBounds_toArray, List.set_cons_zero, List.set_cons_succ])
        have hvv : (V == V) = true := by simp
        (repeat (refine wpSch_yes (v := ?_) rfl (fun _ _ _ h => h) (by rfl) ?_ ?_; rotate_left; (next => (intro w hSw; (try dsimp only at hSw); (have hS1 := hSw); go_simp; (try with_reducible rfl))); (try simp only [Act.put, List.setIfInBounds_toArray, List.set_cons_zero, List.set_cons_succ])))
        refine wpSch_nil ?_
        have R2 := Lib.hid (RC.out.less (M := [bufT gx y, rbufT gr a0 y]) (by simp))
        clear RC hvv
        generalize w4 = wr2 at *
        have hyo := (show BufAt wr2 gx y from R2.out.get0).ok
        have hb0 := hyo.b0; have hb1 := hyo.bt; have hb2 := hyo.tw; have hb3 := hyo.hi
        have HYO := Lib.hid hyo
        have wd1 : IntKind.u64.wrap (y.w - y.t) = y.w - y.t := by rw [IntKind.wrap_u64]; omega
        have wd2 : IntKind.u64.wrap (y.w - y.b) = y.w - y.b := by rw [IntKind.wrap_u64]; omega
        have ne1 : (y.w - y.t != y.w - y.t) = false := by simp
        have ne2 : (y.w - y.b != y.w - y.b) = false := by simp
        have ne3 : (y.w != y.w) = false := by simp
        clear hyo
        go_upto_region 17 with fail
        refine wp_region_sch (fun W => W.cell? ⟨gr, 1, none⟩ = some (.int .u64 y.b) ∧ W.cell? ⟨gr, 2, none⟩ = some (.int .u64 y.t) ∧ W.cell? ⟨gr, 3, none⟩ = some (.int .u64 y.w)) [(true, 0), (true, 1), (true, 2), (true, 3), (true, 5), (true, 6), (true, 7), (true, 8), (true, 9), (true, 10), (true, 11), (true, 12), (true, 13), (false, 4), (true, 14), (true, 15), (true, 16), (true, 17), (true, 19), (true, 20), (true, 21), (true, 22), (true, 23), (true, 24), (true, 25), (true, 26), (true, 27), (false, 18), (true, 28), (true, 29), (true, 30), (true, 31), (true, 33), (true, 34), (true, 35), (true, 36), (false, 32), (true, 37), (true, 38)] (by kernel_rfl) (by kernel_rfl) (by kernel_rfl) (by kernel_rfl) (rb_cells R2.out.drew) ?_
        have R3 := Lib.hid R2.out.drew
        clear R2
        generalize wr2.drew = w3 at *
        (repeat (refine wpSch_yes (v := ?_) rfl (fun _ _ _ h => h) (by rfl) ?_ ?_; rotate_left; (next => (intro w hSw; (try dsimp only at hSw); obtain ⟨hS1, hS2, hS3⟩ := hSw; go_simp; (try with_reducible rfl))); (try simp only [Act.put, List.setIfInBounds_toArray, List.set_cons_zero, List.set_cons_succ])))
        try simp only [wd1]
        refine wpSch_call rfl (by rfl) (fun K' hK' => ?_); go_simp
        refine (R3.out.buunsent (v := y.w - y.t) rfl).mono ?_
        rintro e w4 ⟨rfl, hr⟩
        have R4 := Lib.hid hr; clear hr R3
        refine hK'.out _ _ (rb_cells R4.out) (fun hHeld => ?_)
        clear hK' K' hHeld
        (try simp only [Act.put, List.setIfInBounds_toArray, List.set_cons_zero, List.set_cons_succ])
        (repeat (refine wpSch_yes (v := ?_) rfl (fun _ _ _ h => h) (by rfl) ?_ ?_; rotate_left; (next => (intro w hSw; (try dsimp only at hSw); obtain ⟨hS1, hS2, hS3⟩ := hSw; go_simp; (try with_reducible rfl))); (try simp only [Act.put, List.setIfInBounds_toArray, List.set_cons_zero, List.set_cons_succ])))
        try simp only [wd2]
        refine wpSch_call rfl (by rfl) (fun K' hK' => ?_); go_simp
        refine (R4.out.buheld (v := y.w - y.b) rfl).mono ?_
        rintro e w5 ⟨rfl, hr⟩
        have R5 := Lib.hid hr; clear hr R4
        refine hK'.out _ _ (rb_cells R5.out) (fun hHeld => ?_)
        clear hK' K' hHeld
        (try simp only [Act.put, List.setIfInBounds_toArray, List.set_cons_zero, List.set_cons_succ])
        (repeat (refine wpSch_yes (v := ?_) rfl (fun _ _ _ h => h) (by rfl) ?_ ?_; rotate_left; (next => (intro w hSw; (try dsimp only at hSw); obtain ⟨hS1, hS2, hS3⟩ := hSw; go_simp; (try with_reducible rfl))); (try simp only [Act.put, List.setIfInBounds_toArray, List.set_cons_zero, List.set_cons_succ])))
        refine wpSch_call rfl (by rfl) (fun K' hK' => ?_); go_simp
        refine (R5.out.buwritten (v := y.w) rfl).mono ?_
        rintro e w6 ⟨rfl, rfl⟩
        refine hK'.out _ _ (rb_cells R5.out) (fun hHeld => ?_)
        clear hK' K' hHeld
        (try simp only [Act.put, List.setIfInBounds_toArray, List.set_cons_zero, List.set_cons_succ])
        (repeat (refine wpSch_yes (v := ?_) rfl (fun _ _ _ h => h) (by rfl) ?_ ?_; rotate_left; (next => (intro w hSw; (try dsimp only at hSw); obtain ⟨hS1, hS2, hS3⟩ := hSw; go_simp; (try with_reducible rfl))); (try simp only [Act.put, List.setIfInBounds_toArray, List.set_cons_zero, List.set_cons_succ])))
        refine wpSch_nil ?_
        go_wp2
        go_roundw
        case rel => exact ⟨j + 1, y, by omega, by omega, by go_num, by have := HYW.out; omega, R5.out⟩
        case measure => simp [intOf]; omega
      · obtain ⟨y, hy⟩ : ∃ y, wrX x o.n = y := ⟨_, rfl⟩
        obtain ⟨V, hV⟩ : ∃ V, wrE x o.n = V := ⟨_, rfl⟩
        have HY := Lib.hid hy; have HV := Lib.hid hV
        have hxo : x.Ok := (show BufAt w1 gx x from R1.out.get0).ok
        have HYW : Hid (y.w ≤ 1073741824 * ((j : Int) + 1)) := Lib.hid (by
          rw [← hy]; have := HXW.out
          have := wrX_w x o.n hxo
          omega)
        clear hy hV hxo
        go_upto_region 10 with fail
        refine wp_region_sch (fun W => W.cell? ⟨ob, 1, none⟩ = some (.int .i64 o.n)) [(true, 0), (true, 1), (true, 2), (true, 4), (true, 5), (true, 6), (false, 3), (false, 7), (true, 8), (true, 9)] (by kernel_rfl) (by kernel_rfl) (by kernel_rfl) (by kernel_rfl) (Whole.cell R1.out.get2 1) ?_
        have RA := Lib.hid R1.out.drew
        clear R1 d0 d1 d2
        generalize w1.drew = w2 at *
        (repeat (refine wpSch_yes (v := ?_) rfl (fun _ _ _ h => h) (by rfl) ?_ ?_; rotate_left; (next => (intro w hSw; (try dsimp only at hSw); (have hS1 := hSw); go_simp; (try with_reducible rfl))); (try simp only [Act.put, List.setIfInBounds_toArray, List.set_cons_zero, List.set_cons_succ])))
        refine wpSch_call rfl (by rfl) (fun K' hK' => ?_); go_simp
        refine (RA.out.buwrite o.n o.hn HWB.out (v := V) HV.out HY.out).mono ?_
        rintro e w3 ⟨rfl, hr⟩
        have RB := Lib.hid hr; clear hr RA
        refine hK'.out _ _ (Whole.cell RB.out.get2 1) (fun hHeld => ?_)
        clear hK' K' hHeld
        (try simp only [Act.put, List.setIfInBounds_toArray, List.set_cons_zero, List.set_cons_succ])
        (repeat (refine wpSch_yes (v := ?_) rfl (fun _ _ _ h => h) (by rfl) ?_ ?_; rotate_left; (next => (intro w hSw; (try dsimp only at hSw); (have hS1 := hSw); go_simp; (try with_reducible rfl))); (try simp only [Act.put, List.setIfInBounds_toArray, List.set_cons_zero, List.set_cons_succ])))
        refine wpSch_call rfl (by rfl) (fun K' hK' => ?_); go_simp
        refine (RB.out.rbwrite1 o.n o.hn HWB.out (v := V) HV.out HY.out).mono ?_
        rintro e w4 ⟨rfl, hr⟩
        have RC := Lib.hid hr; clear hr RB
        refine hK'.out _ _ (Whole.cell RC.out.get2 1) (fun hHeld => ?_)
        clear hK' K' hHeld
        (try simp only [Act.put, List.setIfInBounds_toArray, List.set_cons_zero, List.set_cons_succ])
        have hvv : (V == V) = true := by simp
        (repeat (refine wpSch_yes (v := ?_) rfl (fun _ _ _ h => h) (by rfl) ?_ ?_; rotate_left; (next => (intro w hSw; (try dsimp only at hSw); (have hS1 := hSw); go_simp; (try with_reducible rfl))); (try simp only [Act.put, List.setIfInBounds_toArray, List.set_cons_zero, List.set_cons_succ])))
        refine wpSch_nil ?_
        have R2 := Lib.hid (RC.out.less (M := [bufT gx y, rbufT gr a0 y]) (by simp))
        clear RC hvv
        generalize w4 = wr2 at *
        have hyo := (show BufAt wr2 gx y from R2.out.get0).ok
        have hb0 := hyo.b0; have hb1 := hyo.bt; have hb2 := hyo.tw; have hb3 := hyo.hi
        have HYO := Lib.hid hyo
        have wd1 : IntKind.u64.wrap (y.w - y.t) = y.w - y.t := by rw [IntKind.wrap_u64]; omega
        have wd2 : IntKind.u64.wrap (y.w - y.b) = y.w - y.b := by rw [IntKind.wrap_u64]; omega
        have ne1 : (y.w - y.t != y.w - y.t) = false := by simp
        have ne2 : (y.w - y.b != y.w - y.b) = false := by simp
        have ne3 : (y.w != y.w) = false := by simp
        clear hyo
        go_upto_region 17 with fail
        refine wp_region_sch (fun W => W.cell? ⟨gr, 1, none⟩ = some (.int .u64 y.b) ∧ W.cell? ⟨gr, 2, none⟩ = some (.int .u64 y.t) ∧ W.cell? ⟨gr, 3, none⟩ = some (.int .u64 y.w)) [(true, 0), (true, 1), (true, 2), (true, 3), (true, 5), (true, 6), (true, 7), (true, 8), (true, 9), (true, 10), (true, 11), (true, 12), (true, 13), (false, 4), (true, 14), (true, 15), (true, 16), (true, 17), (true, 19), (true, 20), (true, 21), (true, 22), (true, 23), (true, 24), (true, 25), (true, 26), (true, 27), (false, 18), (true, 28), (true, 29), (true, 30), (true, 31), (true, 33), (true, 34), (true, 35), (true, 36), (false, 32), (true, 37), (true, 38)] (by kernel_rfl) (by kernel_rfl) (by kernel_rfl) (by kernel_rfl) (rb_cells R2.out.drew) ?_
        have R3 := Lib.hid R2.out.drew
        clear R2
        generalize wr2.drew = w3 at *
        (repeat (refine wpSch_yes (v := ?_) rfl (fun _ _ _ h => h) (by rfl) ?_ ?_; rotate_left; (next => (intro w hSw; (try dsimp only at hSw); obtain ⟨hS1, hS2, hS3⟩ := hSw; go_simp; (try with_reducible rfl))); (try simp only [Act.put, List.setIfInBounds_toArray, List.set_cons_zero, List.set_cons_succ])))
        try simp only [wd1]
        refine wpSch_call rfl (by rfl) (fun K' hK' => ?_); go_simp
        refine (R3.out.buunsent (v := y.w - y.t) rfl).mono ?_
        rintro e w4 ⟨rfl, hr⟩
        have R4 := Lib.hid hr; clear hr R3
        refine hK'.out _ _ (rb_cells R4.out) (fun hHeld => ?_)
        clear hK' K' hHeld
        (try simp only [Act.put, List.setIfInBounds_toArray, List.set_cons_zero, List.set_cons_succ])
        (repeat (refine wpSch_yes (v := ?_) rfl (fun _ _ _ h => h) (by rfl) ?_ ?_; rotate_left; (next => (intro w hSw; (try dsimp only at hSw); obtain ⟨hS1, hS2, hS3⟩ := hSw; go_simp; (try with_reducible rfl))); (try simp only [Act.put, List.setIfInBounds_toArray, List.set_cons_zero, List.set_cons_succ])))
        try simp only [wd2]
        refine wpSch_call rfl (by rfl) (fun K' hK' => ?_); go_simp
        refine (R4.out.buheld (v := y.w - y.b) rfl).mono ?_
        rintro e w5 ⟨rfl, hr⟩
        have R5 := Lib.hid hr; clear hr R4
        refine hK'.out _ _ (rb_cells R5.out) (fun hHeld => ?_)
        clear hK' K' hHeld
        (try simp only [Act.put, List.setIfInBounds_toArray, List.set_cons_zero, List.set_cons_succ])
        (repeat (refine wpSch_yes (v := ?_) rfl (fun _ _ _ h => h) (by rfl) ?_ ?_; rotate_left; (next => (intro w hSw; (try dsimp only at hSw); obtain ⟨hS1, hS2, hS3⟩ := hSw; go_simp; (try with_reducible rfl))); (try simp only [Act.put, List.setIfInBounds_toArray, List.set_cons_zero, List.set_cons_succ])))
        refine wpSch_call rfl (by rfl) (fun K' hK' => ?_); go_simp
        refine (R5.out.buwritten (v := y.w) rfl).mono ?_
        rintro e w6 ⟨rfl, rfl⟩
        refine hK'.out _ _ (rb_cells R5.out) (fun hHeld => ?_)
        clear hK' K' hHeld
        (try simp only [Act.put, List.setIfInBounds_toArray, List.set_cons_zero, List.set_cons_succ])
        (repeat (refine wpSch_yes (v := ?_) rfl (fun _ _ _ h => h) (by rfl) ?_ ?_; rotate_left; (next => (intro w hSw; (try dsimp only at hSw); obtain ⟨hS1, hS2, hS3⟩ := hSw; go_simp; (try with_reducible rfl))); (try simp only [Act.put, List.setIfInBounds_toArray, List.set_cons_zero, List.set_cons_succ])))
        refine wpSch_nil ?_
        go_wp2
        go_roundw
        case rel => exact ⟨j + 1, y, by omega, by omega, by go_num, by have := HYW.out; omega, R5.out⟩
        case measure => simp [intOf]; omega
    · have hlt2 : ¬ (j : Int) < (zs.length : Int) ∨ ((j : Int) < (zs.length : Int) ∧ ¬ (j : Int) < 100) := by omega
      clear hlt
      rcases hlt2 with h | ⟨h, h2⟩
      · go_wp2
        go_ret
        exact ⟨rfl, R.out.bel⟩
      · go_wp2
        go_ret
        exact ⟨rfl, R.out.bel⟩
end Go.Proofs.Ythkehdoolnjjeaa
