/-
  The calls of package rbtree that only read: least, next, height, find. Conditions: the tree lies in memory.
-/
import Derived.Test.YtfbbmpmgceghfaaRbOrder
import Derived.Deep.LoopGhost
import Derived.Laws.BitsLemmas
namespace Go.Proofs.Ytfbbmpmgceghfaa
open Go.RowKit
set_option maxRecDepth 100000

theorem Tr.lo {w : World} {g b cap n tp : Nat} {pa : Value} {m : Nat → Nd} (t : Tr w g b cap pa n tp m) {i : Nat} (hi : i < n) : w.cell? ⟨b, i * 6 + 3, none⟩ = some (.int .i64 ((m i).lo : Int)) := t.cell hi (by decide)
theorem Tr.hi {w : World} {g b cap n tp : Nat} {pa : Value} {m : Nat → Nd} (t : Tr w g b cap pa n tp m) {i : Nat} (hi : i < n) : w.cell? ⟨b, i * 6 + 4, none⟩ = some (.int .i64 ((m i).hi : Int)) := t.cell hi (by decide)
theorem Tr.upc {w : World} {g b cap n tp : Nat} {pa : Value} {m : Nat → Nd} (t : Tr w g b cap pa n tp m) {i : Nat} (hi : i < n) : w.cell? ⟨b, i * 6 + 2, none⟩ = some (.int .i64 ((m i).up : Int)) := t.cell hi (by decide)
theorem Tr.red {w : World} {g b cap n tp : Nat} {pa : Value} {m : Nat → Nd} (t : Tr w g b cap pa n tp m) {i : Nat} (hi : i < n) : w.cell? ⟨b, i * 6 + 5, none⟩ = some (.bool (m i).red) := t.cell hi (by decide)
theorem Tr.ka {w : World} {g b cap n tp : Nat} {pa : Value} {m : Nat → Nd} (t : Tr w g b cap pa n tp m) {i : Nat} (hi : i < n) : w.cell? ⟨b, i * 6, none⟩ = some (.int .u64 (m i).k.a) := t.cell hi (j := 0) (by decide)
theorem Tr.kb {w : World} {g b cap n tp : Nat} {pa : Value} {m : Nat → Nd} (t : Tr w g b cap pa n tp m) {i : Nat} (hi : i < n) : w.cell? ⟨b, i * 6 + 1, none⟩ = some (.int .u64 (m i).k.b) := t.cell hi (by decide)

theorem bit_true' : bit true = 1 := rfl
theorem bit_false' : bit false = 0 := rfl
section
variable {g b cap n tp : Nat} {pa : Value} {m : Nat → Nd} {z : Z} {t : T} {L : List (Nat × Key)}
theorem Rep.node {i : Nat} {k : Key} {c : Bool} {l r : T} (h : Rep m n tp z (.nd i k c l r) L) : m i = ⟨k, z.par, l.root, r.root, c⟩ ∧ 0 < i ∧ i < n ∧ l.root < n ∧ r.root < n ∧ z.par < n := by
  have hp := h.posT (i := i) (by simp [T.its])
  have hn : 0 < n := by omega
  exact ⟨h.sub.1, hp.1, hp.2, (Rep.down (s := false) (x := l) (y := r) h).rootLt hn, (Rep.down (s := true) (x := r) (y := l) h).rootLt hn, h.parLt hn⟩

set_option maxHeartbeats 400000 in
set_option maxRecDepth 100000 in
theorem least_any (w : World) (tr : Tr w g b cap pa n tp m) (hr : Rep m n tp z t L) :
    Calls Try.prog 33 #[.pointer (some ⟨g, 0, none⟩), .int .i64 (t.root : Int)] w fun e w' => e = .returned (.int .i64 (hd t.its : Int)) ∧ w' = w := by
  obtain ⟨hc1, hc2⟩ := tr.capB
  have TT := Lib.hid tr; have HR := Lib.hid hr; clear tr hr
  go_enter Try.func33, Try.ntmps33
  go_wp2
  go_loopg [1] t.height (fun j a wr => ∃ (t' : T) (z' : Z), a = .int .i64 (t'.root : Int) ∧ Rep m n tp z' t' L ∧ hd t'.its = hd t.its ∧ t'.height ≤ j ∧ wr = w)
  case atStart => exact ⟨t, z, rfl, HR.out, rfl, Nat.le_refl _, rfl⟩
  case round =>
    obtain ⟨t', z', rfl, hr', he, hh, rfl⟩ := hrel
    clear HR
    cases t' with
    | nil =>
      have HE : Hid (((hd t.its : Nat) : Int) = 0) := Lib.hid (by rw [← he]; rfl)
      clear hr' he TT
      simp only [T.root]
      go_wp2
      go_ret
      exact ⟨ret_i HE.out.symm, rfl⟩
    | nd i k c l r =>
      obtain ⟨hm, hi0, hin, hl, hrr, _⟩ := hr'.node
      have c1 := TT.out.st.cell 1
      have cl := TT.out.lo hin; rw [hm] at cl
      have hi' : ((i : Int) == 0) = false := by rw [beq_eq_false_iff_ne]; omega
      have hin' : (i : Int) < (n : Int) := by omega
      dsimp only at cl
      have HR := Lib.hid (Rep.down (s := false) (x := l) (y := r) hr')
      clear TT hm hr'
      cases l with
      | nil =>
        have HE : Hid (((hd t.its : Nat) : Int) = i) := Lib.hid (by rw [← he]; rfl)
        simp only [T.root] at *
        clear he HR
        go_wp2
        go_ret
        exact ⟨ret_i HE.out.symm, rfl⟩
      | nd i2 k2 c2 l2 r2 =>
        have hi2 := (HR.out.node).2.1
        have hi2' : ((i2 : Int) != 0) = true := by rw [bne_iff_ne]; omega
        have hi1' : ((i : Int) != 0) = true := by rw [bne_iff_ne]; omega
        have HE : Hid (hd (T.nd i2 k2 c2 l2 r2).its = hd t.its) := Lib.hid (by rw [← he]; show _ = hd ((T.nd i2 k2 c2 l2 r2).its ++ (i, k) :: r.its); rw [hd_append (T.lo_nil (by simp))])
        simp only [T.root] at *
        have hH : (T.nd i2 k2 c2 l2 r2).height + 1 ≤ gk := by have := hh; simp only [T.height] at this ⊢; omega
        clear he hh
        go_wp2
        go_roundg (gk - 1)
        case measure => omega
        case rel => exact ⟨T.nd i2 k2 c2 l2 r2, _, rfl, HR.out, HE.out, by omega, rfl⟩

set_option maxHeartbeats 400000 in
set_option maxRecDepth 100000 in
theorem next_any {i : Nat} {k : Key} {c : Bool} {l r : T} (w : World) (tr : Tr w g b cap pa n tp m) (hr : Rep m n tp z (.nd i k c l r) L) :
    Calls Try.prog 34 #[.pointer (some ⟨g, 0, none⟩), .int .i64 (i : Int)] w fun e w' => e = .returned (.int .i64 (hd (r.its ++ z.zr) : Int)) ∧ ∃ k, w' = w.drewN k := by
  obtain ⟨hc1, hc2⟩ := tr.capB
  obtain ⟨hm, hi0, hin, hl, hrr, hzp⟩ := hr.node
  have hin' : (i : Int) < (n : Int) := by omega
  have c1 := tr.st.cell 1
  have cr := tr.hi hin; rw [hm] at cr; dsimp only at cr
  have TT := Lib.hid tr; have HR := Lib.hid hr; clear tr hr hm
  cases r with
  | nd i2 k2 c2 l2 r2 =>
    have HD := Lib.hid (Rep.down (s := true) (x := .nd i2 k2 c2 l2 r2) (y := l) HR.out)
    have hi2 := (HD.out.node).2.1
    have hi2' : ((i2 : Int) == 0) = false := by rw [beq_eq_false_iff_ne]; omega
    have HE : Hid (hd ((T.nd i2 k2 c2 l2 r2).its ++ z.zr) = hd (T.nd i2 k2 c2 l2 r2).its) := Lib.hid (hd_append (T.lo_nil (by simp)))
    simp only [T.root] at cr hrr
    go_enter Try.func34, Try.ntmps34
    go_wp2_with fail
    refine (least_any w TT.out HD.out).mono ?_
    rintro e w' ⟨rfl, rfl⟩
    go_wp2
    go_ret
    exact ⟨ret_i (by rw [HE.out]), 0, rfl⟩
  | nil =>
    simp only [T.root] at cr hrr
    have e0 : T.nil.its ++ z.zr = z.zr := rfl
    rw [e0]
    go_enter Try.func34, Try.ntmps34
    go_wp2
    go_loopg [1] z.depth (fun j a wr => ∃ (t' : T) (z' : Z) (q : Nat), t' ≠ .nil ∧ a = .int .i64 (t'.root : Int) ∧ Rep m n tp z' t' L ∧ z'.zr = z.zr ∧ z'.depth ≤ j ∧ wr = w.drewN q)
    case atStart => exact ⟨.nd i k c l .nil, z, 0, by simp, rfl, HR.out, rfl, Nat.le_refl _, rfl⟩
    case round =>
      obtain ⟨t', z', q, hn', rfl, hr', he, hh, hwr⟩ := hrel
      have hpos := hr'.posT (T.mem_its hn')
      have hn0 : 0 < n := by omega
      have hp := hr'.parLt hn0
      have hup := hr'.sub.root_up hn'
      have TW := Lib.hid (hwr ▸ TT.out.drewN q : Tr wr g b cap pa n tp m)
      have HS := Lib.hid (side_any t'.root wr TW.out hpos.2 (by rw [hup]; exact hp))
      rw [hr'.side hn'] at HS
      have HWR := Lib.hid hwr
      have hR' : (t'.root : Int) < (n : Int) := by omega
      have hUP := Lib.hid hup
      clear c1 cr HR hwr TT
      cases z' with
      | top =>
        have HE : Hid (((hd z.zr : Nat) : Int) = 0) := Lib.hid (by rw [← he]; rfl)
        simp only [Z.side, bit_false'] at HS
        clear hr' he hn' hup
        generalize t'.root = R at *
        go_wp2_with fail
        refine HS.out.mono ?_
        rintro e w2 ⟨rfl, q2, hw2⟩
        have T2 := Lib.hid (hw2 ▸ TW.out.drewN q2 : Tr w2 g b cap pa n tp m)
        have HW2 := Lib.hid hw2; clear hw2
        have c1 := T2.out.st.cell 1
        have cu := T2.out.upc hpos.2; rw [hUP.out] at cu
        simp only [Z.par] at cu
        go_wp2
        go_ret
        exact ⟨ret_i HE.out.symm, q + q2, by rw [HW2.out, HWR.out, World.drewN_drewN]⟩
      | st s i2 k2 c2 o z2 =>
        cases s with
        | false =>
          have HE : Hid (((hd z.zr : Nat) : Int) = i2) := Lib.hid (by rw [← he]; rfl)
          simp only [Z.side, bit_false'] at HS
          clear hr' he hn' hup
          generalize t'.root = R at *
          go_wp2_with fail
          refine HS.out.mono ?_
          rintro e w2 ⟨rfl, q2, hw2⟩
          have T2 := Lib.hid (hw2 ▸ TW.out.drewN q2 : Tr w2 g b cap pa n tp m)
          have HW2 := Lib.hid hw2; clear hw2
          have c1 := T2.out.st.cell 1
          have cu := T2.out.upc hpos.2; rw [hUP.out] at cu
          simp only [Z.par] at cu
          go_wp2
          go_ret
          exact ⟨ret_i HE.out.symm, q + q2, by rw [HW2.out, HWR.out, World.drewN_drewN]⟩
        | true =>
          have HE := Lib.hid (show z2.zr = z.zr from he)
          have HUPW := Lib.hid hr'.upw
          simp only [Z.side, bit_true'] at HS
          have hH : z2.depth + 1 ≤ gk := by simpa [Z.depth] using hh
          clear hr' he hn' hup hh
          generalize t'.root = R at *
          go_wp2_with fail
          refine HS.out.mono ?_
          rintro e w2 ⟨rfl, q2, hw2⟩
          have T2 := Lib.hid (hw2 ▸ TW.out.drewN q2 : Tr w2 g b cap pa n tp m)
          have HW2 := Lib.hid hw2; clear hw2
          have c1 := T2.out.st.cell 1
          have cu := T2.out.upc hpos.2; rw [hUP.out] at cu
          simp only [Z.par] at cu
          go_wp2
          go_roundg (gk - 1)
          case measure => omega
          case rel => exact ⟨br true i2 k2 c2 t' o, z2, q + q2, by simp [br], by rw [root_br], HUPW.out, HE.out, by omega, by rw [HW2.out, HWR.out, World.drewN_drewN]⟩

theorem Keep.none_left {S : Nat → Prop} {w w' : World} (h : Keep (fun _ => False) w w') : Keep S w w' := h.mono (fun _ h => h.elim)
theorem Tr.kept {w w' : World} (t : Tr w g b cap pa n tp m) (h : Keep (fun _ => False) w w') : Tr w' g b cap pa n tp m := t.keep h (fun h => h) (fun h => h)

set_option maxHeartbeats 1000000 in
set_option maxRecDepth 100000 in
theorem height_any : ∀ (t : T) (z : Z) (w : World), Tr w g b cap pa n tp m → Rep m n tp z t L → t.height ≤ 5000 →
    Calls Try.prog 47 #[.pointer (some ⟨g, 0, none⟩), .int .i64 (t.root : Int)] w fun e w' => e = .returned (.int .i64 (t.height : Int)) ∧ Keep (fun _ => False) w w'
  | .nil, z, w, tr, hr, hh => by
    clear tr hr hh
    simp only [T.root, T.height]
    go_enter Try.func47, Try.ntmps47
    go_wp2
    go_ret
    exact ⟨rfl, Keep.refl _ _⟩
  | .nd i k c l r, z, w, tr, hr, hh => by
    obtain ⟨hc1, hc2⟩ := tr.capB
    obtain ⟨hm, hi0, hin, hl, hrr, hzp⟩ := hr.node
    have IHL := Lib.hid (fun w' (t' : Tr w' g b cap pa n tp m) => height_any l _ w' t' (Rep.down (s := false) (x := l) (y := r) hr) (by simp only [T.height] at hh; omega))
    have IHR := Lib.hid (fun w' (t' : Tr w' g b cap pa n tp m) => height_any r _ w' t' (Rep.down (s := true) (x := r) (y := l) hr) (by simp only [T.height] at hh; omega))
    have hlh : l.height ≤ 5000 := by simp only [T.height] at hh; omega
    have hrh : r.height ≤ 5000 := by simp only [T.height] at hh; omega
    have hin' : (i : Int) < (n : Int) := by omega
    have hi' : ((i : Int) == 0) = false := by rw [beq_eq_false_iff_ne]; omega
    have c1 := tr.st.cell 1
    have cl := tr.lo hin; rw [hm] at cl; dsimp only at cl
    have cr := tr.hi hin; rw [hm] at cr; dsimp only at cr
    have HE : Hid (((T.nd i k c l r).height : Int) = 1 + max (l.height : Int) (r.height : Int)) := Lib.hid (by simp only [T.height]; omega)
    have TT := Lib.hid tr
    clear tr hr hm hh
    simp only [T.root]
    generalize l.root = lr at *
    generalize r.root = rr at *
    generalize l.height = lh at *
    generalize r.height = rh at *
    generalize (T.nd i k c l r).height = hh at *
    have K0 : Hid (Keep (fun _ => False) w (w.alloc (.cells #[.int .i64 (lr : Int), .int .i64 (rr : Int)] 61))) := Lib.hid ((Keep.refl _ w).alloc _)
    have W0 := Whole.new w 61 #[.int .i64 (lr : Int), .int .i64 (rr : Int)]
    rcases Int.lt_trichotomy (lh : Int) (rh : Int) with hlt | hlt | hlt
    · have HM : Hid (max (lh : Int) (rh : Int) = rh) := Lib.hid (by omega)
      go_enter Try.func47, Try.ntmps47
      go_wp2
      have T1 := Lib.hid (TT.out.kept K0.out)
      generalize (w.alloc (.cells #[.int .i64 (lr : Int), .int .i64 (rr : Int)] 61)) = w1 at *
      refine wp_region_sch (fun w' => w'.cell? ⟨w.heap.size, 0, none⟩ = some (.int .i64 (lr : Int)) ∧ w'.cell? ⟨w.heap.size, 1, none⟩ = some (.int .i64 (rr : Int))) [(true, 0), (true, 1), (true, 2), (true, 4), (true, 5), (true, 6), (false, 3), (false, 7), (true, 8), (true, 9), (true, 10)] (by kernel_rfl) (by kernel_rfl) (by kernel_rfl) (by kernel_rfl) ⟨W0.drew.cell 0, W0.drew.cell 1⟩ ?_
      (repeat (first
  | (refine wpSch_yes (v := ?_) rfl (fun _ _ _ h => h) (by rfl) ?_ ?_; rotate_left; (next => (intro w hSw; (try dsimp only at hSw); (try obtain ⟨hS1, hS2, hS3, hS4, hS5⟩ := hSw); (try obtain ⟨hS1, hS2⟩ := hSw); go_simp; (try with_reducible rfl))); (try simp only [Act.put, List.setIfInBounds_toArray, List.set_cons_zero, List.set_cons_succ]))
  | (refine wpSch_no rfl (fun _ _ _ h => h) (by rfl) ?_; (try simp only [Act.put, List.setIfInBounds_toArray, List.set_cons_zero, List.set_cons_succ]))
  | (refine wpSch_not rfl (by rfl) (by assumption) ?_; (try simp only [Act.put, List.setIfInBounds_toArray, List.set_cons_zero, List.set_cons_succ]))))
      refine wpSch_call rfl (by rfl) (fun K hK => ?_); go_simp
      refine (IHL.out _ T1.out.drew).mono ?_
      rintro e w2 ⟨rfl, k2⟩
      have T2 := Lib.hid (T1.out.drew.kept k2); have K2 := Lib.hid (K0.out.drew.trans k2); have W2 := W0.drew.keep k2 (fun h => h); clear k2
      refine hK.out _ _ ?_ (fun hHeld => ?_)
      · exact ⟨W2.cell 0, W2.cell 1⟩
      clear hK K
      (try simp only [Act.put, List.setIfInBounds_toArray, List.set_cons_zero, List.set_cons_succ])
      (repeat (first
  | (refine wpSch_yes (v := ?_) rfl (fun _ _ _ h => h) (by rfl) ?_ ?_; rotate_left; (next => (intro w hSw; (try dsimp only at hSw); (try obtain ⟨hS1, hS2, hS3, hS4, hS5⟩ := hSw); (try obtain ⟨hS1, hS2⟩ := hSw); go_simp; (try with_reducible rfl))); (try simp only [Act.put, List.setIfInBounds_toArray, List.set_cons_zero, List.set_cons_succ]))
  | (refine wpSch_no rfl (fun _ _ _ h => h) (by rfl) ?_; (try simp only [Act.put, List.setIfInBounds_toArray, List.set_cons_zero, List.set_cons_succ]))
  | (refine wpSch_not rfl (by rfl) (by assumption) ?_; (try simp only [Act.put, List.setIfInBounds_toArray, List.set_cons_zero, List.set_cons_succ]))))
      refine wpSch_call rfl (by rfl) (fun K hK => ?_); go_simp
      refine (IHR.out _ T2.out).mono ?_
      rintro e w3 ⟨rfl, k3⟩
      have K3 := Lib.hid (K2.out.trans k3); have W3 := W2.keep k3 (fun h => h); clear k3
      refine hK.out _ _ ?_ (fun hHeld => ?_)
      · exact ⟨W3.cell 0, W3.cell 1⟩
      clear hK K
      (try simp only [Act.put, List.setIfInBounds_toArray, List.set_cons_zero, List.set_cons_succ])
      (repeat (first
  | (refine wpSch_yes (v := ?_) rfl (fun _ _ _ h => h) (by rfl) ?_ ?_; rotate_left; (next => (intro w hSw; (try dsimp only at hSw); (try obtain ⟨hS1, hS2, hS3, hS4, hS5⟩ := hSw); (try obtain ⟨hS1, hS2⟩ := hSw); go_simp; (try with_reducible rfl))); (try simp only [Act.put, List.setIfInBounds_toArray, List.set_cons_zero, List.set_cons_succ]))
  | (refine wpSch_no rfl (fun _ _ _ h => h) (by rfl) ?_; (try simp only [Act.put, List.setIfInBounds_toArray, List.set_cons_zero, List.set_cons_succ]))
  | (refine wpSch_not rfl (by rfl) (by assumption) ?_; (try simp only [Act.put, List.setIfInBounds_toArray, List.set_cons_zero, List.set_cons_succ]))))
      refine wpSch_nil ?_
      go_wp2
      go_ret
      exact ⟨ret_i (Eq.trans (by rw [IntKind.wrap_i64]; omega) ((congrArg (1 + ·) HM.out.symm).trans HE.out.symm)), K3.out⟩
    · have HM : Hid (max (lh : Int) (rh : Int) = lh) := Lib.hid (by omega)
      obtain rfl : lh = rh := by omega
      go_enter Try.func47, Try.ntmps47
      go_wp2
      have T1 := Lib.hid (TT.out.kept K0.out)
      generalize (w.alloc (.cells #[.int .i64 (lr : Int), .int .i64 (rr : Int)] 61)) = w1 at *
      refine wp_region_sch (fun w' => w'.cell? ⟨w.heap.size, 0, none⟩ = some (.int .i64 (lr : Int)) ∧ w'.cell? ⟨w.heap.size, 1, none⟩ = some (.int .i64 (rr : Int))) [(true, 0), (true, 1), (true, 2), (true, 4), (true, 5), (true, 6), (false, 3), (false, 7), (true, 8), (true, 9), (true, 10)] (by kernel_rfl) (by kernel_rfl) (by kernel_rfl) (by kernel_rfl) ⟨W0.drew.cell 0, W0.drew.cell 1⟩ ?_
      (repeat (first
  | (refine wpSch_yes (v := ?_) rfl (fun _ _ _ h => h) (by rfl) ?_ ?_; rotate_left; (next => (intro w hSw; (try dsimp only at hSw); (try obtain ⟨hS1, hS2, hS3, hS4, hS5⟩ := hSw); (try obtain ⟨hS1, hS2⟩ := hSw); go_simp; (try with_reducible rfl))); (try simp only [Act.put, List.setIfInBounds_toArray, List.set_cons_zero, List.set_cons_succ]))
  | (refine wpSch_no rfl (fun _ _ _ h => h) (by rfl) ?_; (try simp only [Act.put, List.setIfInBounds_toArray, List.set_cons_zero, List.set_cons_succ]))
  | (refine wpSch_not rfl (by rfl) (by assumption) ?_; (try simp only [Act.put, List.setIfInBounds_toArray, List.set_cons_zero, List.set_cons_succ]))))
      refine wpSch_call rfl (by rfl) (fun K hK => ?_); go_simp
      refine (IHL.out _ T1.out.drew).mono ?_
      rintro e w2 ⟨rfl, k2⟩
      have T2 := Lib.hid (T1.out.drew.kept k2); have K2 := Lib.hid (K0.out.drew.trans k2); have W2 := W0.drew.keep k2 (fun h => h); clear k2
      refine hK.out _ _ ?_ (fun hHeld => ?_)
      · exact ⟨W2.cell 0, W2.cell 1⟩
      clear hK K
      (try simp only [Act.put, List.setIfInBounds_toArray, List.set_cons_zero, List.set_cons_succ])
      (repeat (first
  | (refine wpSch_yes (v := ?_) rfl (fun _ _ _ h => h) (by rfl) ?_ ?_; rotate_left; (next => (intro w hSw; (try dsimp only at hSw); (try obtain ⟨hS1, hS2, hS3, hS4, hS5⟩ := hSw); (try obtain ⟨hS1, hS2⟩ := hSw); go_simp; (try with_reducible rfl))); (try simp only [Act.put, List.setIfInBounds_toArray, List.set_cons_zero, List.set_cons_succ]))
  | (refine wpSch_no rfl (fun _ _ _ h => h) (by rfl) ?_; (try simp only [Act.put, List.setIfInBounds_toArray, List.set_cons_zero, List.set_cons_succ]))
  | (refine wpSch_not rfl (by rfl) (by assumption) ?_; (try simp only [Act.put, List.setIfInBounds_toArray, List.set_cons_zero, List.set_cons_succ]))))
      refine wpSch_call rfl (by rfl) (fun K hK => ?_); go_simp
      refine (IHR.out _ T2.out).mono ?_
      rintro e w3 ⟨rfl, k3⟩
      have K3 := Lib.hid (K2.out.trans k3); have W3 := W2.keep k3 (fun h => h); clear k3
      refine hK.out _ _ ?_ (fun hHeld => ?_)
      · exact ⟨W3.cell 0, W3.cell 1⟩
      clear hK K
      (try simp only [Act.put, List.setIfInBounds_toArray, List.set_cons_zero, List.set_cons_succ])
      (repeat (first
  | (refine wpSch_yes (v := ?_) rfl (fun _ _ _ h => h) (by rfl) ?_ ?_; rotate_left; (next => (intro w hSw; (try dsimp only at hSw); (try obtain ⟨hS1, hS2, hS3, hS4, hS5⟩ := hSw); (try obtain ⟨hS1, hS2⟩ := hSw); go_simp; (try with_reducible rfl))); (try simp only [Act.put, List.setIfInBounds_toArray, List.set_cons_zero, List.set_cons_succ]))
  | (refine wpSch_no rfl (fun _ _ _ h => h) (by rfl) ?_; (try simp only [Act.put, List.setIfInBounds_toArray, List.set_cons_zero, List.set_cons_succ]))
  | (refine wpSch_not rfl (by rfl) (by assumption) ?_; (try simp only [Act.put, List.setIfInBounds_toArray, List.set_cons_zero, List.set_cons_succ]))))
      refine wpSch_nil ?_
      go_wp2
      go_ret
      exact ⟨ret_i (Eq.trans (by rw [IntKind.wrap_i64]; omega) ((congrArg (1 + ·) HM.out.symm).trans HE.out.symm)), K3.out⟩
    · have HM : Hid (max (lh : Int) (rh : Int) = lh) := Lib.hid (by omega)
      go_enter Try.func47, Try.ntmps47
      go_wp2
      have T1 := Lib.hid (TT.out.kept K0.out)
      generalize (w.alloc (.cells #[.int .i64 (lr : Int), .int .i64 (rr : Int)] 61)) = w1 at *
      refine wp_region_sch (fun w' => w'.cell? ⟨w.heap.size, 0, none⟩ = some (.int .i64 (lr : Int)) ∧ w'.cell? ⟨w.heap.size, 1, none⟩ = some (.int .i64 (rr : Int))) [(true, 0), (true, 1), (true, 2), (true, 4), (true, 5), (true, 6), (false, 3), (false, 7), (true, 8), (true, 9), (true, 10)] (by kernel_rfl) (by kernel_rfl) (by kernel_rfl) (by kernel_rfl) ⟨W0.drew.cell 0, W0.drew.cell 1⟩ ?_
      (repeat (first
  | (refine wpSch_yes (v := ?_) rfl (fun _ _ _ h => h) (by rfl) ?_ ?_; rotate_left; (next => (intro w hSw; (try dsimp only at hSw); (try obtain ⟨hS1, hS2, hS3, hS4, hS5⟩ := hSw); (try obtain ⟨hS1, hS2⟩ := hSw); go_simp; (try with_reducible rfl))); (try simp only [Act.put, List.setIfInBounds_toArray, List.set_cons_zero, List.set_cons_succ]))
  | (refine wpSch_no rfl (fun _ _ _ h => h) (by rfl) ?_; (try simp only [Act.put, List.setIfInBounds_toArray, List.set_cons_zero, List.set_cons_succ]))
  | (refine wpSch_not rfl (by rfl) (by assumption) ?_; (try simp only [Act.put, List.setIfInBounds_toArray, List.set_cons_zero, List.set_cons_succ]))))
      refine wpSch_call rfl (by rfl) (fun K hK => ?_); go_simp
      refine (IHL.out _ T1.out.drew).mono ?_
      rintro e w2 ⟨rfl, k2⟩
      have T2 := Lib.hid (T1.out.drew.kept k2); have K2 := Lib.hid (K0.out.drew.trans k2); have W2 := W0.drew.keep k2 (fun h => h); clear k2
      refine hK.out _ _ ?_ (fun hHeld => ?_)
      · exact ⟨W2.cell 0, W2.cell 1⟩
      clear hK K
      (try simp only [Act.put, List.setIfInBounds_toArray, List.set_cons_zero, List.set_cons_succ])
      (repeat (first
  | (refine wpSch_yes (v := ?_) rfl (fun _ _ _ h => h) (by rfl) ?_ ?_; rotate_left; (next => (intro w hSw; (try dsimp only at hSw); (try obtain ⟨hS1, hS2, hS3, hS4, hS5⟩ := hSw); (try obtain ⟨hS1, hS2⟩ := hSw); go_simp; (try with_reducible rfl))); (try simp only [Act.put, List.setIfInBounds_toArray, List.set_cons_zero, List.set_cons_succ]))
  | (refine wpSch_no rfl (fun _ _ _ h => h) (by rfl) ?_; (try simp only [Act.put, List.setIfInBounds_toArray, List.set_cons_zero, List.set_cons_succ]))
  | (refine wpSch_not rfl (by rfl) (by assumption) ?_; (try simp only [Act.put, List.setIfInBounds_toArray, List.set_cons_zero, List.set_cons_succ]))))
      refine wpSch_call rfl (by rfl) (fun K hK => ?_); go_simp
      refine (IHR.out _ T2.out).mono ?_
      rintro e w3 ⟨rfl, k3⟩
      have K3 := Lib.hid (K2.out.trans k3); have W3 := W2.keep k3 (fun h => h); clear k3
      refine hK.out _ _ ?_ (fun hHeld => ?_)
      · exact ⟨W3.cell 0, W3.cell 1⟩
      clear hK K
      (try simp only [Act.put, List.setIfInBounds_toArray, List.set_cons_zero, List.set_cons_succ])
      (repeat (first
  | (refine wpSch_yes (v := ?_) rfl (fun _ _ _ h => h) (by rfl) ?_ ?_; rotate_left; (next => (intro w hSw; (try dsimp only at hSw); (try obtain ⟨hS1, hS2, hS3, hS4, hS5⟩ := hSw); (try obtain ⟨hS1, hS2⟩ := hSw); go_simp; (try with_reducible rfl))); (try simp only [Act.put, List.setIfInBounds_toArray, List.set_cons_zero, List.set_cons_succ]))
  | (refine wpSch_no rfl (fun _ _ _ h => h) (by rfl) ?_; (try simp only [Act.put, List.setIfInBounds_toArray, List.set_cons_zero, List.set_cons_succ]))
  | (refine wpSch_not rfl (by rfl) (by assumption) ?_; (try simp only [Act.put, List.setIfInBounds_toArray, List.set_cons_zero, List.set_cons_succ]))))
      refine wpSch_nil ?_
      go_wp2
      go_ret
      exact ⟨ret_i (Eq.trans (by rw [IntKind.wrap_i64]; omega) ((congrArg (1 + ·) HM.out.symm).trans HE.out.symm)), K3.out⟩
def Sorted (L : List (Nat × Key)) : Prop := L.Pairwise fun x y => KLt x.2 y.2

theorem Rep.sorts {i : Nat} {k : Key} {c : Bool} {l r : T} (h : Rep m n tp z (.nd i k c l r) L) (hs : Sorted L) :
    (∀ x ∈ l.its, KLt x.2 k) ∧ (∀ x ∈ r.its, KLt k x.2) := by
  have e := h.its
  unfold Sorted at hs
  rw [← e] at hs
  simp only [T.its, List.pairwise_append, List.pairwise_cons, List.mem_cons] at hs
  obtain ⟨⟨_, ⟨_, ⟨h1, _⟩, h2⟩, _⟩, _, _⟩ := hs
  exact ⟨fun x hx => h2 x hx (i, k) (.inl rfl), fun x hx => h1 x hx⟩

/-- Where k is, or would be. -/
def Found (m : Nat → Nd) (n tp : Nat) (L : List (Nat × Key)) (k : Key) (z : Z) (t : T) : Prop :=
  RepB m n tp z t L ∧ ((t = .nil ∧ (∀ x ∈ z.zl, KLt x.2 k) ∧ (∀ x ∈ z.zr, KLt k x.2)) ∨ ∃ i c l r, t = .nd i k c l r)

theorem ret_three {a b c d e f : Int} (h : a = d) (h' : b = e) (h'' : c = f) : Ending.returned (.tuple #[.int .i64 a, .int .i64 b, .int .i64 c]) = .returned (.tuple #[.int .i64 d, .int .i64 e, .int .i64 f]) := by rw [h, h', h'']

set_option maxHeartbeats 2000000 in
set_option maxRecDepth 100000 in
theorem find_any (k : Key) (w : World) (tr : Tr w g b cap pa n tp m) (hr : RepB m n tp .top t L) (hs : Sorted L) :
    Calls Try.prog 25 #[.pointer (some ⟨g, 0, none⟩), kv k] w fun e w' => ∃ z t', e = .returned (.tuple #[.int .i64 (t'.root : Int), .int .i64 (z.par : Int), .int .i64 (bit z.side)]) ∧ Found m n tp L k z t' ∧ Keep (fun _ => False) w w' := by
  obtain ⟨hc1, hc2⟩ := tr.capB
  have htop : Hid (tp = t.root) := Lib.hid hr.rep.up
  have HS := Lib.hid hs; have HR := Lib.hid hr
  obtain ⟨ka, kb⟩ := k
  unfold kv
  dsimp only
  have K0 : Hid (Keep (fun _ => False) w (w.alloc (.cells #[.int .u64 ka, .int .u64 kb] 30))) := Lib.hid ((Keep.refl _ w).alloc _)
  have T0 := Lib.hid (tr.alloc (.cells #[.int .u64 ka, .int .u64 kb] 30))
  have W0 := Lib.hid (Whole.new w 30 #[.int .u64 ka, .int .u64 kb])
  have ct := T0.out.st.cell 2
  clear tr hs hr
  go_enter Try.func25, Try.ntmps25
  go_wp2
  go_step3
  go_wp2
  go_step3
  go_wp2
  clear ct
  generalize w.alloc (.cells #[.int .u64 ka, .int .u64 kb] 30) = w1 at *
  generalize w.heap.size = B at *
  go_loopg [4, 5, 6] t.height (fun j a4 a5 a6 wr => ∃ (t' : T) (z' : Z), a4 = .int .i64 (t'.root : Int) ∧ a5 = .int .i64 (z'.par : Int) ∧ a6 = .int .i64 (bit z'.side) ∧ RepB m n tp z' t' L ∧ (∀ x ∈ z'.zl, KLt x.2 ⟨ka, kb⟩) ∧ (∀ x ∈ z'.zr, KLt ⟨ka, kb⟩ x.2) ∧ t'.height ≤ j ∧ Tr wr g b cap pa n tp m ∧ Whole wr B 30 #[.int .u64 ka, .int .u64 kb] ∧ Keep (fun _ => False) w wr)
  case atStart => exact ⟨t, .top, by rw [← htop.out], rfl, rfl, HR.out, fun x hx => (by cases hx), fun x hx => (by cases hx), Nat.le_refl _, T0.out, W0.out, K0.out⟩
  case round =>
    obtain ⟨t', z', rfl, rfl, rfl, hr', hl, hg, hh, tw, hw, hk⟩ := hrel
    clear HR T0 W0 K0 htop
    have TW := Lib.hid tw; have HW := Lib.hid hw; have HK := Lib.hid hk; clear tw hw hk
    cases t' with
    | nil =>
      have HF : Hid (Found m n tp L ⟨ka, kb⟩ z' .nil) := Lib.hid ⟨hr', .inl ⟨rfl, hl, hg⟩⟩
      clear hr' hl hg hh
      simp only [T.root]
      go_wp2
      try rw [Exit.noGoto_ret]
      go_ret3
      exact ⟨z', .nil, rfl, HF.out, HK.out⟩
    | nd i ik c l r =>
      obtain ⟨hm, hi0, hin, hlr, hrr, hzp⟩ := hr'.rep.node
      obtain ⟨ia, ib⟩ := ik
      have hi' : ((i : Int) == 0) = false := by rw [beq_eq_false_iff_ne]; omega
      have hin' : (i : Int) < (n : Int) := by omega
      have HC : Hid (∀ W, Tr W g b cap pa n tp m → Whole W B 30 #[.int .u64 ka, .int .u64 kb] → W.cell? ⟨B, 0, none⟩ = some (.int .u64 ka) ∧ W.cell? ⟨B, 1, none⟩ = some (.int .u64 kb) ∧ W.cell? ⟨g, 1, none⟩ = some (.slice (some ⟨b, 0, none⟩) n cap) ∧ W.cell? ⟨b, i * 6, none⟩ = some (.int .u64 ia) ∧ W.cell? ⟨b, i * 6 + 1, none⟩ = some (.int .u64 ib)) :=
        Lib.hid fun W tW hW => ⟨hW.cell 0, hW.cell 1, tW.st.cell 1, by rw [tW.ka hin, hm], by rw [tW.kb hin, hm]⟩
      have hsort := hr'.rep.sorts HS.out
      have HO := Lib.hid (order_any ⟨ka, kb⟩ ⟨ia, ib⟩)
      simp only [T.root]
      rcases KLt.tri ⟨ka, kb⟩ ⟨ia, ib⟩ with hlt | heq | hgt
      · rw [ordV_lt hlt] at HO
        have HD := Lib.hid (RepB.down (s := false) (x := l) (y := r) hr')
        have HL2 : Hid (∀ x ∈ (Z.st false i ⟨ia, ib⟩ c r z').zl, KLt x.2 ⟨ka, kb⟩) := Lib.hid hl
        have HG2 : Hid (∀ x ∈ (Z.st false i ⟨ia, ib⟩ c r z').zr, KLt ⟨ka, kb⟩ x.2) := Lib.hid (fun x hx => by
          simp only [Z.zr, Bool.false_eq_true, if_false, List.cons_append, List.mem_cons, List.mem_append] at hx
          rcases hx with rfl | hx | hx
          · exact hlt
          · exact hlt.trans (hsort.2 x hx)
          · exact hg x hx)
        have hH : l.height + 1 ≤ gk := by simp only [T.height] at hh; omega
        have HCL : Hid (∀ W, Tr W g b cap pa n tp m → W.cell? ⟨b, i * 6 + 3, none⟩ = some (.int .i64 (l.root : Int))) := Lib.hid fun W tW => by rw [tW.lo hin, hm]
        clear hr' hl hg hh hm hsort hlt
        go_wp2
        refine wp_region_sch (fun w' => w'.cell? ⟨B, 0, none⟩ = some (.int .u64 ka) ∧ w'.cell? ⟨B, 1, none⟩ = some (.int .u64 kb) ∧ w'.cell? ⟨g, 1, none⟩ = some (.slice (some ⟨b, 0, none⟩) n cap) ∧ w'.cell? ⟨b, i * 6, none⟩ = some (.int .u64 ia) ∧ w'.cell? ⟨b, i * 6 + 1, none⟩ = some (.int .u64 ib)) [(true, 0), (true, 1), (true, 2), (true, 3), (true, 4), (true, 5), (true, 6), (true, 7), (true, 8), (false, 9), (true, 10)] (by kernel_rfl) (by kernel_rfl) (by kernel_rfl) (by kernel_rfl) (HC.out _ TW.out.drew HW.out.drew) ?_
        (repeat (first
  | (refine wpSch_yes (v := ?_) rfl (fun _ _ _ h => h) (by rfl) ?_ ?_; rotate_left; (next => (intro w hSw; (try dsimp only at hSw); (try obtain ⟨hS1, hS2, hS3, hS4, hS5⟩ := hSw); (try obtain ⟨hS1, hS2⟩ := hSw); go_simp; (try with_reducible rfl))); (try simp only [Act.put, List.setIfInBounds_toArray, List.set_cons_zero, List.set_cons_succ]))
  | (refine wpSch_no rfl (fun _ _ _ h => h) (by rfl) ?_; (try simp only [Act.put, List.setIfInBounds_toArray, List.set_cons_zero, List.set_cons_succ]))
  | (refine wpSch_not rfl (by rfl) (by assumption) ?_; (try simp only [Act.put, List.setIfInBounds_toArray, List.set_cons_zero, List.set_cons_succ]))))
        refine wpSch_call rfl (by rfl) (fun K hK => ?_); go_simp
        refine (HO.out _).mono ?_
        rintro e w2 ⟨rfl, k2⟩
        have T2 := Lib.hid (TW.out.drew.kept k2); have K2 := Lib.hid (HK.out.drew.trans k2); have W2 := Lib.hid (HW.out.drew.keep k2 (fun h => h)); clear k2
        refine hK.out _ _ ?_ (fun hHeld => ?_)
        · exact HC.out _ T2.out W2.out
        clear hK K
        (try simp only [Act.put, List.setIfInBounds_toArray, List.set_cons_zero, List.set_cons_succ])
        (repeat (first
  | (refine wpSch_yes (v := ?_) rfl (fun _ _ _ h => h) (by rfl) ?_ ?_; rotate_left; (next => (intro w hSw; (try dsimp only at hSw); (try obtain ⟨hS1, hS2, hS3, hS4, hS5⟩ := hSw); (try obtain ⟨hS1, hS2⟩ := hSw); go_simp; (try with_reducible rfl))); (try simp only [Act.put, List.setIfInBounds_toArray, List.set_cons_zero, List.set_cons_succ]))
  | (refine wpSch_no rfl (fun _ _ _ h => h) (by rfl) ?_; (try simp only [Act.put, List.setIfInBounds_toArray, List.set_cons_zero, List.set_cons_succ]))
  | (refine wpSch_not rfl (by rfl) (by assumption) ?_; (try simp only [Act.put, List.setIfInBounds_toArray, List.set_cons_zero, List.set_cons_succ]))))
        refine wpSch_nil ?_
        have c1 := T2.out.st.cell 1
        have cl := HCL.out _ T2.out
        go_wp2
        go_quiet (fail)
        go_wp2
        go_roundg (gk - 1)
        case measure => omega
        case rel => exact ⟨l, _, rfl, rfl, rfl, HD.out, HL2.out, HG2.out, by omega, T2.out.drewN _, W2.out.drewN _, K2.out.drewN _⟩
      · have ho : ordV ⟨ka, kb⟩ ⟨ia, ib⟩ = 0 := by rw [heq, ordV_eq]
        rw [ho] at HO
        have HF : Hid (Found m n tp L ⟨ka, kb⟩ z' (.nd i ⟨ia, ib⟩ c l r)) := Lib.hid ⟨hr', .inr ⟨i, c, l, r, by rw [heq]⟩⟩
        clear hr' hl hg hh hm hsort heq ho
        go_wp2
        refine wp_region_sch (fun w' => w'.cell? ⟨B, 0, none⟩ = some (.int .u64 ka) ∧ w'.cell? ⟨B, 1, none⟩ = some (.int .u64 kb) ∧ w'.cell? ⟨g, 1, none⟩ = some (.slice (some ⟨b, 0, none⟩) n cap) ∧ w'.cell? ⟨b, i * 6, none⟩ = some (.int .u64 ia) ∧ w'.cell? ⟨b, i * 6 + 1, none⟩ = some (.int .u64 ib)) [(true, 0), (true, 1), (true, 2), (true, 3), (true, 4), (true, 5), (true, 6), (true, 7), (true, 8), (false, 9), (true, 10)] (by kernel_rfl) (by kernel_rfl) (by kernel_rfl) (by kernel_rfl) (HC.out _ TW.out.drew HW.out.drew) ?_
        (repeat (first
  | (refine wpSch_yes (v := ?_) rfl (fun _ _ _ h => h) (by rfl) ?_ ?_; rotate_left; (next => (intro w hSw; (try dsimp only at hSw); (try obtain ⟨hS1, hS2, hS3, hS4, hS5⟩ := hSw); (try obtain ⟨hS1, hS2⟩ := hSw); go_simp; (try with_reducible rfl))); (try simp only [Act.put, List.setIfInBounds_toArray, List.set_cons_zero, List.set_cons_succ]))
  | (refine wpSch_no rfl (fun _ _ _ h => h) (by rfl) ?_; (try simp only [Act.put, List.setIfInBounds_toArray, List.set_cons_zero, List.set_cons_succ]))
  | (refine wpSch_not rfl (by rfl) (by assumption) ?_; (try simp only [Act.put, List.setIfInBounds_toArray, List.set_cons_zero, List.set_cons_succ]))))
        refine wpSch_call rfl (by rfl) (fun K hK => ?_); go_simp
        refine (HO.out _).mono ?_
        rintro e w2 ⟨rfl, k2⟩
        have T2 := Lib.hid (TW.out.drew.kept k2); have K2 := Lib.hid (HK.out.drew.trans k2); have W2 := Lib.hid (HW.out.drew.keep k2 (fun h => h)); clear k2
        refine hK.out _ _ ?_ (fun hHeld => ?_)
        · exact HC.out _ T2.out W2.out
        clear hK K
        (try simp only [Act.put, List.setIfInBounds_toArray, List.set_cons_zero, List.set_cons_succ])
        (repeat (first
  | (refine wpSch_yes (v := ?_) rfl (fun _ _ _ h => h) (by rfl) ?_ ?_; rotate_left; (next => (intro w hSw; (try dsimp only at hSw); (try obtain ⟨hS1, hS2, hS3, hS4, hS5⟩ := hSw); (try obtain ⟨hS1, hS2⟩ := hSw); go_simp; (try with_reducible rfl))); (try simp only [Act.put, List.setIfInBounds_toArray, List.set_cons_zero, List.set_cons_succ]))
  | (refine wpSch_no rfl (fun _ _ _ h => h) (by rfl) ?_; (try simp only [Act.put, List.setIfInBounds_toArray, List.set_cons_zero, List.set_cons_succ]))
  | (refine wpSch_not rfl (by rfl) (by assumption) ?_; (try simp only [Act.put, List.setIfInBounds_toArray, List.set_cons_zero, List.set_cons_succ]))))
        refine wpSch_nil ?_
        go_wp2
        try rw [Exit.noGoto_ret]
        go_ret3
        exact ⟨z', _, rfl, HF.out, K2.out⟩
      · rw [ordV_gt hgt] at HO
        have HD := Lib.hid (RepB.down (s := true) (x := r) (y := l) hr')
        have HL2 : Hid (∀ x ∈ (Z.st true i ⟨ia, ib⟩ c l z').zl, KLt x.2 ⟨ka, kb⟩) := Lib.hid (fun x hx => by
          simp only [Z.zl, if_true, List.mem_append, List.mem_singleton] at hx
          rcases hx with (hx | hx) | rfl
          · exact hl x hx
          · exact (hsort.1 x hx).trans hgt
          · exact hgt)
        have HG2 : Hid (∀ x ∈ (Z.st true i ⟨ia, ib⟩ c l z').zr, KLt ⟨ka, kb⟩ x.2) := Lib.hid hg
        have hH : r.height + 1 ≤ gk := by simp only [T.height] at hh; omega
        have HCL : Hid (∀ W, Tr W g b cap pa n tp m → W.cell? ⟨b, i * 6 + 4, none⟩ = some (.int .i64 (r.root : Int))) := Lib.hid fun W tW => by rw [tW.hi hin, hm]
        clear hr' hl hg hh hm hsort hgt
        go_wp2
        refine wp_region_sch (fun w' => w'.cell? ⟨B, 0, none⟩ = some (.int .u64 ka) ∧ w'.cell? ⟨B, 1, none⟩ = some (.int .u64 kb) ∧ w'.cell? ⟨g, 1, none⟩ = some (.slice (some ⟨b, 0, none⟩) n cap) ∧ w'.cell? ⟨b, i * 6, none⟩ = some (.int .u64 ia) ∧ w'.cell? ⟨b, i * 6 + 1, none⟩ = some (.int .u64 ib)) [(true, 0), (true, 1), (true, 2), (true, 3), (true, 4), (true, 5), (true, 6), (true, 7), (true, 8), (false, 9), (true, 10)] (by kernel_rfl) (by kernel_rfl) (by kernel_rfl) (by kernel_rfl) (HC.out _ TW.out.drew HW.out.drew) ?_
        (repeat (first
  | (refine wpSch_yes (v := ?_) rfl (fun _ _ _ h => h) (by rfl) ?_ ?_; rotate_left; (next => (intro w hSw; (try dsimp only at hSw); (try obtain ⟨hS1, hS2, hS3, hS4, hS5⟩ := hSw); (try obtain ⟨hS1, hS2⟩ := hSw); go_simp; (try with_reducible rfl))); (try simp only [Act.put, List.setIfInBounds_toArray, List.set_cons_zero, List.set_cons_succ]))
  | (refine wpSch_no rfl (fun _ _ _ h => h) (by rfl) ?_; (try simp only [Act.put, List.setIfInBounds_toArray, List.set_cons_zero, List.set_cons_succ]))
  | (refine wpSch_not rfl (by rfl) (by assumption) ?_; (try simp only [Act.put, List.setIfInBounds_toArray, List.set_cons_zero, List.set_cons_succ]))))
        refine wpSch_call rfl (by rfl) (fun K hK => ?_); go_simp
        refine (HO.out _).mono ?_
        rintro e w2 ⟨rfl, k2⟩
        have T2 := Lib.hid (TW.out.drew.kept k2); have K2 := Lib.hid (HK.out.drew.trans k2); have W2 := Lib.hid (HW.out.drew.keep k2 (fun h => h)); clear k2
        refine hK.out _ _ ?_ (fun hHeld => ?_)
        · exact HC.out _ T2.out W2.out
        clear hK K
        (try simp only [Act.put, List.setIfInBounds_toArray, List.set_cons_zero, List.set_cons_succ])
        (repeat (first
  | (refine wpSch_yes (v := ?_) rfl (fun _ _ _ h => h) (by rfl) ?_ ?_; rotate_left; (next => (intro w hSw; (try dsimp only at hSw); (try obtain ⟨hS1, hS2, hS3, hS4, hS5⟩ := hSw); (try obtain ⟨hS1, hS2⟩ := hSw); go_simp; (try with_reducible rfl))); (try simp only [Act.put, List.setIfInBounds_toArray, List.set_cons_zero, List.set_cons_succ]))
  | (refine wpSch_no rfl (fun _ _ _ h => h) (by rfl) ?_; (try simp only [Act.put, List.setIfInBounds_toArray, List.set_cons_zero, List.set_cons_succ]))
  | (refine wpSch_not rfl (by rfl) (by assumption) ?_; (try simp only [Act.put, List.setIfInBounds_toArray, List.set_cons_zero, List.set_cons_succ]))))
        refine wpSch_nil ?_
        have c1 := T2.out.st.cell 1
        have cl := HCL.out _ T2.out
        go_wp2
        go_quiet (fail)
        go_wp2
        go_roundg (gk - 1)
        case measure => omega
        case rel => exact ⟨r, _, rfl, rfl, rfl, HD.out, HL2.out, HG2.out, by omega, T2.out.drewN _, W2.out.drewN _, K2.out.drewN _⟩
end
end Go.Proofs.Ytfbbmpmgceghfaa
