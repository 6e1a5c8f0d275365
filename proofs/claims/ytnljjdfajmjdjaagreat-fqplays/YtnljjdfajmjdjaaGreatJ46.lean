/-
  canterlaw20.alike: the program's queue and the document's, that are the same in plain numbers, are told to be alike. Conditions: both are things of a room.
  The document's queue (canterref20.Queue): what its pulls ask: whose time has come, the rate told for a socket. Conditions: the rates lie in memory as slices do.
-/
import Derived.Test.YtnljjdfajmjdjaaGreatJ45
import Derived.Test.YtnljjdfajmjdjaaGreatJ42
import Derived.Test.YtnljjdfajmjdjaaGreatJ36
import Derived.LoopTactic
namespace Go.Proofs.YtnljjdfajmjdjaaGreat
open Go.RowKit
set_option maxRecDepth 100000
set_option linter.unusedSimpArgs false
set_option linter.unusedVariables false

/-- A flow as it is told, whether it is there or not. -/
def flowB (x : Qm) (z : Int) : Bool := decide ((0 ≤ z ∧ z < 8) ∧ x.T z.toNat = true)
def flowF (x : Qm) (z : Int) : Fl := if (0 ≤ z ∧ z < 8) ∧ x.T z.toNat = true then x.F z.toNat else Fl.zero
section
variable {wB w : World} {L : List Thing} {g : Nat} {own : Nat → Prop} {x : Qm} {a b : Thing}
theorem Room.swap (h : Room wB w (a :: b :: L)) : Room wB w (b :: a :: L) := h.perm (List.Perm.swap _ _ _)
theorem Room.none1 (h : Room wB w (a :: L)) : Room wB w (a :: sgsT 44 (.slice none 0 0) [] :: L) :=
  (h.add (t := sgsT 44 (.slice none 0 0) []) (sgs_nil _ _) (Keep.refl _ w) (fun k e => by cases e)).swap
theorem Room.fqflow (h : Room wB w (fqT g own x :: L)) (z : Int) : Calls Tryz.prog 46 #[.pointer (some ⟨g, 0, none⟩), .int .i64 z] w fun e w' => ∃ V, e = .returned (.tuple #[Fl.v V (flowF x z), .bool (flowB x z)]) ∧ Room wB w' (fqT g own x :: sgsT 44 V (flowF x z).q :: L) := by
  by_cases hz : (0 ≤ z ∧ z < 8) ∧ x.T z.toNat = true
  · have e1 : flowB x z = true := decide_eq_true hz
    have e2 : flowF x z = x.F z.toNat := if_pos hz
    have e3 : z = ((z.toNat : Nat) : Int) := by omega
    rw [e1, e2, e3]
    exact h.fqflow_yes (by omega) hz.2
  · have e1 : flowB x z = false := decide_eq_false hz
    have e2 : flowF x z = Fl.zero := if_neg hz
    rw [e1, e2]
    exact (h.fqflow_no z hz).mono fun e w' ⟨h1, h2⟩ => ⟨_, h1, h2.none1⟩
theorem Room.rqflow (h : Room wB w (rqT g own x :: L)) (z : Int) : Calls Tryz.prog 59 #[.pointer (some ⟨g, 0, none⟩), .int .i64 z] w fun e w' => ∃ V, e = .returned (.tuple #[Fl.v V (flowF x z), .bool (flowB x z)]) ∧ Room wB w' (rqT g own x :: sgsT 44 V (flowF x z).q :: L) := by
  by_cases hz : (0 ≤ z ∧ z < 8) ∧ x.T z.toNat = true
  · have e1 : flowB x z = true := decide_eq_true hz
    have e2 : flowF x z = x.F z.toNat := if_pos hz
    have e3 : z = ((z.toNat : Nat) : Int) := by omega
    rw [e1, e2, e3]
    exact h.rqflow_yes (by omega) hz.2
  · have e1 : flowB x z = false := decide_eq_false hz
    have e2 : flowF x z = Fl.zero := if_neg hz
    rw [e1, e2]
    exact (h.rqflow_no z hz).mono fun e w' ⟨h1, h2⟩ => ⟨_, h1, h2.none1⟩
theorem Room.fqclose (h : Room wB w (fqT g own x :: L)) (z : Int) : Calls Tryz.prog 16 #[.pointer (some ⟨g, 0, none⟩), .int .i64 z] w fun e w' => ∃ V own', e = .returned V ∧ Room wB w' (sgsT 44 V (flowF x z).q :: fqT g own' (clsQ x z) :: L) := by
  by_cases hz : (0 ≤ z ∧ z < 8) ∧ x.T z.toNat = true
  · have e2 : flowF x z = x.F z.toNat := if_pos hz
    have e3 : z = ((z.toNat : Nat) : Int) := by omega
    rw [e2, e3]
    exact h.fqclose_yes (by omega) hz.2
  · have e2 : flowF x z = Fl.zero := if_neg hz
    have e4 : clsQ x z = x := if_neg hz
    rw [e2, e4]
    exact (h.fqclose_no z hz).mono fun e w' ⟨h1, h2⟩ => ⟨_, own, h1, h2.none1.swap⟩
theorem Room.rqclose (h : Room wB w (rqT g own x :: L)) (z : Int) : Calls Tryz.prog 17 #[.pointer (some ⟨g, 0, none⟩), .int .i64 z] w fun e w' => ∃ V own', e = .returned V ∧ Room wB w' (sgsT 44 V (flowF x z).q :: rqT g own' (clsQ x z) :: L) := by
  by_cases hz : (0 ≤ z ∧ z < 8) ∧ x.T z.toNat = true
  · have e2 : flowF x z = x.F z.toNat := if_pos hz
    have e3 : z = ((z.toNat : Nat) : Int) := by omega
    rw [e2, e3]
    exact h.rqclose_yes (by omega) hz.2
  · have e2 : flowF x z = Fl.zero := if_neg hz
    have e4 : clsQ x z = x := if_neg hz
    rw [e2, e4]
    exact (h.rqclose_no z hz).mono fun e w' ⟨h1, h2⟩ => ⟨_, own, h1, h2.none1.swap⟩
theorem flow_len (hx : x.Ok) (z : Int) : (flowF x z).q.length ≤ 512 := by
  unfold flowF
  split
  next hz => exact Nat.le_trans (lenQ_le (x := x) (by omega)) hx.len
  next => exact Nat.zero_le _
end
set_option maxRecDepth 100000 in
set_option maxHeartbeats 4000000 in
theorem alike_any {wB w : World} {L : List Thing} {g r : Nat} {own own' : Nat → Prop} {x : Qm} (h : Room wB w (fqT g own x :: rqT r own' x :: L)) :
    Calls Tryz.prog 21 #[.pointer (some ⟨g, 0, none⟩), .pointer (some ⟨r, 0, none⟩)] w fun e w' => e = .returned (.bool true) ∧ Room wB w' (fqT g own x :: rqT r own' x :: L) := by
  have H := Lib.hid h
  have HX := Lib.hid h.swap.rqok
  clear h
  go_enter Tryz.func21, Tryz.ntmps21
  go_wp2_with fail
  refine (H.out.fqdog).mono ?_
  rintro e w1 ⟨rfl, hr⟩
  have R1 := Lib.hid hr
  clear hr H
  go_wp2_with fail
  refine (R1.out.swap.rqdog).mono ?_
  rintro e w2 ⟨rfl, hr⟩
  have R2 := Lib.hid hr.swap
  clear hr R1
  generalize dogV x = dv
  generalize dogB x = db
  have e1 : (dv != dv) = false := by simp
  have e2 : (db != db) = false := by simp
  have e3 : (((lenQ x : Nat) : Int) != (lenQ x : Int)) = false := by simp
  go_wp2_with fail
  refine (R2.out.fqlen).mono ?_
  rintro e w3 ⟨rfl, hr⟩
  have R3 := Lib.hid hr
  clear hr R2
  go_wp2_with fail
  refine (R3.out.swap.rqlen).mono ?_
  rintro e w4 ⟨rfl, hr⟩
  have R4 := Lib.hid hr.swap
  clear hr R3
  go_upto_region 6 with fail
  clear e1 e2 e3
  go_loopw [9] (fun iv wr => ∃ k : Nat, k ≤ 10 ∧ iv = .int .i64 ((k : Int) - 1) ∧ Room wB wr (fqT g own x :: rqT r own' x :: L)) (fun iv _ => (9 - intOf iv).toNat)
  case atStart => exact ⟨0, by omega, rfl, R4.out⟩
  case round =>
    obtain ⟨k, hk, rfl, hr⟩ := hrel
    have R := Lib.hid hr
    clear hr R4
    by_cases hlt : k < 10
    · obtain ⟨z, hz⟩ : ∃ z : Int, (k : Int) - 1 = z := ⟨_, rfl⟩
      rw [hz]
      have hz8 : z ≤ 8 := by omega
      have HZ := Lib.hid hz
      have HW : Hid (wrap64 (z + 1) = z + 1) := Lib.hid (by unfold wrap64; omega)
      have HLN := Lib.hid (flow_len HX.out z)
      clear hz
      go_wp2_with fail
      refine (R.out.fqflow z).mono ?_
      rintro e w5 ⟨V1, rfl, hr⟩
      obtain ⟨f, hf⟩ : ∃ f, flowF x z = f := ⟨_, rfl⟩
      have hl := HLN.out
      rw [hf] at hr hl ⊢
      obtain ⟨a1, c1, rfl⟩ := sgs_shape hr.get1
      have R5 := Lib.hid (hr.box1 34 #[.int .i64 f.s, .int .i64 f.c, .int .i64 f.p, .int .u64 f.n, .int .u64 f.u, .slice a1 f.q.length c1])
      have HL := Lib.hid hl; have HFF := Lib.hid hf
      clear hr R hf hl
      dsimp only [Fl.v]
      go_upto_region 9 with fail
      generalize hB1 : w5.heap.size = B1 at *
      generalize World.alloc w5 _ = w6 at *
      have R6 := Lib.hid (R5.out.perm (M := rqT r own' x :: fqT g own x :: blkT B1 34 #[.int .i64 f.s, .int .i64 f.c, .int .i64 f.p, .int .u64 f.n, .int .u64 f.u, .slice a1 f.q.length c1] :: sgsT 44 (.slice a1 f.q.length c1) f.q :: L) ((List.Perm.cons _ (List.Perm.cons _ (List.Perm.swap _ _ _))).trans ((List.Perm.cons _ (List.Perm.swap _ _ _)).trans (List.Perm.swap _ _ _))))
      clear R5 hB1
      go_wp2_with fail
      refine (R6.out.rqflow z).mono ?_
      rintro e w7 ⟨V2, rfl, hr⟩
      rw [HFF.out] at hr ⊢
      obtain ⟨a2, c2, rfl⟩ := sgs_shape hr.get1
      have R7 := Lib.hid (hr.box1 34 #[.int .i64 f.s, .int .i64 f.c, .int .i64 f.p, .int .u64 f.n, .int .u64 f.u, .slice a2 f.q.length c2])
      clear hr R6
      dsimp only [Fl.v]
      go_upto_region 10 with fail
      generalize hB2 : w7.heap.size = B2 at *
      generalize World.alloc w7 _ = w8 at *
      clear hB2
      have hb1 := R7.out.nth 4 (t := blkT B1 34 #[.int .i64 f.s, .int .i64 f.c, .int .i64 f.p, .int .u64 f.n, .int .u64 f.u, .slice a1 f.q.length c1]) rfl
      have hb2 := R7.out.get1
      have x0 := Whole.cell hb1 0; have x1 := Whole.cell hb1 1; have x2 := Whole.cell hb1 2; have x3 := Whole.cell hb1 3; have x4 := Whole.cell hb1 4; have x5 := Whole.cell hb1 5
      have y0 := Whole.cell hb2 0; have y1 := Whole.cell hb2 1; have y2 := Whole.cell hb2 2; have y3 := Whole.cell hb2 3; have y4 := Whole.cell hb2 4; have y5 := Whole.cell hb2 5
      simp only [List.getElem?_toArray, List.getElem?_cons_zero, List.getElem?_cons_succ] at x0 x1 x2 x3 x4 x5 y0 y1 y2 y3 y4 y5
      clear hb1 hb2
      have e4 : (flowB x z != flowB x z) = false := by simp
      generalize flowB x z = fb at *
      go_wp2_with fail
      refine (flow_same (.slice a1 f.q.length c1) (.slice a2 f.q.length c2) f w8 HL.out (R7.out.nth 5 (t := sgsT 44 (.slice a1 f.q.length c1) f.q) rfl) (R7.out.get2)).mono ?_
      rintro e w9 ⟨rfl, k9⟩
      have R9 := Lib.hid (((R7.out.kept k9).less (M := rqT r own' x :: fqT g own x :: L) (((List.Sublist.refl _).cons _ |>.cons _).cons_cons _ |>.cons _ |>.cons _ |>.cons_cons _)).swap)
      clear k9 R7 x0 x1 x2 x3 x4 x5 y0 y1 y2 y3 y4 y5 e4
      go_wp2
      go_roundw
      case rel => exact ⟨k + 1, by omega, by have h1 := HW.out; have h2 := HZ.out; rw [h1]; congr 1; omega, R9.out⟩
      case measure => have h1 := HW.out; have h2 := HZ.out; simp only [intOf, Array.getD_eq_getD_getElem?, List.getElem?_toArray, List.getElem?_cons_zero, List.getElem?_cons_succ, Option.getD_some, h1]; omega
    · obtain rfl : k = 10 := by omega
      clear hlt hk
      go_wp2
      go_ret
      exact ⟨rfl, R.out⟩
end Go.Proofs.YtnljjdfajmjdjaaGreat
namespace Go.Proofs.YtnljjdfajmjdjaaGreat
open Go.RowKit
set_option maxRecDepth 100000
set_option linter.unusedSimpArgs false
set_option linter.unusedVariables false

theorem wake_none {x : Qm} {now : Int} (h : firstN x 8 = none) : ∀ k, wakeN now k x = x
  | 0 => rfl
  | k + 1 => by
    unfold wakeN
    rw [show firstQ x = none from h]
theorem wake_stay {x : Qm} {now : Int} {b : Nat} (h : firstN x 8 = some b) (ht : ¬ timeF (x.F b) ≤ now) : ∀ k, wakeN now k x = x
  | 0 => rfl
  | k + 1 => by
    unfold wakeN
    rw [show firstQ x = some b from h]
    exact if_neg ht
theorem wake_go {x : Qm} {now : Int} {b : Nat} (h : firstN x 8 = some b) (ht : timeF (x.F b) ≤ now) (k : Nat) : wakeN now (k + 1) x = wakeN now k (putQ x b 2) := by
  show (match firstQ x with | none => x | some i => if timeF (x.F i) ≤ now then wakeN now k (putQ x i 2) else x) = _
  rw [show firstQ x = some b from h]
  exact if_pos ht
theorem waits_pos {x : Qm} {b k : Nat} (h : firstN x 8 = some b) (hs : sum8 (waits1 x) ≤ k) : ∃ m, k = m + 1 ∧ sum8 (waits1 (putQ x b 2)) ≤ m := by
  obtain ⟨hb, hT, hp⟩ := firstN_some h
  have e := sum8_up (g := waits1 x) (g' := waits1 (putQ x b 2)) hb (fun j hj => by unfold waits1; rw [putQ_ne _ _ hj]; rfl)
  have e1 : waits1 x b = 1 := by unfold waits1; rw [if_pos ⟨hT, hp⟩]
  have e2 : waits1 (putQ x b 2) b = 0 := by unfold waits1; rw [putQ_F]; simp
  exact ⟨k - 1, by omega, by omega⟩
theorem put_wait {x : Qm} {b : Nat} (h : x.Ok) (hf : firstN x 8 = some b) : (putQ x b 2).Ok := by
  obtain ⟨hi, hT, hp⟩ := firstN_some hf
  have hok := h.is b hi hT
  refine h.put hi (fun j hj => putQ_ne _ _ hj) (fun _ => rfl) rfl hT ?_ (by rw [putQ_F]; rfl) (by rw [putQ_F]; rfl) (by rw [putQ_F]; exact Nat.le_refl _)
  rw [putQ_F]
  exact ⟨hok.hs, hok.hc, by dsimp only; omega, hok.hn, hok.hu, fun _ => hok.no (by omega), fun e => (by cases e), fun e => (by cases e), hok.hq⟩
theorem waits_8 (x : Qm) : sum8 (waits1 x) ≤ 8 := sum8_le fun i => by unfold waits1; split <;> decide
set_option maxHeartbeats 400000 in
theorem rrate_any (a : Option Addr) (cap : Nat) (rs : List Int) (i : Nat) (w : World) (hr : Rd .u64 w a rs) {r : Int} (e : rateAt rs i = r) :
    Calls Tryz.prog 40 #[.slice a rs.length cap, .int .i64 (i : Int)] w fun e w' => e = .returned (.int .u64 r) ∧ w = w' := by
  have HE := Lib.hid e
  clear e
  by_cases hlt : i < rs.length
  · obtain ⟨b, off, rfl, _, ci⟩ := hr i hlt
    have hi1 : (i : Int) < (rs.length : Int) := by omega
    have hv : rateAt rs i = rs.getD i 0 := by
      unfold rateAt
      rw [List.getD_eq_getElem?_getD, List.getD_eq_getElem?_getD, List.getElem?_eq_getElem hlt]; rfl
    rw [← hv] at ci
    rw [HE.out] at ci
    clear hr hv HE
    go_enter Tryz.func40, Tryz.ntmps40
    go_wp2
    go_ret
    first | exact ⟨rfl, rfl⟩ | exact trivial | skip
  · have hi1 : ¬ (i : Int) < (rs.length : Int) := by omega
    have hv : rateAt rs i = 18446744073709551615 := by
      unfold rateAt
      rw [List.getD_eq_getElem?_getD, List.getElem?_eq_none (by omega)]; rfl
    rw [hv] at HE
    obtain rfl := HE.out
    clear hr hv HE
    go_enter Tryz.func40, Tryz.ntmps40
    go_wp2
    go_ret
    first | exact ⟨rfl, rfl⟩ | exact trivial | skip
end Go.Proofs.YtnljjdfajmjdjaaGreat
