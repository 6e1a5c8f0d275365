/-
  The document's queue (canterref20.Queue): a flow is closed; a flow as it is told. Conditions: it lies in memory as RQat says.
-/
import Derived.Test.YtnljjdfajmjdjaaGreatJ41
import Derived.Test.YtnljjdfajmjdjaaGreatJ10
import Derived.Lib.RowBridge
namespace Go.Proofs.YtnljjdfajmjdjaaGreat
open Go.RowKit
set_option maxRecDepth 100000
set_option linter.unusedSimpArgs false
set_option linter.unusedVariables false

section
variable {w w' w1 : World} {g : Nat} {cs : Array Value} {v v1 : Nat → Value} {n o n1 o1 : Value} {x y : Qm}
set_option maxHeartbeats 1000000 in
theorem RQat.close_no (h : RQ w g cs v n o x) (z : Int) (hz : ¬ ((0 ≤ z ∧ z < 8) ∧ x.T z.toNat = true)) :
    Calls Tryz.prog 17 #[.pointer (some ⟨g, 0, none⟩), .int .i64 z] w fun e w' => e = .returned (.slice none 0 0) ∧ w = w' := by
  have H := Lib.hid h
  clear h
  go_enter Tryz.func17, Tryz.ntmps17
  by_cases h0 : z < 0
  · clear hz
    go_wp2
    go_ret
    exact ⟨rfl, rfl⟩
  · by_cases h8 : z < 8
    · obtain ⟨k, rfl⟩ : ∃ k : Nat, z = (k : Int) := ⟨z.toNat, by omega⟩
      have hk : k < 8 := by omega
      have ht : x.T k = false := by
        cases ht : x.T k with
        | false => rfl
        | true => exact absurd ⟨⟨by omega, h8⟩, ht⟩ hz
      have ct := H.out.cT hk
      rw [ht] at ct
      clear hz hk ht
      go_wp2
      go_ret
      exact ⟨rfl, rfl⟩
    · clear hz
      go_wp2
      go_ret
      exact ⟨rfl, rfl⟩
set_option maxHeartbeats 4000000 in
theorem RQat.close_yes (h : RQ w g cs v n o x) (hx : LsOk x.N x.O) {k : Nat} (hk : k < 8) (ht : x.T k = true) :
    Calls Tryz.prog 17 #[.pointer (some ⟨g, 0, none⟩), .int .i64 (k : Int)] w fun e w' => e = .returned (v k) ∧ (sgsT 44 (v k) (x.F k).q).at_ w' ∧
      ∃ cs' n' o', RQ w' g cs' (upF v k nilV) n' o' (clsQ x (k : Int)) ∧ Keep (RQown g v n o) w w' ∧ ∀ j, RQown g (upF v k nilV) n' o' j → RQown g v n o j ∨ w.heap.size ≤ j := by
  have H := Lib.hid h; have HX := Lib.hid hx; have HI := Lib.hid hk
  have hi1 : (k : Int) < 8 := by omega
  have ct := h.cT hk
  rw [ht] at ct
  have HT := Lib.hid ht
  obtain ⟨va, vc, hv⟩ := h.shape hk
  have HSV := Lib.hid hv
  have c5 : w.cell? ⟨g, 9 + k * 6 + 5, none⟩ = some (.slice va (x.F k).q.length vc) := (h.cF hk (j := 5) (by decide)).trans (congrArg some hv)
  have HVG : Hid ((v k).ownBlock ≠ some g) := Lib.hid (h.vg hk)
  clear h hx hk ht hv
  go_enter Tryz.func17, Tryz.ntmps17
  go_wp2_with fail
  refine (rremove_any 41 g 65 cs n o x.N x.O (k : Int) _ w H.out.l HX.out rfl).mono ?_
  rintro e w1 ⟨rfl, t⟩
  obtain ⟨cs1, n1, o1, h1, he1, hk1, hn1⟩ := H.out.lists (y := { x with N := x.N.erase (k : Int), O := x.O.erase (k : Int) }) t rfl rfl rfl rfl rfl
  have HQ := Lib.hid h1
  have HV := Lib.hid (h1.q k HI.out)
  have HK : Hid (Keep (RQown g v n o) w w1) := Lib.hid (hk1.mono fun k e => by rcases e with e | e | e; exact .inl e; exact .inr (.inl e); exact .inr (.inr (.inl e)))
  have HN1 := Lib.hid hn1
  clear t h1 he1 hk1 hn1 ct c5 H
  go_upto_region 5 with fail
  have hi := HI.out
  generalize w1 = wq at *
  refine wp_region_sch (fun _ => True) [(true, 0), (true, 1), (true, 2), (true, 3), (true, 4), (true, 5), (true, 6), (true, 7), (true, 9), (true, 10), (false, 8), (true, 11), (false, 12)] (by kernel_rfl) (by kernel_rfl) (by kernel_rfl) (by kernel_rfl) trivial ?_
  have HW := Lib.hid (HQ.out.kept (Keep.refl _ wq).drew); have HKW := Lib.hid HK.out.drew
  have HVW := Lib.hid ((sgsT 44 (v k) (x.F k).q).keep HV.out (Keep.refl (fun _ => False) wq).drew (fun _ _ => id))
  clear HQ HK HV
  generalize wq.drew = wz at *
  (repeat (refine wpSch_yes (v := ?_) rfl (fun _ _ _ h => h) (by rfl) ?_ ?_; rotate_left; (next => (intro w hSw; clear hSw; go_simp; (try with_reducible rfl))); (try simp only [Act.put, List.setIfInBounds_toArray, List.set_cons_zero, List.set_cons_succ])))
  have hT := HW.out.setT hi (b := false) rfl
  have ct := HW.out.cT hi
  have cf := HW.out.fr (57 + k)
  have HB := Lib.hid (hT.blank hi (f := Fl.zero) rfl rfl)
  have HTH := Lib.hid (thereF hT hi)
  have HKB := Lib.hid (Keep.setCells (S := RQown g v n o) (.inl rfl) (flL nilV Fl.zero) (9 + k * 6) (HKW.out.setCell (p := ⟨g, 57 + k, none⟩) (.inl (.inl rfl)) (.bool false)))
  have HVB := Lib.hid ((sgsT 44 (v k) (x.F k).q).keep HVW.out (Keep.setCells (S := fun j => j = g) rfl (flL nilV Fl.zero) (9 + k * 6) ((Keep.refl (fun j => j = g) wz).setCell (p := ⟨g, 57 + k, none⟩) (.inl rfl) (.bool false))) (fun j e e2 => HVG.out (by rw [e, e2])))
  clear hT HW HKW HVW
  refine wpSch_call rfl (by rfl) (fun K' hK' => ?_); go_simp
  refine hK'.out _ _ trivial (fun hHeld => ?_)
  clear hK' K' hHeld ct cf
  (try simp only [Act.put, List.setIfInBounds_toArray, List.set_cons_zero, List.set_cons_succ])
  (repeat (refine wpSch_yes (v := ?_) rfl (fun _ _ _ h => h) (by rfl) ?_ ?_; rotate_left; (next => (intro w hSw; clear hSw; go_simp; (try with_reducible rfl))); (try simp only [Act.put, List.setIfInBounds_toArray, List.set_cons_zero, List.set_cons_succ])))
  refine wpSch_call rfl (by rfl) (fun K' hK' => ?_)
  refine wp_store_mid 34 (.tmp 43) (.tmp 37) rfl g (9 + k * 6) (flL nilV Fl.zero).toArray rfl rfl HTH.out Tryz.sizeFl (one_fl Fl.zero) ?_
  refine hK'.out _ _ trivial (fun hHeld => ?_)
  clear hK' K' hHeld HTH
  (try simp only [Act.put, List.setIfInBounds_toArray, List.set_cons_zero, List.set_cons_succ])
  generalize World.setCells _ _ _ _ = wy at *
  refine wpSch_nil ?_
  have HS : Hid (RQ wy g _ (upF v k nilV) n1 o1 (clsQ x (k : Int))) := Lib.hid (by
    have h := HB.out
    unfold clsQ
    rw [if_pos ⟨⟨by omega, hi1⟩, HT.out⟩]
    exact h)
  clear HB
  go_wp2
  go_ret
  exact ⟨by rw [HSV.out]; rfl, HVB.out, _, _, _, HS.out, HKB.out, fun j e => HN1.out j (own_blank e)⟩
theorem one_flat : ∀ q : List Sg, ∀ u ∈ flatG q, u.oneCell' = true
  | [], u, hu => by cases hu
  | s :: r, u, hu => by
    rcases List.mem_append.1 (show u ∈ s.cells ++ flatG r from hu) with a | a
    · exact one_sg s u a
    · exact one_flat r u a
/-- Segments are read out of their row. -/
theorem sgs_news {E : TypeId} {a : Option Addr} {m cap : Nat} {q : List Sg} (h : (sgsT E (.slice a m cap) q).at_ w) : (a = none → m = 0 ∧ cap = 0) ∧ ∀ ad, a = some ad → ∀ j u, (flatG q)[j]? = some u → w.cell? (ad.add j) = some u := by
  have h' : w.ownsRow 0 E 5 (.slice a m cap) q.length (flatG q) := h
  refine ⟨fun e => ?_, fun ad e j u hu => ?_⟩
  · rcases h'.2 with ⟨e2, _⟩ | ⟨g', cap', cur, e2, _⟩
    · injection e2 with e3 e4 e5
      exact ⟨e4, e5⟩
    · rw [e] at e2; injection e2 with e3; cases e3
  · rcases h'.2 with ⟨e2, _⟩ | ⟨g', cap', cur, e2, _⟩
    · rw [e] at e2; injection e2 with e3; cases e3
    · have e3 : a = some ⟨g', 0, none⟩ := by injection e2
      have : ad = ⟨g', 0, none⟩ := by rw [e] at e3; injection e3
      subst this
      exact World.ownsRow.cells h' (g := g') (by rw [e]; rfl) j u hu
def zfl : Array Value := #[.int .i64 0, .int .i64 0, .int .i64 0, .int .u64 0, .int .u64 0, .slice none 0 0]
set_option maxHeartbeats 1000000 in
theorem RQat.flow_no (h : RQ w g cs v n o x) (z : Int) (hz : ¬ ((0 ≤ z ∧ z < 8) ∧ x.T z.toNat = true)) :
    Calls Tryz.prog 59 #[.pointer (some ⟨g, 0, none⟩), .int .i64 z] w fun e w' => e = .returned (.tuple #[Fl.v (.slice none 0 0) Fl.zero, .bool false]) ∧ Keep (fun _ => False) w w' := by
  have K := Lib.hid ((Keep.refl (fun _ => False) w).alloc (.cells #[.int .i64 0, .int .i64 0, .int .i64 0, .int .u64 0, .int .u64 0, .slice none 0 0] 34))
  have H := Lib.hid (h.kept K.out)
  have HZ := Lib.hid (Whole.new w 34 #[.int .i64 0, .int .i64 0, .int .i64 0, .int .u64 0, .int .u64 0, .slice none 0 0])
  clear h
  go_enter Tryz.func59, Tryz.ntmps59
  by_cases h0 : z < 0
  · clear hz
    go_wp2
    refine bodyPost_ret (v := .tuple #[.agg #[.int .i64 0, .int .i64 0, .int .i64 0, .int .u64 0, .int .u64 0, .slice none 0 0], .bool false]) (by rw [results_cell_tmp rfl]; go_simp) rfl ?_
    exact ⟨rfl, K.out⟩
  · by_cases h8 : z < 8
    · obtain ⟨k, rfl⟩ : ∃ k : Nat, z = (k : Int) := ⟨z.toNat, by omega⟩
      have hk : k < 8 := by omega
      have ht : x.T k = false := by
        cases ht : x.T k with
        | false => rfl
        | true => exact absurd ⟨⟨by omega, h8⟩, ht⟩ hz
      have ct := H.out.cT hk
      rw [ht] at ct
      clear hz hk ht
      go_wp2
      refine bodyPost_ret (v := .tuple #[.agg #[.int .i64 0, .int .i64 0, .int .i64 0, .int .u64 0, .int .u64 0, .slice none 0 0], .bool false]) (by rw [results_cell_tmp rfl]; go_simp) rfl ?_
      exact ⟨rfl, K.out⟩
    · clear hz
      go_wp2
      refine bodyPost_ret (v := .tuple #[.agg #[.int .i64 0, .int .i64 0, .int .i64 0, .int .u64 0, .int .u64 0, .slice none 0 0], .bool false]) (by rw [results_cell_tmp rfl]; go_simp) rfl ?_
      exact ⟨rfl, K.out⟩
theorem there_fl {W : World} {B : Nat} {t : TypeId} {a b c d e f : Value} (h : Whole W B t #[a, b, c, d, e, f]) : W.there B 0 6 := fun j hj => by
  rw [Nat.zero_add]
  exact ⟨by rw [h.cell, Array.getElem?_eq_getElem (by simpa using hj)]; rfl, h.free j⟩
theorem puts_fl {W : World} {B : Nat} {t : TypeId} {a b c d e f : Value} {l : List Value} (hl : l.length = 6) (h : Whole W B t #[a, b, c, d, e, f]) : Whole (W.setCells B 0 l) B t l.toArray := by
  have h1 := h.puts l 0
  rwa [show Lib.lay #[a, b, c, d, e, f] 0 l = l.toArray from Lib.lay_all _ _ hl] at h1
theorem range_of {W : World} {B : Nat} {t : TypeId} {l : List Value} (h : Whole W B t l.toArray) : W.rangeAt B 0 l := fun j u hu => by
  rw [Nat.zero_add, h.cell, List.getElem?_toArray]; exact hu
theorem one_flV {a : Option Addr} {m cap : Nat} (f : Fl) : (flL (.slice a m cap) f).toArray.all (·.oneCell') = true := all_oneCell_toArray (fun u hu => by
  simp only [flL, List.mem_cons, List.not_mem_nil, or_false] at hu
  rcases hu with rfl | rfl | rfl | rfl | rfl | rfl <;> rfl)
set_option maxHeartbeats 4000000 in
theorem RQat.flow_yes (h : RQ w g cs v n o x) (hx : x.Ok) {k : Nat} (hk : k < 8) (ht : x.T k = true) :
    Calls Tryz.prog 59 #[.pointer (some ⟨g, 0, none⟩), .int .i64 (k : Int)] w fun e w' => ∃ V, e = .returned (.tuple #[Fl.v V (x.F k), .bool true]) ∧ (sgsT 44 V (x.F k).q).at_ w' ∧ (∀ j, V.ownBlock = some j → w.heap.size ≤ j) ∧ Keep (fun _ => False) w w' := by
  obtain ⟨i0, hi0, hz0, hz1, hz2⟩ : ∃ i : TypeInfo, Tryz.prog.info? 44 = some i ∧ i.zero = some Sg.zero.v ∧ i.size = 5 ∧ i.bytes = 40 := by
    have h := Tryz.infoSg
    cases hi : Tryz.prog.info? 44 with
    | none => rw [hi] at h; cases h
    | some i => rw [hi] at h; simp at h; exact ⟨i, rfl, h.1, h.2.1, h.2.2⟩
  have HI0 := Lib.hid hi0; have HZ0 := Lib.hid hz0; have HZ1 := Lib.hid hz1; have HZ2 := Lib.hid hz2
  have HL : Hid ((x.F k).q.length ≤ 512) := Lib.hid (Nat.le_trans (lenQ_le (x := x) hk) hx.len)
  have K := Lib.hid ((Keep.refl (fun _ => False) w).alloc (.cells #[.int .i64 0, .int .i64 0, .int .i64 0, .int .u64 0, .int .u64 0, .slice none 0 0] 34))
  have H := Lib.hid (h.kept K.out)
  have HA := Lib.hid (Whole.new w 34 #[.int .i64 0, .int .i64 0, .int .i64 0, .int .u64 0, .int .u64 0, .slice none 0 0])
  have HI := Lib.hid hk
  have hi1 : (k : Int) < 8 := by omega
  obtain ⟨va, vc, hv⟩ := h.shape hk
  have HSV := Lib.hid hv
  have ct := H.out.cT hk
  rw [ht] at ct
  clear h hx hk ht hi0 hz0 hz1 hz2 hv
  go_enter Tryz.func59, Tryz.ntmps59
  go_upto_region 1 with fail
  generalize hA : w.heap.size = A at *
  generalize w.alloc _ = wa at *
  go_upto_region 3 with fail
  clear ct
  have HR := Lib.hid (range_fl H.out HI.out)
  have HBn := Lib.hid (Whole.new wa 34 #[.int .i64 0, .int .i64 0, .int .i64 0, .int .u64 0, .int .u64 0, .slice none 0 0])
  have HTB := Lib.hid (there_fl HBn.out)
  have HAB := Lib.hid (HA.out.alloc (.cells #[.int .i64 0, .int .i64 0, .int .i64 0, .int .u64 0, .int .u64 0, .slice none 0 0] 34))
  have HLT : Hid (A < wa.heap.size) := Lib.hid HA.out.lt
  obtain ⟨Z, hZ⟩ : ∃ Z : List Value, Z = flL (v k) (x.F k) := ⟨_, rfl⟩
  have HZL : Hid (Z.length = 6) := Lib.hid (by rw [hZ]; rfl)
  have HZO : Hid (Z.toArray.all (·.oneCell') = true) := Lib.hid (by rw [hZ, HSV.out]; exact one_flV _)
  have HZS : Hid ((Tryz.prog.info? 34).map (·.size) = some Z.toArray.size) := Lib.hid (by rw [hZ]; exact Tryz.sizeFl)
  have HTZ : Hid ((wa.alloc (.cells #[.int .i64 0, .int .i64 0, .int .i64 0, .int .u64 0, .int .u64 0, .slice none 0 0] 34)).there wa.heap.size 0 Z.toArray.size) := Lib.hid (by have h := HTB.out; rw [show Z.toArray.size = 6 by rw [List.size_toArray, HZL.out]]; exact h)
  have HZE := Lib.hid hZ
  rw [← hZ] at HR
  clear hZ
  go_upto_region 4 with (first
    | (refine wpList_load_mid rfl 34 (.tmp 27) rfl g (9 + k * 6) rfl Z _ HR.out Tryz.underlying34 rfl (by rw [← List.size_toArray]; exact HZS.out) ?_)
    | (refine wpList_store_mid rfl 34 (.tmp 6) (.tmp 28) rfl wa.heap.size 0 Z.toArray rfl rfl HTZ.out HZS.out HZO.out ?_))
  have hk1 : Keep (fun _ => False) wa ((wa.alloc (.cells #[.int .i64 0, .int .i64 0, .int .i64 0, .int .u64 0, .int .u64 0, .slice none 0 0] 34)).setCells wa.heap.size 0 Z) :=
    ((Keep.refl (fun _ => False) wa).alloc _).then (Keep.setCells (S := fun j => j = wa.heap.size) rfl Z 0 (Keep.refl _ _)) (fun j e hlt => by omega)
  have hb1 := puts_fl HZL.out HBn.out
  have ha1 := HA.out.keep hk1 id
  have hv1 := (sgsT 44 (v k) (x.F k).q).keep (H.out.q k HI.out) hk1 (fun _ _ => id)
  have HK1 := Lib.hid (K.out.trans hk1)
  have HB1 := Lib.hid hb1; have HA1 := Lib.hid ha1; have HV1 := Lib.hid hv1
  clear hk1 hb1 ha1 hv1 HR HBn HTB HAB HZO HZS HTZ H HA K
  generalize hB : wa.heap.size = B at *
  generalize World.setCells _ _ _ _ = w1 at *
  have HBA : Hid (A < B) := Lib.hid HLT.out
  have hAw := HK1.out.size
  obtain ⟨q, hq⟩ : ∃ q, (x.F k).q = q := ⟨_, rfl⟩
  obtain ⟨LL, hLL⟩ : ∃ LL, q.length = LL := ⟨_, rfl⟩
  have hv2 := HV1.out
  rw [HSV.out, hq, hLL] at hv2
  have HV2 := Lib.hid hv2
  have HNW := Lib.hid (sgs_news hv2)
  have HLL : Hid (LL ≤ 512) := Lib.hid (by rw [← hLL, ← hq]; exact HL.out)
  have HLQ := Lib.hid hLL; have HQQ := Lib.hid hq
  have hz5 : Z.toArray[5]? = some (.slice va LL vc) := by rw [HZE.out]; show some (v k) = _; rw [HSV.out, hq, hLL]
  have c5 : w1.cell? ⟨B, 5, none⟩ = some (.slice va LL vc) := (HB1.out.cell 5).trans hz5
  clear hz5 hv2 hLL hq hB HLT
  go_upto_region 5 with (at_builtin; refine wpList_append_rows rfl _ _ 32 rfl 44 i0 Sg.zero.v 5 40 Tryz.underlying32 HI0.out HZ0.out HZ1.out HZ2.out rfl (by decide) (.slice none 0 0) 0 [] rfl (World.ownsRow_nil _ _ _ _) va LL vc (flatG q) rfl (by rw [flatG_len, HLQ.out]) HNW.out.1 HNW.out.2 (one_flat q) (by unfold maxLen; have := HLL.out; omega) (by have := HLL.out; omega) ?_; intro v' w2 hown hk2 hn2 _; have hrow : (sgsT 44 v' q).at_ w2 := (by rw [List.nil_append, Nat.zero_add] at hown; show w2.ownsRow 0 44 5 v' q.length (flatG q); rw [HLQ.out]; exact hown); obtain ⟨a', cap', hv'⟩ := sgs_shape hrow; rw [HLQ.out] at hv'; have hk2' : Keep (fun _ => False) w1 w2 := hk2.mono (fun j e => by cases e); have HROW := Lib.hid hrow; have HK2 := Lib.hid (HK1.out.trans hk2'); have HN2 : Hid (∀ j, v'.ownBlock = some j → w1.heap.size ≤ j) := Lib.hid (fun j e => by rcases hn2 j e with h | h; cases h; exact h); have hb2 := HB1.out.keep hk2' id; have HB2 := Lib.hid hb2; have HA2 := Lib.hid (HA1.out.keep hk2' id); have HSZ : Hid (w1.heap.size ≤ w2.heap.size) := Lib.hid hk2'.size; have c5 : w2.cell? ⟨B, 5, none⟩ = some (.slice va LL vc) := (hk2'.cell (p := ⟨B, 5, none⟩) HB1.out.lt id).trans c5; have f5 := hb2.free 5; clear hown hk2 hn2 hrow hk2' hb2; subst hv')
  have hb3 := HB2.out.put 5 (.slice a' LL cap')
  rw [show Z.toArray.setIfInBounds 5 (.slice a' LL cap') = (flL (.slice a' LL cap') (x.F k)).toArray by rw [HZE.out]; rfl] at hb3
  have HB3 := Lib.hid hb3
  have HA3 := Lib.hid (HA2.out.far (p := ⟨B, 5, none⟩) (Nat.ne_of_lt HBA.out) (.slice a' LL cap'))
  have HBL : Hid (w.heap.size ≤ B ∧ B < w1.heap.size) := Lib.hid ⟨by have := HBA.out; omega, HB1.out.lt⟩
  have HROW3 := Lib.hid ((sgsT 44 (.slice a' LL cap') q).keep HROW.out ((Keep.refl (fun j => j = B) w2).setCell (p := ⟨B, 5, none⟩) (.inl rfl) (.slice a' LL cap')) (fun j e e2 => by have := HN2.out j e; have := HBL.out; omega))
  have HK3 := Lib.hid (HK2.out.setCell (p := ⟨B, 5, none⟩) (.inr HBL.out.1) (.slice a' LL cap'))
  clear hb3 HB2 HA2 HROW HK2 c5 f5
  generalize World.setCell w2 _ _ = w3 at *
  obtain ⟨Y, hY⟩ : ∃ Y : List Value, Y = flL (.slice a' LL cap') (x.F k) := ⟨_, rfl⟩
  have HYL : Hid (Y.length = 6) := Lib.hid (by rw [hY]; rfl)
  have HYO : Hid (Y.toArray.all (·.oneCell') = true) := Lib.hid (by rw [hY]; exact one_flV _)
  have HYS : Hid ((Tryz.prog.info? 34).map (·.size) = some Y.toArray.size) := Lib.hid (by rw [hY]; exact Tryz.sizeFl)
  have HYR : Hid (w3.rangeAt B 0 Y) := Lib.hid (by rw [hY]; exact range_of HB3.out)
  have HTY : Hid (w3.there A 0 Y.toArray.size) := Lib.hid (by rw [show Y.toArray.size = 6 by rw [List.size_toArray, HYL.out]]; exact there_fl HA3.out)
  have HYE := Lib.hid hY
  have hb4 := puts_fl HYL.out HA3.out
  have HK4 := Lib.hid (HK3.out.then (Keep.setCells (S := fun j => j = A) rfl Y 0 (Keep.refl _ w3)) (fun j e hlt => by omega))
  have HROW4 := Lib.hid ((sgsT 44 (.slice a' LL cap') q).keep HROW3.out (Keep.setCells (S := fun j => j = A) rfl Y 0 (Keep.refl _ w3)) (fun j e e2 => by have := HN2.out j e; have := HBL.out; have := HBA.out; omega))
  rw [hY] at hb4
  have e0 := hb4.cell 0; have e1 := hb4.cell 1; have e2 := hb4.cell 2; have e3 := hb4.cell 3; have e4 := hb4.cell 4; have e5 := hb4.cell 5
  replace e0 := e0.trans (show _ = some (Value.int .i64 (x.F k).s) from rfl); replace e1 := e1.trans (show _ = some (Value.int .i64 (x.F k).c) from rfl); replace e2 := e2.trans (show _ = some (Value.int .i64 (x.F k).p) from rfl); replace e3 := e3.trans (show _ = some (Value.int .u64 (x.F k).n) from rfl); replace e4 := e4.trans (show _ = some (Value.int .u64 (x.F k).u) from rfl); replace e5 := e5.trans (show _ = some (Value.slice a' LL cap') from rfl)
  rw [← hY] at e0 e1 e2 e3 e4 e5
  clear hY hb4 HB3 HA3 HROW3
  go_wp2_with (first
    | (refine wpList_load_mid rfl 34 (.tmp 6) rfl B 0 rfl Y _ HYR.out Tryz.underlying34 rfl (by rw [← List.size_toArray]; exact HYS.out) ?_)
    | (refine wpList_store_mid rfl 34 (.tmp 4) (.tmp 33) rfl A 0 Y.toArray rfl rfl HTY.out HYS.out HYO.out ?_))
  try rw [show Y.toArray.toList = Y from rfl] at *
  generalize World.setCells w3 _ _ _ = w4 at *
  refine bodyPost_ret (v := .tuple #[.agg #[.int .i64 (x.F k).s, .int .i64 (x.F k).c, .int .i64 (x.F k).p, .int .u64 (x.F k).n, .int .u64 (x.F k).u, .slice a' LL cap'], .bool true]) (by rw [results_cell_tmp rfl]; go_simp) rfl ?_
  exact ⟨.slice a' LL cap', rfl, by rw [HQQ.out]; exact HROW4.out, fun j e => by have := HN2.out j e; omega, HK4.out⟩
end
end Go.Proofs.YtnljjdfajmjdjaaGreat
