/-
  (*lists.Lists).All hands back a function that tells the new ones, then the old ones, as they are, till it is told to stop: ranged over by a loop. Conditions: the lists lie in memory as two lines, or are nil.
-/
import Derived.Test.YtoekmdidonnamaaLstLine
import Derived.Test.YtoekmdidonnamaaRangeO
import Derived.RangeFuncCalls
import Derived.RangeFuncBox
import Derived.Shelf.RegionOpen
import Derived.OwnWalkIn
import Derived.TacticsInMore
import Derived.LoopNIn
import Derived.LoopIn
import Derived.Deep.MidRow
namespace Go.Proofs.Ytoekmdidonnamaa
open Go.RowKit Go.Shelf
set_option maxRecDepth 100000

attribute [local go_sem] Oper.semAt_some

theorem Try.hmf (fn : Fn) (first cap : Array Value) (w : World) : (Instr.makeFunc fn first cap).run Try.prog w = .ok (.func fn first cap) w := rfl
theorem Try.hnf (fn : Fn) (first cap : Array Value) (w : World) : (binOp .eql 128 (.func fn first cap) .nilFunc).run Try.prog w = .ok (.bool false) w := by kernel_rfl
theorem Try.hnf' (fn : Fn) (first cap : Array Value) (w : World) : (binOp .eql 107 (.func fn first cap) .nilFunc).run Try.prog w = .ok (.bool false) w := by kernel_rfl

/-! ### What All hands back -/
set_option maxHeartbeats 400000 in
theorem lall_nil (w : World) :
    Calls Try.prog 54 #[.pointer none] w fun e w' => e = .returned (.func (.func 73) #[] #[.pointer (some ⟨w.heap.size, 0, none⟩)]) ∧ LsAt w' w.heap.size [] [] ∧ Keep (fun _ => False) w w' := by
  have hmf := Try.hmf
  go_enter Try.func54, Try.ntmps54
  go_wp2
  go_ret
  exact ⟨rfl, ⟨zero18, Whole.new w 70 zero18, zero18_ls⟩, (Keep.refl _ w).alloc _⟩

theorem Try.size18 : (Try.prog.info? 70).map (·.size) = some 18 := by kernel_rfl
theorem LsC.one {cs : Array Value} {N O : List Int} (h : LsC cs N O) : cs.all (·.oneCell') = true := by
  refine Array.all_eq_true_iff_forall_mem.2 fun v hv => ?_
  obtain ⟨i, hi, rfl⟩ := Array.mem_iff_getElem.1 hv
  have hsz := h.size
  by_cases e : i < 9
  · have := h.new i e
    rw [Nat.zero_add, Array.getElem?_eq_getElem hi] at this
    rw [Option.some.inj this]; unfold lineV; split <;> rfl
  · have := h.old (i - 9) (by omega)
    rw [show 9 + (i - 9) = i by omega, Array.getElem?_eq_getElem hi] at this
    rw [Option.some.inj this]; unfold lineV; split <;> rfl

theorem lay_full (d cs : Array Value) (h : cs.size = d.size) : Lib.lay d 0 cs.toList = cs := by
  apply Array.ext_getElem?
  intro j
  rw [lay_at _ _ _ _ (by rw [Array.length_toList]; omega), Array.length_toList]
  by_cases e : j < cs.size
  · rw [if_pos (by omega), Nat.sub_zero, Array.getElem?_toList]
  · rw [if_neg (by omega), Array.getElem?_eq_none (by omega), Array.getElem?_eq_none (by omega)]

set_option maxHeartbeats 1000000 in
set_option maxRecDepth 100000 in
theorem lall_at {Tb : TypeId} (g off : Nat) (ds : Array Value) (N O : List Int) (w : World) (h : Whole w g Tb ds) (hn : LineC ds off N) (ho : LineC ds (off + 9) O) :
    Calls Try.prog 54 #[.pointer (some ⟨g, off, none⟩)] w fun e w' => e = .returned (.func (.func 73) #[] #[.pointer (some ⟨w.heap.size, 0, none⟩)]) ∧ LsAt w' w.heap.size N O ∧ Keep (fun _ => False) w w' := by
  have hmf := Try.hmf
  obtain ⟨cs, hcs⟩ : ∃ cs, cs = ds.extract off (off + 18) := ⟨_, rfl⟩
  have hrm := ho.room
  have hget : ∀ j, j < 18 → cs[j]? = ds[off + j]? := fun j hj => by
    rw [hcs, Array.getElem?_extract, if_pos (by omega)]
  have hsz : cs.size = 18 := by rw [hcs, Array.size_extract]; omega
  have hc : LsC cs N O := ⟨hsz, fun j hj => by rw [hget _ (by omega), Nat.zero_add]; exact hn j hj, fun j hj => by rw [hget _ (by omega), ← Nat.add_assoc]; exact ho j hj⟩
  have hz := Whole.new w 70 zero18
  have HR : Hid ((w.alloc (.cells zero18 70)).rangeAt g off cs.toList) := Lib.hid fun j v hv => by
    rw [(h.alloc _).cell (off + j)]
    have hv' : cs[j]? = some v := by simpa using hv
    rw [← hget j (by have := (Array.getElem?_eq_some_iff.1 hv').1; omega)]
    exact hv'
  have HT : Hid ((w.alloc (.cells zero18 70)).there w.heap.size 0 cs.size) := Lib.hid fun j hj => by
    rw [hc.size] at hj
    rw [Nat.zero_add]
    exact ⟨by rw [hz.cell, Array.getElem?_eq_getElem (by simpa [zero18] using hj)]; rfl, hz.free j⟩
  have HS : Hid ((Try.prog.info? 70).map (·.size) = some cs.size) := Lib.hid (by rw [hc.size]; exact Try.size18)
  have HS' : Hid ((Try.prog.info? 70).map (·.size) = some cs.toList.length) := Lib.hid (by rw [Array.length_toList, hc.size]; exact Try.size18)
  have H1 := Lib.hid hc.one
  have HW := Lib.hid (hz.puts cs.toList 0); have HC := Lib.hid hc
  clear h hc hz hn ho hrm hget hsz hcs
  unfold zero18 at HR HT HW
  go_enter Try.func54, Try.ntmps54
  go_wp2_with (first
    | (refine wpList_load_mid rfl 70 (.tmp 7) rfl g off rfl cs.toList _ HR.out Try.underlying70 rfl HS'.out ?_)
    | (refine wpList_store_mid rfl 70 (.tmp 3) (.tmp 8) rfl w.heap.size 0 cs rfl rfl HT.out HS.out H1.out ?_))
  go_ret
  refine ⟨rfl, ⟨_, HW.out, ?_⟩, Keep.of_below ((((Keep.refl (fun k => w.heap.size ≤ k) w).alloc _).below (Nat.le_refl _) (fun _ h => h)).trans (Keep.below (Keep.setCells (S := fun k => w.heap.size ≤ k) (Nat.le_refl _) _ 0 (Keep.refl _ _)) (by simp) (fun _ h => h)))⟩
  rw [show Lib.lay _ 0 cs.toList = cs from lay_full _ _ (by rw [HC.out.size]; rfl)]
  exact HC.out
theorem lall_any (g : Nat) (N O : List Int) (w : World) (h : LsAt w g N O) :
    Calls Try.prog 54 #[.pointer (some ⟨g, 0, none⟩)] w fun e w' => e = .returned (.func (.func 73) #[] #[.pointer (some ⟨w.heap.size, 0, none⟩)]) ∧ LsAt w' w.heap.size N O ∧ Keep (fun _ => False) w w' := by
  obtain ⟨cs, h, hc⟩ := h
  exact lall_at g 0 cs N O w h hc.new hc.old

/-! ### slices.Values of a row of numbers -/
theorem take_more (l : List Int) {k : Nat} (h : k < l.length) : l.take (k + 1) = l.take k ++ [l.getD k 0] := by
  rw [List.take_succ_eq_append_getElem h]; simp [h]

set_option maxRecDepth 100000 in
set_option maxHeartbeats 2000000 in
theorem sval1_in (F : Fence) (n : Nat) (h8 : F.fn 85) (hro : F.round = none) (hn : 1 ≤ n) (R : Nat → Prop) (l Bs b off cap len : Nat) (zs : List Int) (hlen : len = zs.length) (hreach : len ≤ 4096) (hRb : ¬ R b) (J Jx : List Int → World → Prop)
    (hY : ∀ pre x W, J pre W → pre.length < len → YieldAt F (n - 1) Try.prog l #[.int .i64 x] W fun e W' =>
      (e = .returned (.bool true) ∧ J (pre ++ [x]) W' ∧ Keep R W W') ∨ (e = .returned (.bool false) ∧ Jx (pre ++ [x]) W'))
    (W : World) (hb : b < W.heap.size) (hBs : W.cell? ⟨Bs, 0, none⟩ = some (.slice (some ⟨b, off, none⟩) len cap)) (hc : ∀ j, j < len → W.cell? ⟨b, off + j, none⟩ = some (.int .i64 (zs.getD j 0))) (h0 : J [] W) :
    CallsIn F n Try.prog 85 #[.func (.yield l) #[] #[], .pointer (some ⟨Bs, 0, none⟩)] W fun e W' => (∃ v, e = .returned v) ∧
      ((∃ ys, ys = zs ∧ J ys W') ∨ (∃ pre, (∃ k, k ≤ len ∧ pre = zs.take k) ∧ Jx pre W')) := by
  refine callsIn_of_wp Try.func85 rfl h8 ?_ hro
  simp only [Try.ntmps85, List.size_toArray, List.length_cons, List.length_nil, Nat.reduceAdd, Nat.reduceSub, Array.replicate_succ, Array.replicate_zero, List.push_toArray, List.append_toArray, List.nil_append, List.cons_append]
  gi_wp2
  gi_loopw [7] (fun i wr => ∃ k : Nat, k ≤ len ∧ i = .int .i64 k ∧ J (zs.take k) wr ∧ Keep R W wr)
    (fun i _ => len - (intOf i).toNat)
  case atStart => exact ⟨0, Nat.zero_le _, rfl, by simpa using h0, Keep.refl _ _⟩
  case round =>
    obtain ⟨k, hk, rfl, hJs, hnx⟩ := hrel
    by_cases hlt : k < len
    · have hcx : wr.cell? ⟨b, off + k, none⟩ = some (.int .i64 (zs.getD k 0)) := (hnx.cell (p := ⟨b, off + k, none⟩) hb hRb).trans (hc k hlt)
      obtain ⟨fn, tmps, assign, body, hy, hR⟩ := hY _ (zs.getD k 0) wr hJs (by rw [List.length_take]; omega)
      have HTK := Lib.hid (take_more zs (k := k) (by omega))
      rw [← HTK.out] at hR
      generalize zs.getD k 0 = x at *
      gi_wp2
      refine hR.mono ?_
      rintro e W3 (⟨rfl, hJ3, hk3⟩ | ⟨rfl, hJx3⟩)
      · gi_wp2
        go_roundw
        case rel => exact ⟨k + 1, by omega, by go_num, hJ3, hnx.trans hk3⟩
        case measure => simp [intOf]; omega
      · gi_wp2
        refine bodyPost_ret (results_none rfl _ _ _) rfl ?_
        exact ⟨⟨_, rfl⟩, .inr ⟨_, ⟨k + 1, by omega, rfl⟩, hJx3⟩⟩
    · obtain rfl : k = len := by omega
      have hall : zs.take k = zs := List.take_of_length_le (by omega)
      rw [hall] at hJs
      gi_wp2
      go_end0
      exact ⟨⟨_, rfl⟩, .inl ⟨_, rfl, hJs⟩⟩

set_option maxHeartbeats 1000000 in
theorem sval_in (F : Fence) (n : Nat) (h6 : F.fn 74) (hro : F.round = none) (a : Option Addr) (len cap : Nat) (w : World) :
    CallsIn F n Try.prog 74 #[.slice a len cap] w fun e w' => e = .returned (.func (.func 85) #[] #[.pointer (some ⟨w.heap.size, 0, none⟩)]) ∧ w' = w.alloc (.cells #[.slice a len cap] 55) := by
  refine callsIn_of_wp Try.func74 rfl h6 ?_ hro
  simp only [Try.ntmps74, List.size_toArray, List.length_cons, List.length_nil, Nat.reduceAdd, Nat.reduceSub, Array.replicate_succ, Array.replicate_zero, List.push_toArray, List.append_toArray, List.nil_append, List.cons_append]
  have hmf := Try.hmf
  gi_wp2
  go_ret
  exact ⟨rfl, rfl⟩

theorem sval_stops (F : Fence) (n : Nat) (h8 : F.fn 85) (hro : F.round = none) (hn : 1 ≤ n) (Bs b off cap len : Nat) (zs : List Int) (hlen : len = zs.length) (hreach : len ≤ 4096) (w : World) (hb : b < w.heap.size)
    (hBs : w.cell? ⟨Bs, 0, none⟩ = some (.slice (some ⟨b, off, none⟩) len cap)) (hc : ∀ j, j < len → w.cell? ⟨b, off + j, none⟩ = some (.int .i64 (zs.getD j 0))) :
    SeqStopsK F n Try.prog 85 #[.pointer (some ⟨Bs, 0, none⟩)] (fun x : Int => #[Value.int .i64 x]) (Keep fun k => k ≠ b) (fun ys => ys = zs)
      (fun pre => ∃ k, k ≤ len ∧ pre = zs.take k) len w := fun l J Jx W hW _ _ hY h0 =>
  sval1_in F n h8 hro hn (fun k => k ≠ b) l Bs b off cap len zs hlen hreach (fun h => h rfl) J Jx hY W (Nat.lt_of_lt_of_le hb hW.size)
    ((hW.cell (p := ⟨Bs, 0, none⟩) (lt_of_cell hBs)).trans hBs) (fun j hj => (hW.cell (p := ⟨b, off + j, none⟩) hb).trans (hc j hj)) h0
end Go.Proofs.Ytoekmdidonnamaa
