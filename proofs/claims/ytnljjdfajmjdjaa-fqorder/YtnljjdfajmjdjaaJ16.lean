/-
  (*lists.Lists).All hands back a function that tells the new ones, then the old ones, as they are, till it is told to stop: ranged over by a loop. Conditions: the lists lie in memory as two lines, or are nil.
  The function that (*lists.Lists).All hands back, ranged over by a loop, or called with a function: it tells the new ones, then the old ones. Conditions: the lists lie in memory as two lines; the rounds leave what the function reads.
-/
import Derived.Test.YtnljjdfajmjdjaaJ15
import Derived.RangeFuncCalls
import Derived.RangeFuncBox
import Derived.Shelf.RegionOpen
import Derived.OwnWalkIn
import Derived.TacticsInMore
import Derived.LoopNIn
import Derived.LoopIn
import Derived.Deep.MidRow
namespace Go.Proofs.Ytnljjdfajmjdjaa
open Go.RowKit Go.Shelf
set_option maxRecDepth 100000

attribute [local go_sem] Oper.semAt_some

theorem Try.hmf (fn : Fn) (first cap : Array Value) (w : World) : (Instr.makeFunc fn first cap).run Try.prog w = .ok (.func fn first cap) w := rfl
theorem Try.hnf (fn : Fn) (first cap : Array Value) (w : World) : (binOp .eql 134 (.func fn first cap) .nilFunc).run Try.prog w = .ok (.bool false) w := by kernel_rfl
theorem Try.hnf' (fn : Fn) (first cap : Array Value) (w : World) : (binOp .eql 113 (.func fn first cap) .nilFunc).run Try.prog w = .ok (.bool false) w := by kernel_rfl

/-! ### What All hands back -/
set_option maxHeartbeats 400000 in
theorem lall_nil (w : World) :
    Calls Try.prog 63 #[.pointer none] w fun e w' => e = .returned (.func (.func 82) #[] #[.pointer (some ⟨w.heap.size, 0, none⟩)]) ∧ LsAt w' w.heap.size [] [] ∧ Keep (fun _ => False) w w' := by
  have hmf := Try.hmf
  go_enter Try.func63, Try.ntmps63
  go_wp2
  go_ret
  exact ⟨rfl, ⟨zero18, Whole.new w 80 zero18, zero18_ls⟩, (Keep.refl _ w).alloc _⟩

theorem Try.size18 : (Try.prog.info? 80).map (·.size) = some 18 := by kernel_rfl
theorem LsC.one {cs : Array Value} {N O : List Int} (h : LsC cs N O) : cs.all (·.oneCell') = true := by
  refine Array.all_eq_true_iff_forall_mem.2 fun v hv => ?_
  obtain ⟨i, hi, rfl⟩ := Array.mem_iff_getElem.1 hv
  have hsz := h.size
  by_cases e : i < 9
  · have := h.new i e
    rw [Nat.zero_add, Array.getElem?_eq_getElem hi] at this
    rw [Option.some.inj this]; unfold lineV; split <;> rfl
  · have := h.old (i - 9) (by omega)
    rw [show 9 + (i - 9) = i by omega, Array.getElem?_eq_getElem hi] at this
    rw [Option.some.inj this]; unfold lineV; split <;> rfl

theorem lay_full (d cs : Array Value) (h : cs.size = d.size) : Lib.lay d 0 cs.toList = cs := by
  apply Array.ext_getElem?
  intro j
  rw [lay_at _ _ _ _ (by rw [Array.length_toList]; omega), Array.length_toList]
  by_cases e : j < cs.size
  · rw [if_pos (by omega), Nat.sub_zero, Array.getElem?_toList]
  · rw [if_neg (by omega), Array.getElem?_eq_none (by omega), Array.getElem?_eq_none (by omega)]

set_option maxHeartbeats 1000000 in
set_option maxRecDepth 100000 in
theorem lall_at {Tb : TypeId} (g off : Nat) (ds : Array Value) (N O : List Int) (w : World) (h : Whole w g Tb ds) (hn : LineC ds off N) (ho : LineC ds (off + 9) O) :
    Calls Try.prog 63 #[.pointer (some ⟨g, off, none⟩)] w fun e w' => e = .returned (.func (.func 82) #[] #[.pointer (some ⟨w.heap.size, 0, none⟩)]) ∧ LsAt w' w.heap.size N O ∧ Keep (fun _ => False) w w' := by
  have hmf := Try.hmf
  obtain ⟨cs, hcs⟩ : ∃ cs, cs = ds.extract off (off + 18) := ⟨_, rfl⟩
  have hrm := ho.room
  have hget : ∀ j, j < 18 → cs[j]? = ds[off + j]? := fun j hj => by
    rw [hcs, Array.getElem?_extract, if_pos (by omega)]
  have hsz : cs.size = 18 := by rw [hcs, Array.size_extract]; omega
  have hc : LsC cs N O := ⟨hsz, fun j hj => by rw [hget _ (by omega), Nat.zero_add]; exact hn j hj, fun j hj => by rw [hget _ (by omega), ← Nat.add_assoc]; exact ho j hj⟩
  have hz := Whole.new w 80 zero18
  have HR : Hid ((w.alloc (.cells zero18 80)).rangeAt g off cs.toList) := Lib.hid fun j v hv => by
    rw [(h.alloc _).cell (off + j)]
    have hv' : cs[j]? = some v := by simpa using hv
    rw [← hget j (by have := (Array.getElem?_eq_some_iff.1 hv').1; omega)]
    exact hv'
  have HT : Hid ((w.alloc (.cells zero18 80)).there w.heap.size 0 cs.size) := Lib.hid fun j hj => by
    rw [hc.size] at hj
    rw [Nat.zero_add]
    exact ⟨by rw [hz.cell, Array.getElem?_eq_getElem (by simpa [zero18] using hj)]; rfl, hz.free j⟩
  have HS : Hid ((Try.prog.info? 80).map (·.size) = some cs.size) := Lib.hid (by rw [hc.size]; exact Try.size18)
  have HS' : Hid ((Try.prog.info? 80).map (·.size) = some cs.toList.length) := Lib.hid (by rw [Array.length_toList, hc.size]; exact Try.size18)
  have H1 := Lib.hid hc.one
  have HW := Lib.hid (hz.puts cs.toList 0); have HC := Lib.hid hc
  clear h hc hz hn ho hrm hget hsz hcs
  unfold zero18 at HR HT HW
  go_enter Try.func63, Try.ntmps63
  go_wp2_with (first
    | (refine wpList_load_mid rfl 80 (.tmp 7) rfl g off rfl cs.toList _ HR.out Try.underlying80 rfl HS'.out ?_)
    | (refine wpList_store_mid rfl 80 (.tmp 3) (.tmp 8) rfl w.heap.size 0 cs rfl rfl HT.out HS.out H1.out ?_))
  go_ret
  refine ⟨rfl, ⟨_, HW.out, ?_⟩, Keep.of_below ((((Keep.refl (fun k => w.heap.size ≤ k) w).alloc _).below (Nat.le_refl _) (fun _ h => h)).trans (Keep.below (Keep.setCells (S := fun k => w.heap.size ≤ k) (Nat.le_refl _) _ 0 (Keep.refl _ _)) (by simp) (fun _ h => h)))⟩
  rw [show Lib.lay _ 0 cs.toList = cs from lay_full _ _ (by rw [HC.out.size]; rfl)]
  exact HC.out
theorem lall_any (g : Nat) (N O : List Int) (w : World) (h : LsAt w g N O) :
    Calls Try.prog 63 #[.pointer (some ⟨g, 0, none⟩)] w fun e w' => e = .returned (.func (.func 82) #[] #[.pointer (some ⟨w.heap.size, 0, none⟩)]) ∧ LsAt w' w.heap.size N O ∧ Keep (fun _ => False) w w' := by
  obtain ⟨cs, h, hc⟩ := h
  exact lall_at g 0 cs N O w h hc.new hc.old

/-! ### slices.Values of a row of numbers -/
theorem take_more (l : List Int) {k : Nat} (h : k < l.length) : l.take (k + 1) = l.take k ++ [l.getD k 0] := by
  rw [List.take_succ_eq_append_getElem h]; simp [h]

set_option maxRecDepth 100000 in
set_option maxHeartbeats 2000000 in
theorem sval1_in (F : Fence) (n : Nat) (h8 : F.fn 95) (hro : F.round = none) (hn : 1 ≤ n) (R : Nat → Prop) (l Bs b off cap len : Nat) (zs : List Int) (hlen : len = zs.length) (hreach : len ≤ 4096) (hRb : ¬ R b) (J Jx : List Int → World → Prop)
    (hY : ∀ pre x W, J pre W → pre.length < len → YieldAt F (n - 1) Try.prog l #[.int .i64 x] W fun e W' =>
      (e = .returned (.bool true) ∧ J (pre ++ [x]) W' ∧ Keep R W W') ∨ (e = .returned (.bool false) ∧ Jx (pre ++ [x]) W'))
    (W : World) (hb : b < W.heap.size) (hBs : W.cell? ⟨Bs, 0, none⟩ = some (.slice (some ⟨b, off, none⟩) len cap)) (hc : ∀ j, j < len → W.cell? ⟨b, off + j, none⟩ = some (.int .i64 (zs.getD j 0))) (h0 : J [] W) :
    CallsIn F n Try.prog 95 #[.func (.yield l) #[] #[], .pointer (some ⟨Bs, 0, none⟩)] W fun e W' => (∃ v, e = .returned v) ∧
      ((∃ ys, ys = zs ∧ J ys W') ∨ (∃ pre, (∃ k, k ≤ len ∧ pre = zs.take k) ∧ Jx pre W')) := by
  refine callsIn_of_wp Try.func95 rfl h8 ?_ hro
  simp only [Try.ntmps95, List.size_toArray, List.length_cons, List.length_nil, Nat.reduceAdd, Nat.reduceSub, Array.replicate_succ, Array.replicate_zero, List.push_toArray, List.append_toArray, List.nil_append, List.cons_append]
  gi_wp2
  gi_loopw [7] (fun i wr => ∃ k : Nat, k ≤ len ∧ i = .int .i64 k ∧ J (zs.take k) wr ∧ Keep R W wr)
    (fun i _ => len - (intOf i).toNat)
  case atStart => exact ⟨0, Nat.zero_le _, rfl, by simpa using h0, Keep.refl _ _⟩
  case round =>
    obtain ⟨k, hk, rfl, hJs, hnx⟩ := hrel
    by_cases hlt : k < len
    · have hcx : wr.cell? ⟨b, off + k, none⟩ = some (.int .i64 (zs.getD k 0)) := (hnx.cell (p := ⟨b, off + k, none⟩) hb hRb).trans (hc k hlt)
      obtain ⟨fn, tmps, assign, body, hy, hR⟩ := hY _ (zs.getD k 0) wr hJs (by rw [List.length_take]; omega)
      have HTK := Lib.hid (take_more zs (k := k) (by omega))
      rw [← HTK.out] at hR
      generalize zs.getD k 0 = x at *
      gi_wp2
      refine hR.mono ?_
      rintro e W3 (⟨rfl, hJ3, hk3⟩ | ⟨rfl, hJx3⟩)
      · gi_wp2
        go_roundw
        case rel => exact ⟨k + 1, by omega, by go_num, hJ3, hnx.trans hk3⟩
        case measure => simp [intOf]; omega
      · gi_wp2
        refine bodyPost_ret (results_none rfl _ _ _) rfl ?_
        exact ⟨⟨_, rfl⟩, .inr ⟨_, ⟨k + 1, by omega, rfl⟩, hJx3⟩⟩
    · obtain rfl : k = len := by omega
      have hall : zs.take k = zs := List.take_of_length_le (by omega)
      rw [hall] at hJs
      gi_wp2
      go_end0
      exact ⟨⟨_, rfl⟩, .inl ⟨_, rfl, hJs⟩⟩

set_option maxHeartbeats 1000000 in
theorem sval_in (F : Fence) (n : Nat) (h6 : F.fn 83) (hro : F.round = none) (a : Option Addr) (len cap : Nat) (w : World) :
    CallsIn F n Try.prog 83 #[.slice a len cap] w fun e w' => e = .returned (.func (.func 95) #[] #[.pointer (some ⟨w.heap.size, 0, none⟩)]) ∧ w' = w.alloc (.cells #[.slice a len cap] 55) := by
  refine callsIn_of_wp Try.func83 rfl h6 ?_ hro
  simp only [Try.ntmps83, List.size_toArray, List.length_cons, List.length_nil, Nat.reduceAdd, Nat.reduceSub, Array.replicate_succ, Array.replicate_zero, List.push_toArray, List.append_toArray, List.nil_append, List.cons_append]
  have hmf := Try.hmf
  gi_wp2
  go_ret
  exact ⟨rfl, rfl⟩

theorem sval_stops (F : Fence) (n : Nat) (h8 : F.fn 95) (hro : F.round = none) (hn : 1 ≤ n) (Bs b off cap len : Nat) (zs : List Int) (hlen : len = zs.length) (hreach : len ≤ 4096) (w : World) (hb : b < w.heap.size)
    (hBs : w.cell? ⟨Bs, 0, none⟩ = some (.slice (some ⟨b, off, none⟩) len cap)) (hc : ∀ j, j < len → w.cell? ⟨b, off + j, none⟩ = some (.int .i64 (zs.getD j 0))) :
    SeqStopsK F n Try.prog 95 #[.pointer (some ⟨Bs, 0, none⟩)] (fun x : Int => #[Value.int .i64 x]) (Keep fun k => k ≠ b) (fun ys => ys = zs)
      (fun pre => ∃ k, k ≤ len ∧ pre = zs.take k) len w := fun l J Jx W hW _ _ hY h0 =>
  sval1_in F n h8 hro hn (fun k => k ≠ b) l Bs b off cap len zs hlen hreach (fun h => h rfl) J Jx hY W (Nat.lt_of_lt_of_le hb hW.size)
    ((hW.cell (p := ⟨Bs, 0, none⟩) (lt_of_cell hBs)).trans hBs) (fun j hj => (hW.cell (p := ⟨b, off + j, none⟩) hb).trans (hc j hj)) h0
end Go.Proofs.Ytnljjdfajmjdjaa
namespace Go.Proofs.Ytnljjdfajmjdjaa
open Go.RowKit Go.Shelf
set_option maxRecDepth 100000

attribute [local go_sem] Oper.semAt_some

def tellL (N O : List Int) : List (Int × Bool) := N.map (fun x => (x, true)) ++ O.map (fun x => (x, false))
def encL (x : Int × Bool) : Array Value := #[.int .i64 x.1, .bool x.2]
theorem tell_new (N O : List Int) {k : Nat} (h : k ≤ N.length) : (N.take k).map (fun x => (x, true)) = (tellL N O).take k := by
  unfold tellL
  rw [List.take_append_of_le_length (by rw [List.length_map]; exact h), List.map_take]
theorem tell_old (N O : List Int) (k : Nat) : N.map (fun x => (x, true)) ++ (O.take k).map (fun x => (x, false)) = (tellL N O).take (N.length + k) := by
  unfold tellL
  rw [List.take_append, List.length_map, Nat.add_sub_cancel_left, List.take_of_length_le (l := N.map _) (by rw [List.length_map]; omega), List.map_take]
theorem KeepsFrom.up {B B' : Nat} {W W' : World} (h : KeepsFrom B W W') (hb : B ≤ B') : KeepsFrom B' W W' := ⟨h.size, fun k o hk => h.same k o (by omega)⟩
theorem OwnFrom.up {β : Type} {B B' : Nat} {I : β → World → Prop} (h : OwnFrom B I) (hb : B ≤ B') : OwnFrom B' I := fun s W W' row hs hg hr => h s W W' row hs hg (fun r e => ⟨by have := (hr r e).1; omega, (hr r e).2⟩)
theorem OwnFrom.of {α β : Type} {B : Nat} {I : β → World → Prop} (h : OwnFrom B I) (f : α → β) : OwnFrom B (fun s W => I (f s) W) := fun s W W' row hs hg hr => h (f s) W W' row hs hg hr
theorem whole_own {β : Type} (g : Nat) (t : TypeId) (cs : Array Value) : Own (fun (_ : β) W => Whole W g t cs) := fun _ X Y row hs hg hrow =>
  (hg.block g hs.lt (fun e => by obtain ⟨o, ho, hc⟩ := hrow g e.symm; rw [show X.heap[g]? = _ from hs] at ho; cases ho; cases hc)).trans hs
theorem obj_own {β : Type} {B k : Nat} {o : Obj} (h : k < B) : OwnFrom B (fun (_ : β) W => W.heap[k]? = some o) := fun _ _ _ _ hs hg hr => grown_far hg hr h hs
theorem keep_put {R : Nat → Prop} (W : World) (l : Nat) (o' : Obj) (hR : R l) : Keep R W (W.putObj l o') := by
  have hg := grownBy_putObj' W l o'
  exact ⟨hg.os, hg.tape, hg.output, hg.size, fun k hk hn => hg.block k hk (fun e => by cases e; exact hn hR)⟩

theorem OwnFrom.kept {β : Type} {B : Nat} {I : β → World → Prop} (h : OwnFrom B I) {s : β} {W W' : World} (hs : I s W) (hk : Keep (fun _ => False) W W') : I s W' :=
  h s W W' none hs ⟨hk.os, hk.tape, hk.output, hk.size, fun i hi _ => hk.block i hi id⟩ (fun r e => by cases e)
theorem boxed_kept {S : Nat → Prop} {W W' : World} {B : Nat} {t : TypeId} {v : Value} (h : Boxed W B t v) (hk : Keep S W W') (hs : ¬ S B) : Boxed W' B t v := (hk.block B h.lt hs).trans h
theorem RoundIn.within {F : Fence} (hd : F.depth = none) (l' m' : Nat) {m : Nat} {P : Program} {l : Nat} {f : FuncId} {tmps : Array Value} {assign body : Code} {w : World} {R : Ending → World → Prop}
    (h : RoundIn F m P l f tmps assign body w R) : RoundIn (F.inRound l') m' P l f tmps assign body w R := RoundIn.anyRoom (m := m) (m' := m') hd h
theorem map_app (f : Int → Int × Bool) (l : List Int) (x : Int) : (l ++ [x]).map f = l.map f ++ [f x] := by simp

set_option maxRecDepth 100000 in
set_option maxHeartbeats 4000000 in
theorem all1_gives (n : Nat) (hn : 4 ≤ n) (R : Nat → Prop) (B : Nat) (N O : List Int) (w : World) (h : LsAt w B N O) (hN : N.length ≤ 8) (hO : O.length ≤ 8) (hRB : ¬ R B) (hRn : ∀ k, w.heap.size ≤ k → ¬ R k) :
    Gives Fence.wide n Try.prog 82 #[.pointer (some ⟨B, 0, none⟩)] encL R (fun ys => ys = tellL N O) (fun pre => ∃ k, k ≤ N.length + O.length ∧ pre = (tellL N O).take k) (N.length + O.length) w := by
  obtain ⟨cs, h, hc⟩ := h
  intro l J Jx W hW hJ hJx hY h0
  have hBW : B < W.heap.size := Nat.lt_of_lt_of_le h.lt hW.size
  have hwB : Whole W B 80 cs := h.below hW h.lt
  have hRy : ¬ R W.heap.size := hRn _ hW.size
  clear h hW hRn
  refine callsIn_of_wp_marks Try.func82 rfl trivial ?_ rfl
  have hnf := Try.hnf
  have hJ0 := Lib.hid hJ; have hJx0 := Lib.hid hJx
  obtain ⟨y, hy⟩ : ∃ y : Value, y = .func (.yield l) #[] #[] := ⟨_, rfl⟩
  have bY := Boxed.new W 134 y
  have cY := bY.cell
  have hk0 : Keep (fun _ => False) W (W.alloc (.cells #[y] 134)) := (Keep.refl _ W).alloc _
  have HW0 := Lib.hid (hwB.keep hk0 id); have HC := Lib.hid hc
  clear hwB hc
  subst hy
  simp only [Try.ntmps82, List.size_toArray, List.length_cons, List.length_nil, Nat.reduceAdd, Nat.reduceSub, Array.replicate_succ, Array.replicate_zero, List.push_toArray, List.append_toArray, List.nil_append, List.cons_append]
  gi_wp2_with fail
  refine ⟨trivial, fun h => (by cases h), ?_⟩
  refine (callsIn_wide.2 (in_any B 0 cs N _ HW0.out HC.out.new hN)).mono ?_
  rintro e w1 ⟨rfl, n1, hw1⟩
  have H1 : Hid (Whole w1 B 80 cs) := Lib.hid (by rw [hw1]; exact HW0.out.drewN n1)
  have B1 : Hid (Boxed w1 W.heap.size 134 (.func (.yield l) #[] #[])) := Lib.hid (by rw [hw1]; exact bY)
  have K1 : Hid (Keep (fun _ => False) W w1) := Lib.hid (by rw [hw1]; exact hk0.drewN n1)
  have S1 : w1.heap.size = W.heap.size + 1 := (by rw [hw1]; show (W.alloc _).heap.size = _; simp)
  clear hw1 bY cY hk0 HW0
  gi_wp2_with fail
  refine ⟨trivial, fun h => (by cases h), ?_⟩
  refine (sval_in Fence.wide _ trivial rfl _ _ _ _).mono ?_
  rintro e w2 ⟨rfl, hw2⟩
  have bS : Boxed w2 (W.heap.size + 1) 55 (.slice (some ⟨B, 0, none⟩) N.length 8) := by rw [hw2, ← S1]; exact Boxed.new w1 _ _
  have H2 : Hid (Whole w2 B 80 cs) := Lib.hid (by rw [hw2]; exact H1.out.alloc _)
  have B2 : Hid (Boxed w2 W.heap.size 134 (.func (.yield l) #[] #[])) := Lib.hid (by rw [hw2]; exact B1.out.alloc _)
  have K2 : Hid (Keep (fun _ => False) W w2) := Lib.hid (by rw [hw2]; exact K1.out.alloc _)
  have S2 : w2.heap.size = W.heap.size + 2 := by rw [hw2]; simp [S1]
  clear hw2
  gi_wp2
  have hc2 : ∀ j, j < N.length → w2.cell? ⟨B, 0 + j, none⟩ = some (.int .i64 (N.getD j 0)) := fun j hj => (H2.out.cell _).trans (HC.out.new.cell (by omega))
  refine wpIn_rangeFunc_ownG rfl (by omega) (gf := 95) (lb := #[.pointer (some ⟨W.heap.size + 1, 0, none⟩)]) rfl trivial (enters_of Try.func95 (by kernel_rfl) rfl)
    (sval_stops Fence.wide _ trivial rfl (by omega) (W.heap.size + 1) B 0 8 N.length N rfl (by omega) w2 (by omega) bS.cell hc2) (fun h k => h.trans k) (fun W l o o' hl _ _ _ => keep_put W l o' (by omega)) (Below.refl _ _) (fun _ => rfl)
    (fun pre W' => (J (pre.map fun x => (x, true)) W' ∧ Boxed W' W.heap.size 134 (.func (.yield l) #[] #[])) ∧ Whole W' B 80 cs)
    (fun c pre W' => Jx (pre.map fun x => (x, true)) W' ∧ c = .ret)
    (OwnFrom.and (OwnFrom.and (OwnFrom.of (OwnFrom.up hJ (by omega)) _) (Own.from (boxed_own _ _ (fun _ => _)) _)) (Own.from (whole_own B _ cs) _))
    (fun c => OwnFrom.and (OwnFrom.of (OwnFrom.up hJx (by omega)) _) (ownFrom_pure _ (fun _ => c = .ret)))
    ⟨⟨OwnFrom.kept hJ h0 K2.out, B2.out⟩, H2.out⟩
    (fun x => { tmps := #[.func (.yield l) #[] #[], .pointer (some ⟨B, 0, none⟩), .pointer (some ⟨W.heap.size, 0, none⟩), .int .i64 x, undef, .func (.yield l) #[] #[], .bool false, .pointer (some ⟨B, 0, none⟩), .slice (some ⟨B, 0, none⟩) N.length 8, .func (.func 95) #[] #[.pointer (some ⟨W.heap.size + 1, 0, none⟩)], .int .i64 x, undef, undef, undef, undef, undef, undef, undef, undef, undef, undef, undef, undef], defers := [] }) ?assign ?body ?done ?stop
  case assign =>
    intro l x W K hK
    gi_wp2
    exact hK
  case body =>
    rintro l' pre x Wr ⟨⟨hj, hb⟩, hw⟩ hlen
    obtain ⟨fn, tmps, assign, body, hy', hR⟩ := hY _ (x, true) Wr hj (by rw [List.length_map]; omega)
    have cy := hb.cell
    dsimp only [encL] at hy'
    have HB := Lib.hid hb; have HW := Lib.hid hw
    clear hb hw hc2 bS h0 hJ hJx hY B2 H2
    gi_wp2
    refine ⟨fun h => (by cases h), (RoundIn.within rfl _ _ hR).mono ?_⟩
    rintro e W3 ⟨hkf, (⟨rfl, hJ3, hk3⟩ | ⟨rfl, hJx3⟩)⟩
    · gi_wp2
      exact ⟨KeepsFrom.up hkf (by omega), hk3.mono (fun k hk e => hRB (e ▸ hk)), ⟨⟨by rw [map_app]; exact hJ3, boxed_kept HB.out hk3 hRy⟩, HW.out.keep hk3 hRB⟩⟩
    · gi_wp2
      exact ⟨KeepsFrom.up hkf (by omega), by rw [map_app]; exact hJx3, rfl⟩
  case stop =>
    rintro D c pre Wd hD ⟨k, hk, rfl⟩ ⟨hjx, rfl⟩ hK
    gi_wp2
    refine ⟨by simp, .inl ⟨_, _, rfl, run_takeDeferred hK, ?_⟩⟩
    exact ⟨_, results_none rfl _ _ _, ⟨_, rfl⟩, .inr ⟨_, ⟨k, by omega, tell_new N O hk⟩, OwnFrom.putObj hJx0.out _ hjx (by omega) hK rfl⟩⟩
  case done =>
    rintro D ys Wd hD rfl ⟨⟨hj, hb⟩, hw⟩ hK
    have hwl : Wd.heap.size ≥ W.heap.size + 2 := by have := (Array.getElem?_eq_some_iff.1 hK).1; omega
    have hDW := (Array.getElem?_eq_some_iff.1 hK).1
    have HB := Lib.hid hb; have HW := Lib.hid hw; have HJd := Lib.hid hj; have HKd := Lib.hid hK
    clear hb hw hc2 bS h0 hJ hJx B2 H2 K2 K1 B1 H1 hj hK
    gi_wp2_with fail
    refine ⟨trivial, fun h => (by cases h), ?_⟩
    refine (callsIn_wide.2 (in_any B 9 cs O _ HW.out HC.out.old hO)).mono ?_
    rintro e w3 ⟨rfl, n3, hw3⟩
    have k3 : Keep (fun _ => False) Wd w3 := by rw [hw3]; exact (Keep.refl _ _).drewN n3
    have s3 : w3.heap.size = Wd.heap.size := by rw [hw3]; rfl
    have H3 := Lib.hid k3
    clear hw3 k3
    gi_wp2_with fail
    refine ⟨trivial, fun h => (by cases h), ?_⟩
    refine (sval_in Fence.wide _ trivial rfl _ _ _ _).mono ?_
    rintro e w4 ⟨rfl, hw4⟩
    have K4 : Hid (Keep (fun _ => False) Wd w4) := Lib.hid (by rw [hw4]; exact H3.out.alloc _)
    have bS4 : Boxed w4 Wd.heap.size 55 (.slice (some ⟨B, 9, none⟩) O.length 8) := by rw [hw4, ← s3]; exact Boxed.new w3 _ _
    have S4 : w4.heap.size = Wd.heap.size + 1 := by rw [hw4]; simp [s3]
    have hW4 := HW.out.keep K4.out id
    have hB4 := boxed_kept HB.out K4.out id
    have hD4 : w4.heap[D]? = some (.deferred (some [])) := (K4.out.block D hDW id).trans HKd.out
    clear hw4 H3
    gi_wp2
    have hc4 : ∀ j, j < O.length → w4.cell? ⟨B, 9 + j, none⟩ = some (.int .i64 (O.getD j 0)) := fun j hj => (hW4.cell _).trans (HC.out.old.cell (by omega))
    refine wpIn_rangeFunc_ownG rfl (by omega) (gf := 95) (lb := #[.pointer (some ⟨Wd.heap.size, 0, none⟩)]) rfl trivial (enters_of Try.func95 (by kernel_rfl) rfl)
      (sval_stops Fence.wide _ trivial rfl (by omega) Wd.heap.size B 9 8 O.length O rfl (by omega) w4 (by omega) bS4.cell hc4) (fun h k => h.trans k) (fun W l o o' hl _ _ _ => keep_put W l o' (by omega)) (Below.refl _ _) (fun _ => rfl)
      (fun pre W' => (J (ys.map (fun x => (x, true)) ++ pre.map fun x => (x, false)) W' ∧ Boxed W' W.heap.size 134 (.func (.yield l) #[] #[])) ∧ W'.heap[D]? = some (.deferred (some [])))
      (fun c pre W' => (Jx (ys.map (fun x => (x, true)) ++ pre.map fun x => (x, false)) W' ∧ c = .ret) ∧ W'.heap[D]? = some (.deferred (some [])))
      (OwnFrom.and (OwnFrom.and (OwnFrom.of (OwnFrom.up hJ0.out (by omega)) _) (Own.from (boxed_own _ _ (fun _ => _)) _)) (obj_own (by omega)))
      (fun c => OwnFrom.and (OwnFrom.and (OwnFrom.of (OwnFrom.up hJx0.out (by omega)) _) (ownFrom_pure _ (fun _ => c = .ret))) (obj_own (by omega)))
      ⟨⟨by simpa using OwnFrom.kept hJ0.out HJd.out K4.out, hB4⟩, hD4⟩
      (fun x => { tmps := #[.func (.yield l) #[] #[], .pointer (some ⟨B, 0, none⟩), .pointer (some ⟨W.heap.size, 0, none⟩), undef, .int .i64 x, .func (.yield l) #[] #[], .bool false, .pointer (some ⟨B, 0, none⟩), .slice (some ⟨B, 0, none⟩) ys.length 8, .func (.func 95) #[] #[.pointer (some ⟨W.heap.size + 1, 0, none⟩)], undef, undef, undef, undef, undef, .pointer (some ⟨B, 9, none⟩), .slice (some ⟨B, 9, none⟩) O.length 8, .func (.func 95) #[] #[.pointer (some ⟨Wd.heap.size, 0, none⟩)], .int .i64 x, undef, undef, undef, undef], defers := [] }) ?assign2 ?body2 ?done2 ?stop2
    case assign2 =>
      intro l x W K hK
      gi_wp2
      exact hK
    case body2 =>
      rintro l' pre x Wr ⟨⟨hj, hb⟩, hd⟩ hlen
      obtain ⟨fn, tmps, assign, body, hy', hR⟩ := hY _ (x, false) Wr hj (by rw [List.length_append, List.length_map, List.length_map]; omega)
      have cy := hb.cell
      dsimp only [encL] at hy'
      have HB' := Lib.hid hb; have HD := Lib.hid hd
      clear hb hd hc4 bS4 hY hW4 hB4 hD4
      gi_wp2
      refine ⟨fun h => (by cases h), (RoundIn.within rfl _ _ hR).mono ?_⟩
      rintro e W3 ⟨hkf, (⟨rfl, hJ3, hk3⟩ | ⟨rfl, hJx3⟩)⟩
      · gi_wp2
        exact ⟨KeepsFrom.up hkf (by omega), hk3.mono (fun k hk e => hRB (e ▸ hk)), ⟨by rw [map_app, ← List.append_assoc]; exact hJ3, boxed_kept HB'.out hk3 hRy⟩, hkf.same D _ (by omega) HD.out rfl⟩
      · gi_wp2
        exact ⟨KeepsFrom.up hkf (by omega), ⟨by rw [map_app, ← List.append_assoc]; exact hJx3, rfl⟩, hkf.same D _ (by omega) HD.out rfl⟩
    case stop2 =>
      rintro D2 c pre We hD2 ⟨k, hk, rfl⟩ ⟨⟨hjx, rfl⟩, hd⟩ hK2
      have hne : D ≠ D2 := by omega
      gi_wp2
      refine ⟨by simp, .inl ⟨_, _, rfl, run_takeDeferred hK2, by simp, .inl ⟨_, _, rfl, run_takeDeferred ((World.putObj_heap_other hne).trans hd), ?_⟩⟩⟩
      exact ⟨_, results_none rfl _ _ _, ⟨_, rfl⟩, .inr ⟨_, ⟨ys.length + k, by omega, tell_old ys O k⟩, OwnFrom.putObj hJx0.out _ (OwnFrom.putObj hJx0.out _ hjx (by omega) hK2 rfl) (by omega) ((World.putObj_heap_other hne).trans hd) rfl⟩⟩
    case done2 =>
      rintro D2 zs We hD2 rfl ⟨⟨hj, hb⟩, hd⟩ hK2
      have hne : D ≠ D2 := by omega
      gi_wp2
      refine ⟨by simp, .inl ⟨_, _, rfl, run_takeDeferred hK2, by simp, .inl ⟨_, _, rfl, run_takeDeferred ((World.putObj_heap_other hne).trans hd), ?_⟩⟩⟩
      exact ⟨_, results_none rfl _ _ _, ⟨_, rfl⟩, .inl ⟨_, rfl, OwnFrom.putObj hJ0.out _ (OwnFrom.putObj hJ0.out _ hj (by omega) hK2 rfl) (by omega) ((World.putObj_heap_other hne).trans hd) rfl⟩⟩
end Go.Proofs.Ytnljjdfajmjdjaa
