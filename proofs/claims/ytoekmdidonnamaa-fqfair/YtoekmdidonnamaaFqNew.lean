/-
  Package fq: New and Set: a config that may be counts from now on. Conditions: the queue lies in memory, or is new.
-/
import Derived.Test.YtoekmdidonnamaaFqLen
import Derived.Test.YtoekmdidonnamaaRbNew
namespace Go.Proofs.Ytoekmdidonnamaa
open Go.RowKit
set_option maxRecDepth 100000
set_option linter.unusedSimpArgs false
set_option linter.unusedVariables false

def setV (c : Cf) : Int := if c.Ok then 0 else 13
def setX (x : Qm) (c : Cf) : Qm := if c.Ok then { x with c := c } else x
def confL (c : Cf) : List Value := [.int .i64 c.q, .int .i64 c.f, .int .i64 c.l, .int .i64 c.w, .int .u64 c.h, .int .u64 c.r, .bool c.d, .int .i64 c.k, .int .i64 c.m]
theorem conf_get (c : Cf) {j : Nat} (hj : j < 9) : (confL c)[j]? = some (cfV c j) := by
  have e : j = 0 ∨ j = 1 ∨ j = 2 ∨ j = 3 ∨ j = 4 ∨ j = 5 ∨ j = 6 ∨ j = 7 ∨ j = 8 := by omega
  rcases e with rfl | rfl | rfl | rfl | rfl | rfl | rfl | rfl | rfl <;> rfl
theorem conf_at (cs : Array Value) (c : Cf) (h : 9 ≤ cs.size) {j : Nat} (hj : j < 9) : (Lib.lay cs 0 (confL c))[j]? = some (cfV c j) := by
  rw [lay_at _ _ _ _ (by show 0 + 9 ≤ _; omega), if_pos ⟨Nat.zero_le _, by show j < 0 + 9; omega⟩, Nat.sub_zero]
  exact conf_get c hj
theorem conf_ne (cs : Array Value) (c : Cf) (h : 9 ≤ cs.size) {j : Nat} (hj : 9 ≤ j) : (Lib.lay cs 0 (confL c))[j]? = cs[j]? := by
  rw [lay_at _ _ _ _ (by show 0 + 9 ≤ _; omega), if_neg (by show ¬ (0 ≤ j ∧ j < 0 + 9); omega)]
theorem FQc.conf {cs : Array Value} {tg : Nat} {v : Nat → Value} {x : Qm} (h : FQc cs tg v x) (c : Cf) : FQc (Lib.lay cs 0 (confL c)) tg v { x with c := c } := by
  have hs := h.size
  exact ⟨(Lib.lay_size _ _ _).trans h.size, fun j hj => conf_at _ _ (by omega) hj, fun i hi j hj => by rw [conf_ne _ _ (by omega) (by omega)]; exact h.f i hi j hj, fun j hj => by rw [conf_ne _ _ (by omega) (by omega)]; exact h.new j hj, fun j hj => by rw [conf_ne _ _ (by omega) (by omega)]; exact h.old j hj, by rw [conf_ne _ _ (by omega) (by omega)]; exact h.wt⟩
theorem Try.size24 : (Try.prog.info? 24).map (·.size) = some 9 := by kernel_rfl

/-! ### A new block -/
def zq : Array Value := #[.int .i64 0, .int .i64 0, .int .i64 0, .int .i64 0, .int .u64 0, .int .u64 0, .bool false, .int .i64 0, .int .i64 0,
  .bool false, .int .i64 0, .int .u64 0, .int .u64 0, .slice none 0 0, .bool false, .int .i64 0, .int .u64 0, .int .u64 0, .slice none 0 0,
  .bool false, .int .i64 0, .int .u64 0, .int .u64 0, .slice none 0 0, .bool false, .int .i64 0, .int .u64 0, .int .u64 0, .slice none 0 0,
  .bool false, .int .i64 0, .int .u64 0, .int .u64 0, .slice none 0 0, .bool false, .int .i64 0, .int .u64 0, .int .u64 0, .slice none 0 0,
  .bool false, .int .i64 0, .int .u64 0, .int .u64 0, .slice none 0 0, .bool false, .int .i64 0, .int .u64 0, .int .u64 0, .slice none 0 0,
  .int .i64 0, .int .i64 0, .int .i64 0, .int .i64 0, .int .i64 0, .int .i64 0, .int .i64 0, .int .i64 0, .int .i64 0,
  .int .i64 0, .int .i64 0, .int .i64 0, .int .i64 0, .int .i64 0, .int .i64 0, .int .i64 0, .int .i64 0, .int .i64 0, .pointer none]
theorem zq_new (tg : Nat) (c : Cf) : FQc (Lib.lay (zq.setIfInBounds 67 (.pointer (some ⟨tg, 0, none⟩))) 0 (confL c)) tg (fun _ => .slice none 0 0) (newQ c) := by
  have hs : (zq.setIfInBounds 67 (.pointer (some ⟨tg, 0, none⟩))).size = 68 := by rw [Array.size_setIfInBounds]; rfl
  have hz : ∀ j, j ≠ 67 → (zq.setIfInBounds 67 (.pointer (some ⟨tg, 0, none⟩)))[j]? = zq[j]? := fun j hj => Array.getElem?_setIfInBounds_ne (by omega)
  refine ⟨(Lib.lay_size _ _ _).trans hs, fun j hj => conf_at _ _ (by omega) hj, fun i hi j hj => ?_, fun j hj => ?_, fun j hj => ?_, ?_⟩
  · rw [conf_ne _ _ (by omega) (by omega), hz _ (by omega)]
    have e : i = 0 ∨ i = 1 ∨ i = 2 ∨ i = 3 ∨ i = 4 ∨ i = 5 ∨ i = 6 ∨ i = 7 := by omega
    have e' : j = 0 ∨ j = 1 ∨ j = 2 ∨ j = 3 ∨ j = 4 := by omega
    rcases e with rfl | rfl | rfl | rfl | rfl | rfl | rfl | rfl <;> rcases e' with rfl | rfl | rfl | rfl | rfl <;> rfl
  · rw [conf_ne _ _ (by omega) (by omega), hz _ (by omega)]
    have e : j = 0 ∨ j = 1 ∨ j = 2 ∨ j = 3 ∨ j = 4 ∨ j = 5 ∨ j = 6 ∨ j = 7 ∨ j = 8 := by omega
    rcases e with rfl | rfl | rfl | rfl | rfl | rfl | rfl | rfl | rfl <;> rfl
  · rw [conf_ne _ _ (by omega) (by omega), hz _ (by omega)]
    have e : j = 0 ∨ j = 1 ∨ j = 2 ∨ j = 3 ∨ j = 4 ∨ j = 5 ∨ j = 6 ∨ j = 7 ∨ j = 8 := by omega
    rcases e with rfl | rfl | rfl | rfl | rfl | rfl | rfl | rfl | rfl <;> rfl
  · rw [conf_ne _ _ (by omega) (by omega), Array.getElem?_setIfInBounds_self_of_lt (by decide)]

section
variable {w w' : World} {g tg : Nat} {S : Nat → Prop} {cs : Array Value} {v : Nat → Value} {ks : List Key} {x : Qm}
set_option maxRecDepth 100000 in
set_option maxHeartbeats 2000000 in
theorem setw_any (h : Whole w g 73 cs) (hs : cs.size = 68) (hp : cs[67]? = some (.pointer (some ⟨tg, 0, none⟩))) (c : Cf) (hr : U64 c.r) (hh : U64 c.h) :
    Calls Try.prog 23 #[.pointer (some ⟨g, 0, none⟩), c.v] w fun e w' => e = .returned (.int .i64 (setV c)) ∧ (c.Ok → Whole w' g 73 (Lib.lay cs 0 (confL c))) ∧ (¬ c.Ok → Whole w' g 73 cs) ∧ Keep (fun k => k = g) w w' := by
  have HLG := Lib.hid h.lt
  have kz : Keep (fun _ => False) w (w.alloc (.cells #[.int .i64 c.q, .int .i64 c.f, .int .i64 c.l, .int .i64 c.w, .int .u64 c.h, .int .u64 c.r, .bool c.d, .int .i64 c.k, .int .i64 c.m] 24)) := (Keep.refl _ _).alloc _
  have HG0 := Lib.hid (h.keep kz id); have HK0 := Lib.hid kz
  have HB0 := Lib.hid (Whole.new w 24 #[.int .i64 c.q, .int .i64 c.f, .int .i64 c.l, .int .i64 c.w, .int .u64 c.h, .int .u64 c.r, .bool c.d, .int .i64 c.k, .int .i64 c.m])
  have HR := Lib.hid hr; have HH := Lib.hid hh; have HCS := Lib.hid hs; have HP := Lib.hid hp
  obtain ⟨b, hb⟩ : ∃ b, b = decide c.Ok := ⟨_, rfl⟩
  have HBB := Lib.hid hb
  obtain ⟨q, f, l, m, hz, r, d, k, s⟩ := c
  dsimp only [Cf.v] at *
  clear h kz hr hh hb hs hp
  go_enter Try.func23, Try.ntmps23
  go_wp2_with fail
  generalize hw0 : w.alloc _ = w0 at *
  clear hw0
  refine (may_any ⟨q, f, l, m, hz, r, d, k, s⟩ HR.out HH.out b HBB.out w0).mono ?_
  rintro e w1 ⟨rfl, k1⟩
  have HG1 := Lib.hid (HG0.out.keep k1 id); have HK1 := Lib.hid (HK0.out.trans k1)
  have HB1 := Lib.hid (HB0.out.keep k1 id)
  clear k1 HG0 HK0 HB0
  cases b with
  | false =>
    have hno : ¬ (⟨q, f, l, m, hz, r, d, k, s⟩ : Cf).Ok := by have := HBB.out; simpa using this.symm
    have HNO := Lib.hid hno
    clear hno
    go_wp2
    go_ret
    exact ⟨ret_i (if_neg HNO.out).symm, fun e => absurd e HNO.out, fun _ => HG1.out, HK1.out.mono (fun _ h => h.elim)⟩
  | true =>
    have hyes : (⟨q, f, l, m, hz, r, d, k, s⟩ : Cf).Ok := by have := HBB.out; simpa using this.symm
    have HYES := Lib.hid hyes
    have cw : w1.cell? ⟨g, 67, none⟩ = some (.pointer (some ⟨tg, 0, none⟩)) := (HG1.out.cell 67).trans HP.out
    obtain ⟨V, hV⟩ : ∃ V : Array Value, V = #[.int .i64 q, .int .i64 f, .int .i64 l, .int .i64 m, .int .u64 hz, .int .u64 r, .bool d, .int .i64 k, .int .i64 s] := ⟨_, rfl⟩
    have HV : Hid (V.toList = confL ⟨q, f, l, m, hz, r, d, k, s⟩) := Lib.hid (by rw [hV]; rfl)
    rw [← hV] at HB1
    have HRV := Lib.hid (show w1.rangeAt w.heap.size 0 V.toList from fun j u hu => by rw [HB1.out.cell, Nat.zero_add, ← hu]; simp)
    have HSZ : Hid ((Try.prog.info? 24).map (·.size) = some V.toList.length) := Lib.hid (by rw [hV]; exact Try.size24)
    have HSZ' : Hid ((Try.prog.info? 24).map (·.size) = some V.size) := Lib.hid (by rw [hV]; exact Try.size24)
    have HTH := Lib.hid (show w1.there g 0 V.size from fun j hj => by
      rw [Nat.zero_add]
      have h9 : j < 9 := by rw [hV] at hj; exact hj
      have := HCS.out
      exact ⟨by rw [HG1.out.cell, Array.getElem?_eq_getElem (by omega)]; rfl, HG1.out.free j⟩)
    have HONE : Hid (V.all (·.oneCell') = true) := Lib.hid (by rw [hV]; exact all_oneCell_toArray (fun u hu => by
      simp only [List.mem_cons, List.not_mem_nil, or_false] at hu
      rcases hu with rfl | rfl | rfl | rfl | rfl | rfl | rfl | rfl | rfl <;> rfl))
    clear hV
    clear hyes
    go_wp2_with (first
      | (refine wpList_load_mid rfl 24 (.tmp 3) rfl w.heap.size 0 rfl V.toList _ HRV.out Try.underlying24 rfl HSZ.out ?_)
      | (refine wpList_store_mid rfl 24 (.tmp 22) (.tmp 20) rfl g 0 V rfl rfl HTH.out HSZ'.out HONE.out ?_))
    go_ret
    refine ⟨ret_i (if_pos HYES.out).symm, fun _ => ?_, fun e => absurd HYES.out e, Keep.setCells (S := fun k => k = g) rfl _ _ (HK1.out.mono (fun _ h => h.elim))⟩
    rw [← HV.out]
    exact HG1.out.puts V.toList 0
theorem FQat.setc (h : FQat w g tg S cs v ks x) (c : Cf) (hr : U64 c.r) (hh : U64 c.h) :
    Calls Try.prog 23 #[.pointer (some ⟨g, 0, none⟩), c.v] w fun e w' => e = .returned (.int .i64 (setV c)) ∧ ∃ cs', FQat w' g tg S cs' v ks (setX x c) ∧ Keep (fun k => k = g) w w' := by
  refine (setw_any h.w.whole h.w.c.size h.w.c.wt c hr hh).mono ?_
  rintro e w' ⟨rfl, h1, h2, hk⟩
  refine ⟨rfl, ?_⟩
  unfold setX
  by_cases hc : c.Ok
  · rw [if_pos hc]
    exact ⟨_, ⟨FQw.block h.w (h1 hc) hk (h.w.c.conf c) (fun _ _ => rfl), set_ok h.ok hc, h.ks⟩, hk⟩
  · rw [if_neg hc]
    exact ⟨_, ⟨FQw.block h.w (h2 hc) hk h.w.c (fun _ _ => rfl), h.ok, h.ks⟩, hk⟩
set_option maxRecDepth 100000 in
set_option maxHeartbeats 2000000 in
/-- Set of a new one. -/
theorem setn_any (h : Whole w g 73 cs) (hs : cs.size = 68) (hp : cs[67]? = some (.pointer none)) (c : Cf) (hr : U64 c.r) (hh : U64 c.h) :
    Calls Try.prog 23 #[.pointer (some ⟨g, 0, none⟩), c.v] w fun e w' => e = .returned (.int .i64 (setV c)) ∧ (c.Ok → ∃ tg S, Whole w' g 73 (Lib.lay (cs.setIfInBounds 67 (.pointer (some ⟨tg, 0, none⟩))) 0 (confL c)) ∧ TreeAt w' S tg 8 [] ∧ (∀ k, S k → w.heap.size ≤ k)) ∧ Keep (fun k => k = g) w w' := by
  have HLG := Lib.hid h.lt
  have kz : Keep (fun _ => False) w (w.alloc (.cells #[.int .i64 c.q, .int .i64 c.f, .int .i64 c.l, .int .i64 c.w, .int .u64 c.h, .int .u64 c.r, .bool c.d, .int .i64 c.k, .int .i64 c.m] 24)) := (Keep.refl _ _).alloc _
  have HG0 := Lib.hid (h.keep kz id); have HK0 := Lib.hid kz
  have HB0 := Lib.hid (Whole.new w 24 #[.int .i64 c.q, .int .i64 c.f, .int .i64 c.l, .int .i64 c.w, .int .u64 c.h, .int .u64 c.r, .bool c.d, .int .i64 c.k, .int .i64 c.m])
  have HR := Lib.hid hr; have HH := Lib.hid hh; have HCS := Lib.hid hs; have HP := Lib.hid hp
  obtain ⟨b, hb⟩ : ∃ b, b = decide c.Ok := ⟨_, rfl⟩
  have HBB := Lib.hid hb
  obtain ⟨q, f, l, m, hz, r, d, k, s⟩ := c
  dsimp only [Cf.v] at *
  clear h kz hr hh hb hs hp
  go_enter Try.func23, Try.ntmps23
  go_wp2_with fail
  generalize hw0 : w.alloc _ = w0 at *
  clear hw0
  refine (may_any ⟨q, f, l, m, hz, r, d, k, s⟩ HR.out HH.out b HBB.out w0).mono ?_
  rintro e w1 ⟨rfl, k1⟩
  have HG1 := Lib.hid (HG0.out.keep k1 id); have HK1 := Lib.hid (HK0.out.trans k1)
  have HB1 := Lib.hid (HB0.out.keep k1 id)
  clear k1 HG0 HK0 HB0
  cases b with
  | false =>
    have hno : ¬ (⟨q, f, l, m, hz, r, d, k, s⟩ : Cf).Ok := by have := HBB.out; simpa using this.symm
    have HNO := Lib.hid hno
    clear hno
    go_wp2
    go_ret
    exact ⟨ret_i (if_neg HNO.out).symm, fun e => absurd e HNO.out, HK1.out.mono (fun _ h => h.elim)⟩
  | true =>
    have hyes : (⟨q, f, l, m, hz, r, d, k, s⟩ : Cf).Ok := by have := HBB.out; simpa using this.symm
    have HYES := Lib.hid hyes
    have cw : w1.cell? ⟨g, 67, none⟩ = some (.pointer none) := (HG1.out.cell 67).trans HP.out
    clear hyes
    go_wp2_with fail
    refine (tnew_any 8 w1).mono ?_
    rintro e w2 ⟨tg, S, rfl, ht, hS, k2⟩
    have HT2 := Lib.hid ht; have HS2 := Lib.hid hS
    have hg2 := HG1.out.keep k2 id
    have cw2 : w2.cell? ⟨g, 67, none⟩ = some (.pointer none) := (hg2.cell 67).trans HP.out
    have fw2 := hg2.free 67
    have HG3 := Lib.hid (hg2.put 67 (.pointer (some ⟨tg, 0, none⟩)))
    have HK3 := Lib.hid (((HK1.out.trans k2).mono (fun _ h => h.elim) : Keep (fun k => k = g) w w2).setCell (p := ⟨g, 67, none⟩) (.inl rfl) (.pointer (some ⟨tg, 0, none⟩)))
    have HKS : Hid (Keep (fun k => k = g) w2 (w2.setCell ⟨g, 67, none⟩ (.pointer (some ⟨tg, 0, none⟩)))) := Lib.hid ((Keep.refl (fun k => k = g) w2).setCell (p := ⟨g, 67, none⟩) (.inl rfl) _)
    have HB3 := Lib.hid ((HB1.out.keep k2 id).keep HKS.out (fun e => by have := HLG.out; omega))
    have HT3 := Lib.hid (HT2.out.keep HKS.out (fun k e e2 => by have := HS2.out k e; have := HLG.out; have := HK1.out.size; omega))
    have HCS3 : Hid ((cs.setIfInBounds 67 (.pointer (some ⟨tg, 0, none⟩))).size = 68) := Lib.hid (by rw [Array.size_setIfInBounds]; exact HCS.out)
    have HSF : Hid (∀ k, S k → w.heap.size ≤ k) := Lib.hid (fun k e => by have := HS2.out k e; have := HK1.out.size; omega)
    clear ht hS hg2 k2 HG1 HK1 HB1 HKS HT2 HS2 HCS cw
    go_upto_region 7 with fail
    clear cw2 fw2
    generalize hw3 : w2.setCell ⟨g, 67, none⟩ (.pointer (some ⟨tg, 0, none⟩)) = w1 at *
    clear hw3
    have HG1 := HG3; have HB1 := HB3; have HCS := HCS3
    clear HG3 HB3 HCS3
    obtain ⟨V, hV⟩ : ∃ V : Array Value, V = #[.int .i64 q, .int .i64 f, .int .i64 l, .int .i64 m, .int .u64 hz, .int .u64 r, .bool d, .int .i64 k, .int .i64 s] := ⟨_, rfl⟩
    have HV : Hid (V.toList = confL ⟨q, f, l, m, hz, r, d, k, s⟩) := Lib.hid (by rw [hV]; rfl)
    rw [← hV] at HB1
    have HRV := Lib.hid (show w1.rangeAt w.heap.size 0 V.toList from fun j u hu => by rw [HB1.out.cell, Nat.zero_add, ← hu]; simp)
    have HSZ : Hid ((Try.prog.info? 24).map (·.size) = some V.toList.length) := Lib.hid (by rw [hV]; exact Try.size24)
    have HSZ' : Hid ((Try.prog.info? 24).map (·.size) = some V.size) := Lib.hid (by rw [hV]; exact Try.size24)
    have HTH := Lib.hid (show w1.there g 0 V.size from fun j hj => by
      rw [Nat.zero_add]
      have h9 : j < 9 := by rw [hV] at hj; exact hj
      have := HCS.out
      exact ⟨by rw [HG1.out.cell, Array.getElem?_eq_getElem (by omega)]; rfl, HG1.out.free j⟩)
    have HONE : Hid (V.all (·.oneCell') = true) := Lib.hid (by rw [hV]; exact all_oneCell_toArray (fun u hu => by
      simp only [List.mem_cons, List.not_mem_nil, or_false] at hu
      rcases hu with rfl | rfl | rfl | rfl | rfl | rfl | rfl | rfl | rfl <;> rfl))
    clear hV
    go_wp2_with (first
      | (refine wpList_load_mid rfl 24 (.tmp 3) rfl w.heap.size 0 rfl V.toList _ HRV.out Try.underlying24 rfl HSZ.out ?_)
      | (refine wpList_store_mid rfl 24 (.tmp 22) (.tmp 20) rfl g 0 V rfl rfl HTH.out HSZ'.out HONE.out ?_))
    go_ret
    refine ⟨ret_i (if_pos HYES.out).symm, fun _ => ⟨tg, S, ?_, ?_, HSF.out⟩, Keep.setCells (S := fun k => k = g) rfl _ _ HK3.out⟩
    · rw [← HV.out]
      exact HG1.out.puts V.toList 0
    · exact HT3.out.keep (Keep.setCells (S := fun k => k = g) rfl V.toList 0 (Keep.refl _ w1)) (fun k e e2 => by have := HSF.out k e; have := HLG.out; omega)
end
end Go.Proofs.Ytoekmdidonnamaa
