/-
  Package fq: New and Set: a config that may be counts from now on. Conditions: the queue lies in memory, or is new.
  Package fq: Watchdog: the least time that a flow waits for. Conditions: the queue lies in memory.
  Package fq: Flow: the socket's flow as it is, its segments in a row of their own. Conditions: the queue lies in memory.
-/
import Derived.Test.YtnljjdfajmjdjaaJ23
import Derived.Test.YtnljjdfajmjdjaaJ12
import Derived.Test.YtnljjdfajmjdjaaJ21
import Derived.Test.YtnljjdfajmjdjaaJ18
namespace Go.Proofs.Ytnljjdfajmjdjaa
open Go.RowKit
set_option maxRecDepth 100000
set_option linter.unusedSimpArgs false
set_option linter.unusedVariables false

def setV (c : Cf) : Int := if c.Ok then 0 else 13
def setX (x : Qm) (c : Cf) : Qm := if c.Ok then { x with c := c } else x
def confL (c : Cf) : List Value := [.int .i64 c.q, .int .i64 c.f, .int .i64 c.l, .int .i64 c.w, .int .u64 c.h, .int .u64 c.r, .bool c.d, .int .i64 c.k, .int .i64 c.m]
theorem conf_get (c : Cf) {j : Nat} (hj : j < 9) : (confL c)[j]? = some (cfV c j) := by
  have e : j = 0 ∨ j = 1 ∨ j = 2 ∨ j = 3 ∨ j = 4 ∨ j = 5 ∨ j = 6 ∨ j = 7 ∨ j = 8 := by omega
  rcases e with rfl | rfl | rfl | rfl | rfl | rfl | rfl | rfl | rfl <;> rfl
theorem conf_at (cs : Array Value) (c : Cf) (h : 9 ≤ cs.size) {j : Nat} (hj : j < 9) : (Lib.lay cs 0 (confL c))[j]? = some (cfV c j) := by
  rw [lay_at _ _ _ _ (by show 0 + 9 ≤ _; omega), if_pos ⟨Nat.zero_le _, by show j < 0 + 9; omega⟩, Nat.sub_zero]
  exact conf_get c hj
theorem conf_ne (cs : Array Value) (c : Cf) (h : 9 ≤ cs.size) {j : Nat} (hj : 9 ≤ j) : (Lib.lay cs 0 (confL c))[j]? = cs[j]? := by
  rw [lay_at _ _ _ _ (by show 0 + 9 ≤ _; omega), if_neg (by show ¬ (0 ≤ j ∧ j < 0 + 9); omega)]
theorem FQc.conf {cs : Array Value} {tg : Nat} {v : Nat → Value} {x : Qm} (h : FQc cs tg v x) (c : Cf) : FQc (Lib.lay cs 0 (confL c)) tg v { x with c := c } := by
  have hs := h.size
  exact ⟨(Lib.lay_size _ _ _).trans h.size, fun j hj => conf_at _ _ (by omega) hj, fun i hi j hj => by rw [conf_ne _ _ (by omega) (by omega)]; exact h.f i hi j hj, fun j hj => by rw [conf_ne _ _ (by omega) (by omega)]; exact h.new j hj, fun j hj => by rw [conf_ne _ _ (by omega) (by omega)]; exact h.old j hj, by rw [conf_ne _ _ (by omega) (by omega)]; exact h.wt⟩
theorem Try.size24 : (Try.prog.info? 24).map (·.size) = some 9 := by kernel_rfl

/-! ### A new block -/
def zq : Array Value := #[.int .i64 0, .int .i64 0, .int .i64 0, .int .i64 0, .int .u64 0, .int .u64 0, .bool false, .int .i64 0, .int .i64 0,
  .bool false, .int .i64 0, .int .u64 0, .int .u64 0, .slice none 0 0, .bool false, .int .i64 0, .int .u64 0, .int .u64 0, .slice none 0 0,
  .bool false, .int .i64 0, .int .u64 0, .int .u64 0, .slice none 0 0, .bool false, .int .i64 0, .int .u64 0, .int .u64 0, .slice none 0 0,
  .bool false, .int .i64 0, .int .u64 0, .int .u64 0, .slice none 0 0, .bool false, .int .i64 0, .int .u64 0, .int .u64 0, .slice none 0 0,
  .bool false, .int .i64 0, .int .u64 0, .int .u64 0, .slice none 0 0, .bool false, .int .i64 0, .int .u64 0, .int .u64 0, .slice none 0 0,
  .int .i64 0, .int .i64 0, .int .i64 0, .int .i64 0, .int .i64 0, .int .i64 0, .int .i64 0, .int .i64 0, .int .i64 0,
  .int .i64 0, .int .i64 0, .int .i64 0, .int .i64 0, .int .i64 0, .int .i64 0, .int .i64 0, .int .i64 0, .int .i64 0, .pointer none]
theorem zq_new (tg : Nat) (c : Cf) : FQc (Lib.lay (zq.setIfInBounds 67 (.pointer (some ⟨tg, 0, none⟩))) 0 (confL c)) tg (fun _ => .slice none 0 0) (newQ c) := by
  have hs : (zq.setIfInBounds 67 (.pointer (some ⟨tg, 0, none⟩))).size = 68 := by rw [Array.size_setIfInBounds]; rfl
  have hz : ∀ j, j ≠ 67 → (zq.setIfInBounds 67 (.pointer (some ⟨tg, 0, none⟩)))[j]? = zq[j]? := fun j hj => Array.getElem?_setIfInBounds_ne (by omega)
  refine ⟨(Lib.lay_size _ _ _).trans hs, fun j hj => conf_at _ _ (by omega) hj, fun i hi j hj => ?_, fun j hj => ?_, fun j hj => ?_, ?_⟩
  · rw [conf_ne _ _ (by omega) (by omega), hz _ (by omega)]
    have e : i = 0 ∨ i = 1 ∨ i = 2 ∨ i = 3 ∨ i = 4 ∨ i = 5 ∨ i = 6 ∨ i = 7 := by omega
    have e' : j = 0 ∨ j = 1 ∨ j = 2 ∨ j = 3 ∨ j = 4 := by omega
    rcases e with rfl | rfl | rfl | rfl | rfl | rfl | rfl | rfl <;> rcases e' with rfl | rfl | rfl | rfl | rfl <;> rfl
  · rw [conf_ne _ _ (by omega) (by omega), hz _ (by omega)]
    have e : j = 0 ∨ j = 1 ∨ j = 2 ∨ j = 3 ∨ j = 4 ∨ j = 5 ∨ j = 6 ∨ j = 7 ∨ j = 8 := by omega
    rcases e with rfl | rfl | rfl | rfl | rfl | rfl | rfl | rfl | rfl <;> rfl
  · rw [conf_ne _ _ (by omega) (by omega), hz _ (by omega)]
    have e : j = 0 ∨ j = 1 ∨ j = 2 ∨ j = 3 ∨ j = 4 ∨ j = 5 ∨ j = 6 ∨ j = 7 ∨ j = 8 := by omega
    rcases e with rfl | rfl | rfl | rfl | rfl | rfl | rfl | rfl | rfl <;> rfl
  · rw [conf_ne _ _ (by omega) (by omega), Array.getElem?_setIfInBounds_self_of_lt (by decide)]

section
variable {w w' : World} {g tg : Nat} {S : Nat → Prop} {cs : Array Value} {v : Nat → Value} {ks : List Key} {x : Qm}
set_option maxRecDepth 100000 in
set_option maxHeartbeats 2000000 in
theorem setw_any (h : Whole w g 83 cs) (hs : cs.size = 68) (hp : cs[67]? = some (.pointer (some ⟨tg, 0, none⟩))) (c : Cf) (hr : U64 c.r) (hh : U64 c.h) :
    Calls Try.prog 29 #[.pointer (some ⟨g, 0, none⟩), c.v] w fun e w' => e = .returned (.int .i64 (setV c)) ∧ (c.Ok → Whole w' g 83 (Lib.lay cs 0 (confL c))) ∧ (¬ c.Ok → Whole w' g 83 cs) ∧ Keep (fun k => k = g) w w' := by
  have HLG := Lib.hid h.lt
  have kz : Keep (fun _ => False) w (w.alloc (.cells #[.int .i64 c.q, .int .i64 c.f, .int .i64 c.l, .int .i64 c.w, .int .u64 c.h, .int .u64 c.r, .bool c.d, .int .i64 c.k, .int .i64 c.m] 24)) := (Keep.refl _ _).alloc _
  have HG0 := Lib.hid (h.keep kz id); have HK0 := Lib.hid kz
  have HB0 := Lib.hid (Whole.new w 24 #[.int .i64 c.q, .int .i64 c.f, .int .i64 c.l, .int .i64 c.w, .int .u64 c.h, .int .u64 c.r, .bool c.d, .int .i64 c.k, .int .i64 c.m])
  have HR := Lib.hid hr; have HH := Lib.hid hh; have HCS := Lib.hid hs; have HP := Lib.hid hp
  obtain ⟨b, hb⟩ : ∃ b, b = decide c.Ok := ⟨_, rfl⟩
  have HBB := Lib.hid hb
  obtain ⟨q, f, l, m, hz, r, d, k, s⟩ := c
  dsimp only [Cf.v] at *
  clear h kz hr hh hb hs hp
  go_enter Try.func29, Try.ntmps29
  go_wp2_with fail
  generalize hw0 : w.alloc _ = w0 at *
  clear hw0
  refine (may_any ⟨q, f, l, m, hz, r, d, k, s⟩ HR.out HH.out b HBB.out w0).mono ?_
  rintro e w1 ⟨rfl, k1⟩
  have HG1 := Lib.hid (HG0.out.keep k1 id); have HK1 := Lib.hid (HK0.out.trans k1)
  have HB1 := Lib.hid (HB0.out.keep k1 id)
  clear k1 HG0 HK0 HB0
  cases b with
  | false =>
    have hno : ¬ (⟨q, f, l, m, hz, r, d, k, s⟩ : Cf).Ok := by have := HBB.out; simpa using this.symm
    have HNO := Lib.hid hno
    clear hno
    go_wp2
    go_ret
    exact ⟨ret_i (if_neg HNO.out).symm, fun e => absurd e HNO.out, fun _ => HG1.out, HK1.out.mono (fun _ h => h.elim)⟩
  | true =>
    have hyes : (⟨q, f, l, m, hz, r, d, k, s⟩ : Cf).Ok := by have := HBB.out; simpa using this.symm
    have HYES := Lib.hid hyes
    have cw : w1.cell? ⟨g, 67, none⟩ = some (.pointer (some ⟨tg, 0, none⟩)) := (HG1.out.cell 67).trans HP.out
    obtain ⟨V, hV⟩ : ∃ V : Array Value, V = #[.int .i64 q, .int .i64 f, .int .i64 l, .int .i64 m, .int .u64 hz, .int .u64 r, .bool d, .int .i64 k, .int .i64 s] := ⟨_, rfl⟩
    have HV : Hid (V.toList = confL ⟨q, f, l, m, hz, r, d, k, s⟩) := Lib.hid (by rw [hV]; rfl)
    rw [← hV] at HB1
    have HRV := Lib.hid (show w1.rangeAt w.heap.size 0 V.toList from fun j u hu => by rw [HB1.out.cell, Nat.zero_add, ← hu]; simp)
    have HSZ : Hid ((Try.prog.info? 24).map (·.size) = some V.toList.length) := Lib.hid (by rw [hV]; exact Try.size24)
    have HSZ' : Hid ((Try.prog.info? 24).map (·.size) = some V.size) := Lib.hid (by rw [hV]; exact Try.size24)
    have HTH := Lib.hid (show w1.there g 0 V.size from fun j hj => by
      rw [Nat.zero_add]
      have h9 : j < 9 := by rw [hV] at hj; exact hj
      have := HCS.out
      exact ⟨by rw [HG1.out.cell, Array.getElem?_eq_getElem (by omega)]; rfl, HG1.out.free j⟩)
    have HONE : Hid (V.all (·.oneCell') = true) := Lib.hid (by rw [hV]; exact all_oneCell_toArray (fun u hu => by
      simp only [List.mem_cons, List.not_mem_nil, or_false] at hu
      rcases hu with rfl | rfl | rfl | rfl | rfl | rfl | rfl | rfl | rfl <;> rfl))
    clear hV
    clear hyes
    go_wp2_with (first
      | (refine wpList_load_mid rfl 24 (.tmp 3) rfl w.heap.size 0 rfl V.toList _ HRV.out Try.underlying24 rfl HSZ.out ?_)
      | (refine wpList_store_mid rfl 24 (.tmp 22) (.tmp 20) rfl g 0 V rfl rfl HTH.out HSZ'.out HONE.out ?_))
    go_ret
    refine ⟨ret_i (if_pos HYES.out).symm, fun _ => ?_, fun e => absurd HYES.out e, Keep.setCells (S := fun k => k = g) rfl _ _ (HK1.out.mono (fun _ h => h.elim))⟩
    rw [← HV.out]
    exact HG1.out.puts V.toList 0
theorem FQat.setc (h : FQat w g tg S cs v ks x) (c : Cf) (hr : U64 c.r) (hh : U64 c.h) :
    Calls Try.prog 29 #[.pointer (some ⟨g, 0, none⟩), c.v] w fun e w' => e = .returned (.int .i64 (setV c)) ∧ ∃ cs', FQat w' g tg S cs' v ks (setX x c) ∧ Keep (fun k => k = g) w w' := by
  refine (setw_any h.w.whole h.w.c.size h.w.c.wt c hr hh).mono ?_
  rintro e w' ⟨rfl, h1, h2, hk⟩
  refine ⟨rfl, ?_⟩
  unfold setX
  by_cases hc : c.Ok
  · rw [if_pos hc]
    exact ⟨_, ⟨FQw.block h.w (h1 hc) hk (h.w.c.conf c) (fun _ _ => rfl), set_ok h.ok hc, h.ks⟩, hk⟩
  · rw [if_neg hc]
    exact ⟨_, ⟨FQw.block h.w (h2 hc) hk h.w.c (fun _ _ => rfl), h.ok, h.ks⟩, hk⟩
set_option maxRecDepth 100000 in
set_option maxHeartbeats 2000000 in
/-- Set of a new one. -/
theorem setn_any (h : Whole w g 83 cs) (hs : cs.size = 68) (hp : cs[67]? = some (.pointer none)) (c : Cf) (hr : U64 c.r) (hh : U64 c.h) :
    Calls Try.prog 29 #[.pointer (some ⟨g, 0, none⟩), c.v] w fun e w' => e = .returned (.int .i64 (setV c)) ∧ (c.Ok → ∃ tg S, Whole w' g 83 (Lib.lay (cs.setIfInBounds 67 (.pointer (some ⟨tg, 0, none⟩))) 0 (confL c)) ∧ TreeAt w' S tg 8 [] ∧ (∀ k, S k → w.heap.size ≤ k)) ∧ Keep (fun k => k = g) w w' := by
  have HLG := Lib.hid h.lt
  have kz : Keep (fun _ => False) w (w.alloc (.cells #[.int .i64 c.q, .int .i64 c.f, .int .i64 c.l, .int .i64 c.w, .int .u64 c.h, .int .u64 c.r, .bool c.d, .int .i64 c.k, .int .i64 c.m] 24)) := (Keep.refl _ _).alloc _
  have HG0 := Lib.hid (h.keep kz id); have HK0 := Lib.hid kz
  have HB0 := Lib.hid (Whole.new w 24 #[.int .i64 c.q, .int .i64 c.f, .int .i64 c.l, .int .i64 c.w, .int .u64 c.h, .int .u64 c.r, .bool c.d, .int .i64 c.k, .int .i64 c.m])
  have HR := Lib.hid hr; have HH := Lib.hid hh; have HCS := Lib.hid hs; have HP := Lib.hid hp
  obtain ⟨b, hb⟩ : ∃ b, b = decide c.Ok := ⟨_, rfl⟩
  have HBB := Lib.hid hb
  obtain ⟨q, f, l, m, hz, r, d, k, s⟩ := c
  dsimp only [Cf.v] at *
  clear h kz hr hh hb hs hp
  go_enter Try.func29, Try.ntmps29
  go_wp2_with fail
  generalize hw0 : w.alloc _ = w0 at *
  clear hw0
  refine (may_any ⟨q, f, l, m, hz, r, d, k, s⟩ HR.out HH.out b HBB.out w0).mono ?_
  rintro e w1 ⟨rfl, k1⟩
  have HG1 := Lib.hid (HG0.out.keep k1 id); have HK1 := Lib.hid (HK0.out.trans k1)
  have HB1 := Lib.hid (HB0.out.keep k1 id)
  clear k1 HG0 HK0 HB0
  cases b with
  | false =>
    have hno : ¬ (⟨q, f, l, m, hz, r, d, k, s⟩ : Cf).Ok := by have := HBB.out; simpa using this.symm
    have HNO := Lib.hid hno
    clear hno
    go_wp2
    go_ret
    exact ⟨ret_i (if_neg HNO.out).symm, fun e => absurd e HNO.out, HK1.out.mono (fun _ h => h.elim)⟩
  | true =>
    have hyes : (⟨q, f, l, m, hz, r, d, k, s⟩ : Cf).Ok := by have := HBB.out; simpa using this.symm
    have HYES := Lib.hid hyes
    have cw : w1.cell? ⟨g, 67, none⟩ = some (.pointer none) := (HG1.out.cell 67).trans HP.out
    clear hyes
    go_wp2_with fail
    refine (tnew_any 8 w1).mono ?_
    rintro e w2 ⟨tg, S, rfl, ht, hS, k2⟩
    have HT2 := Lib.hid ht; have HS2 := Lib.hid hS
    have hg2 := HG1.out.keep k2 id
    have cw2 : w2.cell? ⟨g, 67, none⟩ = some (.pointer none) := (hg2.cell 67).trans HP.out
    have fw2 := hg2.free 67
    have HG3 := Lib.hid (hg2.put 67 (.pointer (some ⟨tg, 0, none⟩)))
    have HK3 := Lib.hid (((HK1.out.trans k2).mono (fun _ h => h.elim) : Keep (fun k => k = g) w w2).setCell (p := ⟨g, 67, none⟩) (.inl rfl) (.pointer (some ⟨tg, 0, none⟩)))
    have HKS : Hid (Keep (fun k => k = g) w2 (w2.setCell ⟨g, 67, none⟩ (.pointer (some ⟨tg, 0, none⟩)))) := Lib.hid ((Keep.refl (fun k => k = g) w2).setCell (p := ⟨g, 67, none⟩) (.inl rfl) _)
    have HB3 := Lib.hid ((HB1.out.keep k2 id).keep HKS.out (fun e => by have := HLG.out; omega))
    have HT3 := Lib.hid (HT2.out.keep HKS.out (fun k e e2 => by have := HS2.out k e; have := HLG.out; have := HK1.out.size; omega))
    have HCS3 : Hid ((cs.setIfInBounds 67 (.pointer (some ⟨tg, 0, none⟩))).size = 68) := Lib.hid (by rw [Array.size_setIfInBounds]; exact HCS.out)
    have HSF : Hid (∀ k, S k → w.heap.size ≤ k) := Lib.hid (fun k e => by have := HS2.out k e; have := HK1.out.size; omega)
    clear ht hS hg2 k2 HG1 HK1 HB1 HKS HT2 HS2 HCS cw
    go_upto_region 7 with fail
    clear cw2 fw2
    generalize hw3 : w2.setCell ⟨g, 67, none⟩ (.pointer (some ⟨tg, 0, none⟩)) = w1 at *
    clear hw3
    have HG1 := HG3; have HB1 := HB3; have HCS := HCS3
    clear HG3 HB3 HCS3
    obtain ⟨V, hV⟩ : ∃ V : Array Value, V = #[.int .i64 q, .int .i64 f, .int .i64 l, .int .i64 m, .int .u64 hz, .int .u64 r, .bool d, .int .i64 k, .int .i64 s] := ⟨_, rfl⟩
    have HV : Hid (V.toList = confL ⟨q, f, l, m, hz, r, d, k, s⟩) := Lib.hid (by rw [hV]; rfl)
    rw [← hV] at HB1
    have HRV := Lib.hid (show w1.rangeAt w.heap.size 0 V.toList from fun j u hu => by rw [HB1.out.cell, Nat.zero_add, ← hu]; simp)
    have HSZ : Hid ((Try.prog.info? 24).map (·.size) = some V.toList.length) := Lib.hid (by rw [hV]; exact Try.size24)
    have HSZ' : Hid ((Try.prog.info? 24).map (·.size) = some V.size) := Lib.hid (by rw [hV]; exact Try.size24)
    have HTH := Lib.hid (show w1.there g 0 V.size from fun j hj => by
      rw [Nat.zero_add]
      have h9 : j < 9 := by rw [hV] at hj; exact hj
      have := HCS.out
      exact ⟨by rw [HG1.out.cell, Array.getElem?_eq_getElem (by omega)]; rfl, HG1.out.free j⟩)
    have HONE : Hid (V.all (·.oneCell') = true) := Lib.hid (by rw [hV]; exact all_oneCell_toArray (fun u hu => by
      simp only [List.mem_cons, List.not_mem_nil, or_false] at hu
      rcases hu with rfl | rfl | rfl | rfl | rfl | rfl | rfl | rfl | rfl <;> rfl))
    clear hV
    go_wp2_with (first
      | (refine wpList_load_mid rfl 24 (.tmp 3) rfl w.heap.size 0 rfl V.toList _ HRV.out Try.underlying24 rfl HSZ.out ?_)
      | (refine wpList_store_mid rfl 24 (.tmp 22) (.tmp 20) rfl g 0 V rfl rfl HTH.out HSZ'.out HONE.out ?_))
    go_ret
    refine ⟨ret_i (if_pos HYES.out).symm, fun _ => ⟨tg, S, ?_, ?_, HSF.out⟩, Keep.setCells (S := fun k => k = g) rfl _ _ HK3.out⟩
    · rw [← HV.out]
      exact HG1.out.puts V.toList 0
    · exact HT3.out.keep (Keep.setCells (S := fun k => k = g) rfl V.toList 0 (Keep.refl _ w1)) (fun k e e2 => by have := HSF.out k e; have := HLG.out; omega)
end
end Go.Proofs.Ytnljjdfajmjdjaa
namespace Go.Proofs.Ytnljjdfajmjdjaa
open Go.RowKit
set_option maxRecDepth 100000
set_option linter.unusedSimpArgs false
set_option linter.unusedVariables false

section
variable {w w' : World} {g tg : Nat} {S : Nat → Prop} {cs : Array Value} {v : Nat → Value} {ks : List Key} {x : Qm}
theorem FQw.dog (h : FQw w g tg S cs v ks x) :
    Calls Try.prog 26 #[.pointer (some ⟨g, 0, none⟩)] w fun e w' => e = .returned (.tuple #[.int .u64 (hdK ks).a, .bool (hdB ks)]) ∧ Keep (fun _ => False) w w' := by
  have H := Lib.hid h
  have cw := h.wait
  obtain ⟨k, hk⟩ : ∃ k, hdK ks = k := ⟨_, rfl⟩
  have HK := Lib.hid hk
  rw [hk]
  obtain ⟨ka, kb⟩ := k
  clear h hk
  go_enter Try.func26, Try.ntmps26
  go_wp2_with fail
  refine (tmin_any w H.out.tree).mono ?_
  rintro e w1 ⟨rfl, k1⟩
  rw [HK.out]
  unfold kv
  have K1 := Lib.hid k1
  clear k1 cw
  go_wp2
  go_ret2
  exact ⟨rfl, K1.out.alloc _⟩
end
end Go.Proofs.Ytnljjdfajmjdjaa
namespace Go.Proofs.Ytnljjdfajmjdjaa
open Go.RowKit
set_option maxRecDepth 100000
set_option linter.unusedSimpArgs false
set_option linter.unusedVariables false

set_option maxHeartbeats 1000000 in
theorem sgclone_any (v : Value) (l : List Sg) (w : World) (h : SgAt w v l) (hl : l.length ≤ 100000) :
    Calls Try.prog 39 #[v] w fun e w' => ∃ v', e = .returned v' ∧ w'.ownsRow w.heap.size 34 5 v' l.length (flatG l) ∧ Keep (fun _ => False) w w' := by
  have hq : ∀ (w : World) (a : Option Addr) (n c n' c' : Nat), (binOp .eql 42 (.slice a n c) (.slice none n' c')).run Try.prog w = .ok (.bool a.isNone) w := fun w a n c n' c' => Lib.run_eql_slice_nil w _ _ a n c n' c' Try.underlying42
  have H := Lib.hid h
  rcases h with ⟨rfl, rfl⟩ | ⟨g, o, cap, cur, rfl, hg, h1, h2, h3, h4⟩
  · go_enter Try.func39, Try.ntmps39
    go_wp2
    go_ret
    exact ⟨_, rfl, World.ownsRow_nil _ _ _ _, Keep.refl _ _⟩
  · obtain ⟨i0, hi, hz0, hz1, hz2⟩ := info_parts Try.infoSg
    have HI := Lib.hid hi; have HZ0 := Lib.hid hz0; have HZ1 := Lib.hid hz1; have HZ2 := Lib.hid hz2
    have HR := Lib.hid (H.out.kept ((Keep.refl (fun _ => False) w).alloc (.cells #[] 34))).run
    have HO : Hid ((w.alloc (.cells #[] 34)).ownsRow w.heap.size 34 5 (.slice (some ⟨w.heap.size, 0, none⟩) 0 0) 0 []) := Lib.hid ⟨rfl, .inr ⟨w.heap.size, 0, #[], rfl, Nat.le_refl _, heap_alloc_new w _, Nat.le_refl _, Nat.zero_le _, rfl, rfl⟩⟩
    have hone : ∀ l : List Sg, ∀ u ∈ flatG l, u.oneCell' = true := fun l => by
      induction l with
      | nil => intro u hu; cases hu
      | cons a r ih =>
        intro u hu
        rcases List.mem_append.1 hu with hu | hu
        · exact one_sg a u hu
        · exact ih u hu
    have HONE := Lib.hid (hone l)
    have HL := Lib.hid hl
    clear hi hz0 hz1 hz2 hg h1 h2 h3 h4 hone hl
    go_enter Try.func39, Try.ntmps39
    go_wp2_with (at_builtin; refine wpList_append_own _ rfl _ _ 42 rfl w.heap.size 34 i0 Sg.zero.v 5 40 Try.underlying42 HI.out HZ0.out HZ1.out HZ2.out rfl (by decide) (.slice (some ⟨w.heap.size, 0, none⟩) 0 0) 0 [] rfl HO.out ⟨g, o, none⟩ l.length cap (flatG l) rfl (flatG_len l) (fun j u hu => by rw [Addr.add_lit]; exact HR.out j u hu) HONE.out (by have := HL.out; unfold maxLen; omega) (by have := HL.out; omega) (by simp) ?_; intro v' w1 hown hgr _; rw [Nat.zero_add, List.nil_append] at hown; have HOW := Lib.hid hown; have HGR := Lib.hid hgr; obtain ⟨a', cap', hv⟩ := (show ∃ a' cap', v' = .slice a' l.length cap' from (by rcases hown.2 with ⟨rfl, h0⟩ | ⟨g, cap, cur, rfl, _⟩; exact ⟨none, 0, by rw [h0]⟩; exact ⟨_, cap, rfl⟩)); subst hv; clear hown hgr)
    go_ret
    refine ⟨_, rfl, HOW.out, ((Keep.refl _ w).alloc _).then (Keep.of_grown HGR.out) (fun k hk hlt => ?_)⟩
    simp [Value.ownBlock] at hk
    omega

theorem ownsRow_l0 {w : World} {b : Nat} {e : TypeId} {sz n : Nat} {v : Value} {xs : List Value} (h : w.ownsRow b e sz v n xs) : w.ownsRow 0 e sz v n xs :=
  ⟨h.1, h.2.imp id fun ⟨g, cap, cur, e, _, r⟩ => ⟨g, cap, cur, e, Nat.zero_le _, r⟩⟩
theorem Try.size44 : (Try.prog.info? 44).map (·.size) = some 6 := by kernel_rfl
theorem there6 {w : World} {g : Nat} {t : TypeId} {a b c d e f : Value} (h : Whole w g t #[a, b, c, d, e, f]) : w.there g 0 6 := fun j hj => by
  rw [Nat.zero_add]
  exact ⟨by rw [h.cell, Array.getElem?_eq_getElem (by simpa using hj)]; rfl, h.free j⟩
section
variable {w w' : World} {g tg : Nat} {S : Nat → Prop} {cs : Array Value} {v : Nat → Value} {ks : List Key} {x : Qm}
set_option maxRecDepth 100000 in
set_option maxHeartbeats 2000000 in
theorem FQw.flow_no (h : FQw w g tg S cs v ks x) (z : Int) (hz : ¬ ((0 ≤ z ∧ z < 8) ∧ x.T z.toNat = true)) :
    Calls Try.prog 20 #[.pointer (some ⟨g, 0, none⟩), .int .i64 z] w fun e w' => e = .returned (.tuple #[Fl.v (.slice none 0 0) Fl.zero, .bool false]) ∧ Keep (fun _ => False) w w' := by
  have kz : Keep (fun _ => False) w (w.alloc (.cells #[.int .i64 0, .int .i64 0, .int .i64 0, .int .u64 0, .int .u64 0, .slice none 0 0] 44)) := (Keep.refl _ _).alloc _
  have HQ0 := Lib.hid (h.kept kz); have HK0 := Lib.hid kz
  have HB0 := Lib.hid (Whole.new w 44 #[.int .i64 0, .int .i64 0, .int .i64 0, .int .u64 0, .int .u64 0, .slice none 0 0])
  clear h kz
  obtain ⟨c, hc⟩ : ∃ c, c = decide (0 ≤ z ∧ z < 8) := ⟨_, rfl⟩
  have HCC := Lib.hid hc
  cases c with
  | false =>
    clear hc hz
    go_enter Try.func20, Try.ntmps20
    go_wp2_with fail
    refine (issock_any z false HCC.out _).mono ?_
    rintro e w1 ⟨rfl, rfl⟩
    go_wp2
    refine bodyPost_ret (v := .tuple #[.agg #[.int .i64 0, .int .i64 0, .int .i64 0, .int .u64 0, .int .u64 0, .slice none 0 0], .bool false]) (by rw [results_cell_tmp rfl]; go_simp) rfl ?_
    exact ⟨rfl, HK0.out⟩
  | true =>
    have hzz : 0 ≤ z ∧ z < 8 := by simpa using hc.symm
    obtain ⟨i, rfl⟩ : ∃ i : Nat, z = (i : Int) := ⟨z.toNat, by omega⟩
    have hi : i < 8 := by omega
    have hi8 : (i : Int) < 8 := by omega
    have ht : x.T i = false := by
      cases ht : x.T i with
      | false => rfl
      | true => exact absurd ⟨hzz, ht⟩ hz
    have ct := HQ0.out.there hi
    rw [ht] at ct
    clear hc hz hzz hi ht
    go_enter Try.func20, Try.ntmps20
    go_wp2_with fail
    refine (issock_any (i : Int) true HCC.out _).mono ?_
    rintro e w1 ⟨rfl, rfl⟩
    go_wp2
    refine bodyPost_ret (v := .tuple #[.agg #[.int .i64 0, .int .i64 0, .int .i64 0, .int .u64 0, .int .u64 0, .slice none 0 0], .bool false]) (by rw [results_cell_tmp rfl]; go_simp) rfl ?_
    exact ⟨rfl, HK0.out⟩
set_option maxRecDepth 100000 in
set_option maxHeartbeats 2000000 in
theorem FQat.flow_yes (h : FQat w g tg S cs v ks x) {i : Nat} (hi : i < 8) (ht : x.T i = true) :
    Calls Try.prog 20 #[.pointer (some ⟨g, 0, none⟩), .int .i64 (i : Int)] w fun e w' => ∃ V, e = .returned (.tuple #[Fl.v V (x.F i), .bool true]) ∧ (sgsT 34 V (x.F i).q).at_ w' ∧ (∀ k, V.ownBlock = some k → w.heap.size ≤ k) ∧ Keep (fun _ => False) w w' := by
  have HOK := Lib.hid (h.ok.is i hi ht)
  have HPL := Lib.hid (show placeK x ks i = (x.F i).p by rw [placeK_is h.ok h.ks hi, if_pos ht])
  have HLS := Lib.hid h.ok.ls
  have HI := Lib.hid hi
  have HLEN : Hid ((x.F i).q.length ≤ 100000) := Lib.hid (by have := lenQ_le (x := x) hi; have := h.ok.len; omega)
  have hi8 : (i : Int) < 8 := by omega
  have HCC : Hid (true = decide (0 ≤ (i : Int) ∧ (i : Int) < 8)) := Lib.hid (by
    have := hi
    symm
    rw [decide_eq_true_iff]
    omega)
  obtain ⟨w0, hw0⟩ : ∃ w0, w0 = w.alloc (.cells #[.int .i64 0, .int .i64 0, .int .i64 0, .int .u64 0, .int .u64 0, .slice none 0 0] 44) := ⟨_, rfl⟩
  have kz : Keep (fun _ => False) w w0 := by rw [hw0]; exact (Keep.refl _ _).alloc _
  have hb0 : Whole w0 w.heap.size 44 #[.int .i64 0, .int .i64 0, .int .i64 0, .int .u64 0, .int .u64 0, .slice none 0 0] := by rw [hw0]; exact Whole.new w _ _
  have HQ0 := Lib.hid (h.w.kept kz); have HK0 := Lib.hid kz; have HB0 := Lib.hid hb0
  have ct := HQ0.out.there hi
  rw [ht] at ct
  have c1 := HQ0.out.credit hi; have c2 := HQ0.out.next hi; have c3 := HQ0.out.since hi; have c4 := HQ0.out.seg hi
  obtain ⟨sa, scap, hsv, _⟩ := (HQ0.out.q i hi).shape
  have HSV := Lib.hid hsv
  rw [hsv] at c4
  have HSQ := HQ0.out.q i hi
  rw [hsv] at HSQ
  replace HSQ := Lib.hid HSQ
  obtain ⟨LL, hLL⟩ : ∃ n, (x.F i).q.length = n := ⟨_, rfl⟩
  rw [hLL] at c4
  have HLL := Lib.hid hLL
  obtain ⟨fs, fc, fp, fn, fu, fq, hf⟩ : ∃ fs fc fp fn fu fq, x.F i = ⟨fs, fc, fp, fn, fu, fq⟩ := ⟨_, _, _, _, _, _, rfl⟩
  have HF := Lib.hid hf
  rw [hf] at c1 c2 c3
  dsimp only at c1 c2 c3
  have HFS : Hid (fs = (i : Int)) := Lib.hid (by have := HOK.out.hs; rw [hf] at this; exact this)
  have HFN : Hid (0 ≤ (x.F i).n) := Lib.hid HOK.out.hn.1
  have HPP : Hid (placeK x ks i = fp) := Lib.hid (by rw [HPL.out, hf])
  rw [hf]
  clear h hi ht kz hb0 hsv hLL hf
  go_enter Try.func20, Try.ntmps20
  go_upto_region 1 with fail
  rw [← hw0]
  clear hw0
  go_wp2_with fail
  refine (issock_any (i : Int) true HCC.out _).mono ?_
  rintro e w1 ⟨rfl, rfl⟩
  go_wp2_with fail
  have HB1 := Lib.hid (Whole.new w0 74 #[.bool true, .int .i64 fc, .int .u64 fn, .int .u64 fu, .slice sa LL scap])
  have kz : Keep (fun _ => False) w0 (w0.alloc (.cells #[.bool true, .int .i64 fc, .int .u64 fn, .int .u64 fu, .slice sa LL scap] 74)) := (Keep.refl _ _).alloc _
  have HK1 := Lib.hid (HK0.out.trans kz); have HQ1 := Lib.hid (HQ0.out.kept kz); have HBB1 := Lib.hid (HB0.out.keep kz id); have HSQ1 := Lib.hid (HSQ.out.kept kz)
  have HLT : Hid (w.heap.size < w0.heap.size) := Lib.hid HB0.out.lt
  clear ct c1 c2 c3 c4 kz HK0 HQ0 HB0 HSQ
  generalize hB1 : w0.heap.size = B1 at *
  generalize hw1 : w0.alloc _ = w1 at *
  clear hw1 hB1
  have d1 := HB1.out.cell 1; have d2 := HB1.out.cell 2; have d3 := HB1.out.cell 3; have d4 := HB1.out.cell 4
  simp only [List.getElem?_toArray, List.getElem?_cons_zero, List.getElem?_cons_succ] at d1 d2 d3 d4
  refine wp_region_sch (fun W => W.cell? ⟨B1, 1, none⟩ = some (.int .i64 fc) ∧ W.cell? ⟨B1, 2, none⟩ = some (.int .u64 fn) ∧ W.cell? ⟨B1, 3, none⟩ = some (.int .u64 fu) ∧ W.cell? ⟨B1, 4, none⟩ = some (.slice sa LL scap)) [(true, 0), (true, 1), (true, 2), (true, 3), (true, 4), (true, 6), (true, 7), (true, 8), (true, 9), (true, 10), (true, 11), (false, 5), (false, 12), (true, 13), (false, 14), (true, 15)] (by kernel_rfl) (by kernel_rfl) (by kernel_rfl) (by kernel_rfl) ⟨d1, d2, d3, d4⟩ ?_
  have HQ2 := Lib.hid (HQ1.out.kept (Keep.refl _ w1).drew); have HK2 := Lib.hid HK1.out.drew; have HBX2 := Lib.hid (HB1.out.keep (Keep.refl (fun _ => False) w1).drew id); have HBB2 := Lib.hid (HBB1.out.keep (Keep.refl (fun _ => False) w1).drew id); have HSQ2 := Lib.hid (HSQ1.out.kept (Keep.refl _ w1).drew)
  clear d1 d2 d3 d4 HQ1 HK1 HB1 HBB1 HSQ1
  generalize w1.drew = w2 at *
  (repeat (refine wpSch_yes (v := ?_) rfl (fun _ _ _ h => h) (by rfl) ?_ ?_; rotate_left; (next => (intro w hSw; (try dsimp only at hSw); obtain ⟨hS1, hS2, hS3, hS4⟩ := hSw; go_simp; (try with_reducible rfl))); (try simp only [Act.put, List.setIfInBounds_toArray, List.set_cons_zero, List.set_cons_succ])))
  refine wpSch_call rfl (by rfl) (fun K hK => ?_); go_simp
  refine (HQ2.out.place HLS.out HI.out HFN.out HPP.out).mono ?_
  rintro e w3 ⟨rfl, k3⟩
  have HK3 := Lib.hid (HK2.out.trans k3); have HBX3 := Lib.hid (HBX2.out.keep k3 id); have HBB3 := Lib.hid (HBB2.out.keep k3 id); have HSQ3 := Lib.hid (HSQ2.out.kept k3)
  clear k3 HQ2 HK2 HBX2 HBB2 HSQ2
  refine hK.out _ _ ⟨HBX3.out.cell 1, HBX3.out.cell 2, HBX3.out.cell 3, HBX3.out.cell 4⟩ (fun hHeld => ?_)
  clear hK K hHeld
  (try simp only [Act.put, List.setIfInBounds_toArray, List.set_cons_zero, List.set_cons_succ])
  refine wpSch_call rfl (by rfl) (fun K hK => ?_); go_simp
  refine (sgclone_any (.slice sa LL scap) (x.F i).q w3 (by rw [← HLL.out]; exact HSQ3.out) HLEN.out).mono ?_
  rintro e w4 ⟨V, rfl, hrow, k4⟩
  obtain ⟨va, vcap, hv⟩ := (show ∃ a' cap', V = .slice a' (x.F i).q.length cap' from (by rcases hrow.2 with ⟨rfl, h0⟩ | ⟨g, cap, cur, rfl, _⟩; exact ⟨none, 0, by rw [h0]⟩; exact ⟨_, cap, rfl⟩))
  rw [HLL.out] at hv
  subst hv
  have HK4 := Lib.hid (HK3.out.trans k4); have HBX4 := Lib.hid (HBX3.out.keep k4 id); have HBB4 := Lib.hid (HBB3.out.keep k4 id); have HROW := Lib.hid hrow
  have HLT3 : Hid (w.heap.size < w3.heap.size) := Lib.hid HBB3.out.lt
  clear k4 hrow HK3 HBX3 HBB3 HSQ3
  refine hK.out _ _ ⟨HBX4.out.cell 1, HBX4.out.cell 2, HBX4.out.cell 3, HBX4.out.cell 4⟩ (fun hHeld => ?_)
  clear hK K hHeld
  (try simp only [Act.put, List.setIfInBounds_toArray, List.set_cons_zero, List.set_cons_succ])
  (repeat (refine wpSch_yes (v := ?_) rfl (fun _ _ _ h => h) (by rfl) ?_ ?_; rotate_left; (next => (intro w hSw; (try dsimp only at hSw); obtain ⟨hS1, hS2, hS3, hS4⟩ := hSw; go_simp; (try with_reducible rfl))); (try simp only [Act.put, List.setIfInBounds_toArray, List.set_cons_zero, List.set_cons_succ])))
  refine wpSch_call rfl (by rfl) (fun K hK => ?_)
  have HT := Lib.hid (there6 HBB4.out)
  obtain ⟨Z, hZ⟩ : ∃ Z : List Value, Z = [.int .i64 (i : Int), .int .i64 fc, .int .i64 fp, .int .u64 fn, .int .u64 fu, .slice va LL vcap] := ⟨_, rfl⟩
  have hb := HBB4.out.puts Z 0
  have hk := HK4.out.then (Keep.setCells (S := fun k => k = w.heap.size) rfl Z 0 (Keep.refl _ w4)) (fun k e hlt => by omega)
  have hbx : Whole (w4.setCells w.heap.size 0 Z) B1 74 _ := HBX4.out.keep (Keep.setCells (S := fun k => k = w.heap.size) rfl Z 0 (Keep.refl _ w4)) (fun e => by have := HLT.out; omega)
  have hrw := ownsRow_keep (ownsRow_l0 HROW.out) (Keep.setCells (S := fun k => k = w.heap.size) rfl Z 0 (Keep.refl _ w4)) (fun k e e2 => by have := (HROW.out.lt k e).1; have := HLT3.out; omega)
  refine wp_store_mid 44 (.tmp 4) (.tmp 44) rfl w.heap.size 0 #[.int .i64 (i : Int), .int .i64 fc, .int .i64 fp, .int .u64 fn, .int .u64 fu, .slice va LL vcap] rfl rfl HT.out Try.size44 (all_oneCell_toArray (fun u hu => by
    simp only [List.mem_cons, List.not_mem_nil, or_false] at hu
    rcases hu with rfl | rfl | rfl | rfl | rfl | rfl <;> rfl)) ?_
  rw [show (#[.int .i64 (i : Int), .int .i64 fc, .int .i64 fp, .int .u64 fn, .int .u64 fu, .slice va LL vcap] : Array Value).toList = Z from hZ.symm]
  refine hK.out _ _ ⟨hbx.cell 1, hbx.cell 2, hbx.cell 3, hbx.cell 4⟩ (fun hHeld => ?_)
  subst hZ
  have e0 := hb.cell 0; have e1 := hb.cell 1; have e2 := hb.cell 2; have e3 := hb.cell 3; have e4 := hb.cell 4; have e5 := hb.cell 5
  replace e0 := e0.trans (show _ = some (Value.int .i64 (i : Int)) from rfl); replace e1 := e1.trans (show _ = some (Value.int .i64 fc) from rfl); replace e2 := e2.trans (show _ = some (Value.int .i64 fp) from rfl); replace e3 := e3.trans (show _ = some (Value.int .u64 fn) from rfl); replace e4 := e4.trans (show _ = some (Value.int .u64 fu) from rfl); replace e5 := e5.trans (show _ = some (Value.slice va LL vcap) from rfl)
  have HRW := Lib.hid hrw; have HKK := Lib.hid hk
  clear hK K hHeld hb hbx hk hrw
  (try simp only [Act.put, List.setIfInBounds_toArray, List.set_cons_zero, List.set_cons_succ])
  generalize World.setCells _ _ _ _ = W at *
  (repeat (refine wpSch_yes (v := ?_) rfl (fun _ _ _ h => h) (by rfl) ?_ ?_; rotate_left; (next => (intro w hSw; (try dsimp only at hSw); obtain ⟨hS1, hS2, hS3, hS4⟩ := hSw; go_simp; (try with_reducible rfl))); (try simp only [Act.put, List.setIfInBounds_toArray, List.set_cons_zero, List.set_cons_succ])))
  refine wpSch_nil ?_
  go_wp2
  refine bodyPost_ret (v := .tuple #[.agg #[.int .i64 (i : Int), .int .i64 fc, .int .i64 fp, .int .u64 fn, .int .u64 fu, .slice va LL vcap], .bool true]) (by rw [results_cell_tmp rfl]; go_simp) rfl ?_
  refine ⟨.slice va LL vcap, ?_, ?_, fun k e => by have := (HROW.out.lt k e).1; have := HLT3.out; omega, HKK.out⟩
  · dsimp only [Fl.v]
    rw [HFS.out]
  · have : (x.F i).q = fq := by rw [HF.out]
    show W.ownsRow 0 _ 5 _ fq.length (flatG fq)
    rw [← this]
    exact HRW.out
end
end Go.Proofs.Ytnljjdfajmjdjaa
