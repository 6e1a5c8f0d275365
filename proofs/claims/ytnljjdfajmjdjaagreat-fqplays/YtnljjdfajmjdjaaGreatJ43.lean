/-
  The document's queue (canterref20.Queue): a segment is put in. Conditions: it lies in memory as RQat says.
-/
import Derived.Test.YtnljjdfajmjdjaaGreatJ42
import Derived.Test.YtnljjdfajmjdjaaGreatJ08
import Derived.Test.YtnljjdfajmjdjaaGreatJ36
import Derived.Test.YtnljjdfajmjdjaaGreatJ29
namespace Go.Proofs.YtnljjdfajmjdjaaGreat
open Go.RowKit
set_option maxRecDepth 100000
set_option linter.unusedSimpArgs false
set_option linter.unusedVariables false

theorem oper_append_rows {P : Program} {w : World} {o : Oper} {a : Act} {K : Act → World → Prop} {Q : Exit → Act → World → Prop} (s x : Operand) (t : TypeId)
    (ho : o.op = .call { callee := .builtin .append, args := #[s, x], argTypes := #[t, t] })
    (e : TypeId) (i : TypeInfo) (z : Value) (sz bytes : Nat) (ht : P.underlying t = some (.slice e)) (hi : P.info? e = some i) (hz : i.zero = some z)
    (hsize : i.size = sz) (hby : i.bytes = bytes) (hzs : z.cells.size = sz) (hsz : 0 < sz) (v : Value) (n : Nat) (xs : List Value) (hs : a.eval s = v) (hown : w.ownsRow 0 e sz v n xs)
    (src : Option Addr) (m c : Nat) (news : List Value) (hx : a.eval x = .slice src m c) (hl : news.length = m * sz) (hn : src = none → m = 0 ∧ c = 0) (hnews : ∀ a, src = some a → ∀ j u, news[j]? = some u → w.cell? (a.add j) = some u) (h1 : ∀ u ∈ news, u.oneCell' = true)
    (h63 : n + m ≤ maxLen) (hbytes : (n + m) * bytes ≤ 140737488355328)
    (h : ∀ v' w', w'.ownsRow 0 e sz v' (n + m) (xs ++ news) → Keep (fun k => v.ownBlock = some k) w w' → (∀ k, v'.ownBlock = some k → v.ownBlock = some k ∨ w.heap.size ≤ k) → K (a.put o.dst v') w') : Oper.wp P o a w K Q := by
  obtain ⟨v', w', hr, h2, h3, h4, h5⟩ := run_append_rows (P := P) w t o.type e i z sz bytes ht hi hz hsize hby hzs hsz v n xs hown src m c news hl hn hnews h1 h63 hbytes
  unfold Oper.wp execOp
  simp only [ho, resolve, invoke, builtin, Sem.run_bind, Sem.run_pure, Result.andThen_ok, List.map_toArray, List.map_cons, List.map_nil, hs, hx, hr]
  exact h v' w' h2 h3 h4
section
variable {w w' w1 : World} {g : Nat} {cs : Array Value} {v v1 : Nat → Value} {n o n1 o1 : Value} {x y : Qm}
theorem rpre_p (x : Qm) (s : Sg) (now : Int) : (preF x s now).p = if x.T s.s.toNat = true then (x.F s.s.toNat).p else 0 := by
  unfold preF
  split
  · split <;> rfl
  · rfl
/-- The box of a segment. -/
def sgB (s : Sg) : Array Value := #[.int .i64 s.s, .int .u64 s.f, .int .i64 s.l, .int .u64 s.t, .bool s.a]
theorem sgB_get (s : Sg) (j : Nat) : (sgB s)[j]? = s.cells[j]? := List.getElem?_toArray ..
theorem sgB_put (s : Sg) (t : Int) : (sgB s).setIfInBounds 3 (.int .u64 t) = sgB { s with t := t } := rfl
set_option maxHeartbeats 1000000 in
theorem RQat.enq_bad (h : RQ w g cs v n o x) (s : Sg) (now : Int) (hb : enqE s ≠ 0) :
    Calls Tryz.prog 20 #[.pointer (some ⟨g, 0, none⟩), s.v, .int .u64 now] w fun e w' => e = .returned (.tuple #[.int .i64 0, .int .i64 (enqE s)]) ∧ Keep (fun _ => False) w w' := by
  obtain ⟨z, f, l, t, a⟩ := s
  dsimp only [Sg.v]
  have K := Lib.hid ((Keep.refl (fun _ => False) w).alloc (.cells #[.int .i64 z, .int .u64 f, .int .i64 l, .int .u64 t, .bool a] 44))
  clear h
  by_cases h0 : z < 0
  · have e : enqE ⟨z, f, l, t, a⟩ = 8 := if_pos (.inl h0)
    rw [e]
    clear e hb
    go_enter Tryz.func20, Tryz.ntmps20
    go_wp2
    go_ret2
    exact ⟨rfl, K.out⟩
  · by_cases h8 : 8 ≤ z
    · have e : enqE ⟨z, f, l, t, a⟩ = 8 := if_pos (.inr h8)
      rw [e]
      clear e hb
      go_enter Tryz.func20, Tryz.ntmps20
      go_wp2
      go_ret2
      exact ⟨rfl, K.out⟩
    · by_cases hl : l < 1
      · have e : enqE ⟨z, f, l, t, a⟩ = 1 := (if_neg (by dsimp only; omega)).trans (if_pos (.inl hl))
        rw [e]
        clear e hb
        go_enter Tryz.func20, Tryz.ntmps20
        go_wp2
        go_ret2
        exact ⟨rfl, K.out⟩
      · by_cases hl2 : 65536 < l
        · have e : enqE ⟨z, f, l, t, a⟩ = 1 := (if_neg (by dsimp only; omega)).trans (if_pos (.inr hl2))
          rw [e]
          clear e hb
          go_enter Tryz.func20, Tryz.ntmps20
          go_wp2
          go_ret2
          exact ⟨rfl, K.out⟩
        · exact absurd (show enqE ⟨z, f, l, t, a⟩ = 0 from (if_neg (by dsimp only; omega)).trans (if_neg (by dsimp only; omega))) hb
set_option maxHeartbeats 80000000 in
theorem RQat.enq_ok (h : RQ w g cs v n o x) (hx : x.Ok) (s : Sg) (now : Int) (hn : U64 now) (hf : U64 s.f) (hst : U64 s.t) (he : enqE s = 0) :
    Calls Tryz.prog 20 #[.pointer (some ⟨g, 0, none⟩), s.v, .int .u64 now] w fun e w' => e = .returned (.tuple #[.int .i64 (fateQ (collQ x now) s now), .int .i64 0]) ∧ RQto w g v n o (if fateQ (collQ x now) s now = 0 then takeQ (collQ x now) s now else collQ x now) w' := by
  obtain ⟨hs, hl⟩ := enqE_is he
  obtain ⟨i, hsi⟩ : ∃ i : Nat, s.s = (i : Int) := ⟨s.s.toNat, by omega⟩
  obtain ⟨z, sf, sl, st, sa⟩ := s
  dsimp only at hsi hs hl hf hst
  subst hsi
  have hi : i < 8 := by omega
  have HI := Lib.hid hi; have HN := Lib.hid hn; have HST := Lib.hid hst
  obtain ⟨i0, hi0, hz0, hz1, hz2⟩ : ∃ i : TypeInfo, Tryz.prog.info? 44 = some i ∧ i.zero = some Sg.zero.v ∧ i.size = 5 ∧ i.bytes = 40 := by
    have h := Tryz.infoSg
    cases hi : Tryz.prog.info? 44 with
    | none => rw [hi] at h; cases h
    | some i => rw [hi] at h; simp at h; exact ⟨i, rfl, h.1, h.2.1, h.2.2⟩
  have HI0 := Lib.hid hi0; have HZ0 := Lib.hid hz0; have HZ1 := Lib.hid hz1; have HZ2 := Lib.hid hz2
  clear hi0 hz0 hz1 hz2
  have hi8 : (i : Int) < 8 := by omega
  have hl1 : ¬ sl < 1 := by omega
  have hl2 : ¬ 65536 < sl := by omega
  have HX1 : Hid (collQ x now).Ok := Lib.hid (coll_ok hx now)
  have HX := Lib.hid hx
  have HB := Lib.hid (Whole.new w 44 (sgB ⟨(i : Int), sf, sl, st, sa⟩))
  have hk0 : Keep (fun _ => False) w (w.alloc (.cells (sgB ⟨(i : Int), sf, sl, st, sa⟩) 44)) := (Keep.refl _ _).alloc _
  have HQ0 := Lib.hid (h.kept hk0); have HK0 : Hid (Keep (RQown g v n o) w (w.alloc (.cells (sgB ⟨(i : Int), sf, sl, st, sa⟩) 44))) := Lib.hid (hk0.mono (fun _ h => h.elim))
  have HOW := Lib.hid (show ∀ k, RQown g v n o k → k < w.heap.size from fun k e => h.lt e)
  obtain ⟨x1, hx1⟩ : ∃ x1, collQ x now = x1 := ⟨_, rfl⟩
  rw [hx1] at HX1
  have HXE := Lib.hid hx1
  clear h hx hn hf hst he hs hl hi hk0
  rw [hx1]
  clear hx1
  obtain ⟨FV, hFV⟩ : ∃ FV, fateQ x1 ⟨(i : Int), sf, sl, st, sa⟩ now = FV := ⟨_, rfl⟩
  obtain ⟨YY, hYY⟩ : ∃ YY, (if FV = 0 then takeQ x1 ⟨(i : Int), sf, sl, st, sa⟩ now else x1) = YY := ⟨_, rfl⟩
  rw [hFV, hYY]
  have HFQ := Lib.hid hFV; have HYY := Lib.hid hYY
  clear hFV hYY
  dsimp only [Sg.v]
  go_enter Tryz.func20, Tryz.ntmps20
  go_upto_region 1 with fail
  rw [show #[Value.int .i64 (i : Int), .int .u64 sf, .int .i64 sl, .int .u64 st, .bool sa] = sgB ⟨(i : Int), sf, sl, st, sa⟩ from rfl]
  generalize hBB : w.heap.size = B at *
  generalize World.alloc w _ = w0 at *
  have b0 : w0.cell? ⟨B, 0, none⟩ = some (.int .i64 (i : Int)) := HB.out.cell 0
  have b2 : w0.cell? ⟨B, 2, none⟩ = some (.int .i64 sl) := HB.out.cell 2
  go_wp2_with fail
  refine (HQ0.out.coll HX.out now HN.out).mono ?_
  rintro e w1 ⟨⟨ev, rfl⟩, cs1, v1, n1, o1, hq1, hk1, hn1⟩
  rw [HXE.out] at hq1
  have HBO : Hid (∀ k, RQown g v n o k → k < B) := Lib.hid HOW.out
  have HQ1 := Lib.hid hq1
  have HB1 := Lib.hid (HB.out.keep hk1 (fun e => by have := HOW.out B e; omega))
  have HK1 := Lib.hid (HK0.out.trans hk1)
  have HN1 : Hid (∀ k, RQown g v1 n1 o1 k → RQown g v n o k ∨ B < k) := Lib.hid (fun k e => by
    rcases hn1 k e with a | a
    · exact .inl a
    · have := HB.out.lt; exact .inr (by omega))
  clear hq1 hk1 hn1 b0 b2 HQ0 HB HK0 HOW
  go_upto_region 6 with fail
  have b0 : w1.cell? ⟨B, 0, none⟩ = some (.int .i64 (i : Int)) := HB1.out.cell 0
  refine wp_region_sch (fun W => W.cell? ⟨B, 0, none⟩ = some (.int .i64 (i : Int))) [(true, 0), (true, 1), (true, 2), (true, 3), (true, 4), (true, 5), (true, 6)] (by kernel_rfl) (by kernel_rfl) (by kernel_rfl) (by kernel_rfl) b0 ?_
  have HQ2 := Lib.hid (HQ1.out.kept (Keep.refl _ w1).drew); have HB2 := Lib.hid (HB1.out.keep (Keep.refl (fun _ => False) w1).drew id); have HK2 := Lib.hid HK1.out.drew
  clear HQ1 HB1 HK1
  generalize w1.drew = w2 at *
  clear b0
  (repeat (refine wpSch_yes (v := ?_) rfl (fun _ _ _ h => h) (by rfl) ?_ ?_; rotate_left; (next => (intro w hSw; (try dsimp only at hSw); (have hS1 := hSw); go_simp; (try with_reducible rfl))); (try simp only [Act.put, List.setIfInBounds_toArray, List.set_cons_zero, List.set_cons_succ])))
  refine wpSch_nil ?_
  have ch : w2.cell? ⟨g, 4, none⟩ = some (.int .u64 x1.c.h) := HQ2.out.cf (j := 4) (by decide)
  have hh1 := HX1.out.hc.hh
  go_wp2_with fail
  refine (radd_any now x1.c.h HN.out.1 HN.out.2 hh1.1 (by omega) w2).mono ?_
  rintro e we ⟨rfl, rfl⟩
  rw [show satAdd now x1.c.h = addS now x1.c.h from rfl]
  obtain ⟨far, hfar⟩ : ∃ far, addS now x1.c.h = far := ⟨_, rfl⟩
  rw [hfar]
  have HFAR := Lib.hid hfar
  clear ch hh1 hfar
  have cl : w2.cell? ⟨g, 2, none⟩ = some (.int .i64 x1.c.l) := HQ2.out.cf (j := 2) (by decide)
  go_upto_region 8 with fail
  refine wp_region_sch (fun W => W.cell? ⟨g, 2, none⟩ = some (.int .i64 x1.c.l)) [(true, 0), (true, 2), (true, 3), (true, 4), (true, 5), (true, 6), (false, 1), (true, 7), (true, 8)] (by kernel_rfl) (by kernel_rfl) (by kernel_rfl) (by kernel_rfl) cl ?_
  have HQ3 := Lib.hid (HQ2.out.kept (Keep.refl _ w2).drew); have HB3 := Lib.hid (HB2.out.keep (Keep.refl (fun _ => False) w2).drew id); have HK3 := Lib.hid HK2.out.drew
  clear HQ2 HB2 HK2
  generalize w2.drew = w3 at *
  clear cl
  (repeat (refine wpSch_yes (v := ?_) rfl (fun _ _ _ h => h) (by rfl) ?_ ?_; rotate_left; (next => (intro w hSw; (try dsimp only at hSw); (have hS1 := hSw); go_simp; (try with_reducible rfl))); (try simp only [Act.put, List.setIfInBounds_toArray, List.set_cons_zero, List.set_cons_succ])))
  refine wpSch_call rfl (by rfl) (fun K' hK' => ?_); go_simp
  refine (HQ3.out.len HX1.out.len).mono ?_
  rintro e we ⟨rfl, rfl⟩
  refine hK'.out _ _ (HQ3.out.cf (j := 2) (by decide)) (fun hHeld => ?_)
  clear hK' K' hHeld
  (try simp only [Act.put, List.setIfInBounds_toArray, List.set_cons_zero, List.set_cons_succ])
  (repeat (refine wpSch_yes (v := ?_) rfl (fun _ _ _ h => h) (by rfl) ?_ ?_; rotate_left; (next => (intro w hSw; (try dsimp only at hSw); (have hS1 := hSw); go_simp; (try with_reducible rfl))); (try simp only [Act.put, List.setIfInBounds_toArray, List.set_cons_zero, List.set_cons_succ])))
  refine wpSch_nil ?_
  by_cases g1 : x1.c.l ≤ (lenQ x1 : Int)
  · have hfate : fateQ x1 ⟨(i : Int), sf, sl, st, sa⟩ now = 2 := if_pos g1
    have HT : Hid (RQto w g v n o x1 w3) := Lib.hid ⟨cs1, v1, n1, o1, HQ3.out, HK3.out, fun k e => (HN1.out k e).imp id (fun h => by omega)⟩
    rw [HFQ.out] at hfate
    have HFT : Hid (x1 = YY) := Lib.hid (by rw [← HYY.out, hfate]; exact (if_neg (by decide)).symm)
    have HFV := Lib.hid hfate
    clear hfate HQ3 HB3 HK3
    go_wp2
    go_ret2
    exact ⟨by rw [HFV.out]; rfl, by rw [← HFT.out]; exact HT.out⟩
  · obtain ⟨va, vc, hva⟩ := HQ3.out.shape HI.out
    have cv : w3.cell? ⟨g, 9 + i * 6 + 5, none⟩ = some (.slice va (x1.F i).q.length vc) := (HQ3.out.cF HI.out (j := 5) (by decide)).trans (congrArg some hva)
    have cw : w3.cell? ⟨g, 3, none⟩ = some (.int .i64 x1.c.w) := HQ3.out.cf (j := 3) (by decide)
    have HVA := Lib.hid hva
    have HG1 := Lib.hid g1
    have HLN : Hid ((x1.F i).q.length ≤ 512) := Lib.hid (Nat.le_trans (lenQ_le (x := x1) HI.out) HX1.out.len)
    obtain ⟨LL, hLL⟩ : ∃ LL, (x1.F i).q.length = LL := ⟨_, rfl⟩
    rw [hLL] at cv HVA HLN
    have HLL := Lib.hid hLL
    clear hva hLL
    go_upto_region 10 with fail
    refine wp_region_sch (fun W => W.cell? ⟨g, 9 + i * 6 + 5, none⟩ = some (.slice va LL vc) ∧ W.cell? ⟨g, 3, none⟩ = some (.int .i64 x1.c.w)) [(true, 0), (true, 1), (true, 2), (true, 3), (true, 4), (true, 5), (true, 6), (true, 7), (true, 8), (true, 9), (true, 10), (true, 11)] (by kernel_rfl) (by kernel_rfl) (by kernel_rfl) (by kernel_rfl) ⟨cv, cw⟩ ?_
    have HQ4 := Lib.hid (HQ3.out.kept (Keep.refl _ w3).drew); have HB4 := Lib.hid (HB3.out.keep (Keep.refl (fun _ => False) w3).drew id); have HK4 := Lib.hid HK3.out.drew
    clear HQ3 HB3 HK3
    generalize w3.drew = w4 at *
    clear cv cw g1
    (repeat (refine wpSch_yes (v := ?_) rfl (fun _ _ _ h => h) (by rfl) ?_ ?_; rotate_left; (next => (intro w hSw; (try dsimp only at hSw); obtain ⟨hS1, hS2⟩ := hSw; go_simp; (try with_reducible rfl))); (try simp only [Act.put, List.setIfInBounds_toArray, List.set_cons_zero, List.set_cons_succ])))
    refine wpSch_nil ?_
    by_cases g2 : x1.c.w ≤ (LL : Int)
    · have hfate : fateQ x1 ⟨(i : Int), sf, sl, st, sa⟩ now = 3 := by
        unfold fateQ
        dsimp only
        rw [if_neg HG1.out, show ((i : Int)).toNat = i from rfl, HLL.out, if_pos g2]
      have HT : Hid (RQto w g v n o x1 w4) := Lib.hid ⟨cs1, v1, n1, o1, HQ4.out, HK4.out, fun k e => (HN1.out k e).imp id (fun h => by omega)⟩
      rw [HFQ.out] at hfate
      have HFT : Hid (x1 = YY) := Lib.hid (by rw [← HYY.out, hfate]; exact (if_neg (by decide)).symm)
      have HFV := Lib.hid hfate
      clear hfate HQ4 HB4 HK4
      go_wp2
      go_ret2
      exact ⟨by rw [HFV.out]; rfl, by rw [← HFT.out]; exact HT.out⟩
    · have HG2 := Lib.hid g2
      have b3 : w4.cell? ⟨B, 3, none⟩ = some (.int .u64 st) := HB4.out.cell 3
      have cd : w4.cell? ⟨g, 6, none⟩ = some (.bool x1.c.d) := HQ4.out.cf (j := 6) (by decide)
      by_cases g3 : far < st ∧ x1.c.d = true
      · have hfate : fateQ x1 ⟨(i : Int), sf, sl, st, sa⟩ now = 4 := by
          unfold fateQ
          dsimp only
          rw [if_neg HG1.out, show ((i : Int)).toNat = i from rfl, HLL.out, if_neg g2, HFAR.out, if_pos g3]
        have HT : Hid (RQto w g v n o x1 w4) := Lib.hid ⟨cs1, v1, n1, o1, HQ4.out, HK4.out, fun k e => (HN1.out k e).imp id (fun h => by omega)⟩
        rw [HFQ.out] at hfate
        have HFT : Hid (x1 = YY) := Lib.hid (by rw [← HYY.out, hfate]; exact (if_neg (by decide)).symm)
        have HFV := Lib.hid hfate
        obtain ⟨g3a, g3b⟩ := g3
        rw [g3b] at cd
        clear hfate HQ4 HB4 HK4
        go_wp2
        go_ret2
        exact ⟨by rw [HFV.out]; rfl, by rw [← HFT.out]; exact HT.out⟩
      · have hfate : fateQ x1 ⟨(i : Int), sf, sl, st, sa⟩ now = 0 := by
          unfold fateQ
          dsimp only
          rw [if_neg HG1.out, show ((i : Int)).toNat = i from rfl, HLL.out, if_neg g2, HFAR.out, if_neg g3]
        rw [HFQ.out] at hfate
        have HFT : Hid (takeQ x1 ⟨(i : Int), sf, sl, st, sa⟩ now = YY) := Lib.hid (by rw [← HYY.out, hfate]; exact (if_pos rfl).symm)
        have HFV := Lib.hid hfate
        have g4 : ¬ far < st ∨ (far < st ∧ x1.c.d = false) := by
          by_cases h : far < st
          · exact .inr ⟨h, by cases hd : x1.c.d with | false => rfl | true => exact absurd ⟨h, hd⟩ g3⟩
          · exact .inl h
        clear hfate g3
        obtain ⟨T5, hT5⟩ : ∃ T5, min st far = T5 := ⟨_, rfl⟩
        have HSEG : Hid (segF x1 ⟨(i : Int), sf, sl, st, sa⟩ now = ⟨(i : Int), sf, sl, T5, sa⟩) := Lib.hid (by unfold segF; dsimp only; rw [HFAR.out, hT5])
        have HBN : Hid (¬ RQown g v1 n1 o1 B) := Lib.hid (fun e => by rcases HN1.out B e with a | a; have := HBO.out B a; omega; omega)
        have HBG : Hid (B ≠ g) := Lib.hid (fun e => HBN.out (.inl e))
        have f3 : w4.frozen? ⟨B, 3, none⟩ = false := HB4.out.free 3
        have HB5 := Lib.hid (show Whole (w4.setCell ⟨B, 3, none⟩ (.int .u64 T5)) B 44 (sgB ⟨(i : Int), sf, sl, T5, sa⟩) from HB4.out.put 3 (.int .u64 T5))
        have HQ5 := Lib.hid (HQ4.out.keep ((Keep.refl (fun k => k = B) w4).setCell (p := ⟨B, 3, none⟩) (.inl rfl) (.int .u64 T5)) (fun k e a => HBN.out (e ▸ a)))
        have HK5 := Lib.hid (HK4.out.setCell (p := ⟨B, 3, none⟩) (.inr (by rw [hBB]; exact Nat.le_refl _)) (.int .u64 T5))
        clear HQ4 HB4 HK4 g2
        go_upto_region 12 with fail
        go_cut [63] (fun sc wx => sc = .bool false ∧ wx = w4)
        case first =>
          rcases g4 with g4 | ⟨g4, g5⟩
          · go_wp2
            go_meet
            exact ⟨rfl, rfl⟩
          · rw [g5] at cd
            go_wp2
            go_meet
            exact ⟨rfl, rfl⟩
        case rest =>
        obtain ⟨rfl, hw⟩ := hcut
        obtain rfl := hw.symm
        go_upto_region 14 with fail
        go_cut [8] (fun s8 wx => s8 = .pointer (some ⟨g, 9 + i * 6, none⟩) ∧ wx = w4.setCell ⟨B, 3, none⟩ (.int .u64 T5))
        case first =>
          rcases g4 with g4 | ⟨g4, g5⟩
          · have HTE : Hid (st = T5) := Lib.hid (by omega)
            go_wp2
            go_meet
            exact ⟨rfl, by rw [HTE.out]⟩
          · have HTE : Hid (far = T5) := Lib.hid (by omega)
            go_wp2
            go_meet
            exact ⟨rfl, by rw [HTE.out]⟩
        case rest =>
        obtain ⟨rfl, hw⟩ := hcut
        rw [hw]
        clear hw b3 f3 cd g4 hT5
        go_upto_region 15 with fail
        generalize World.setCell w4 _ _ = w5 at *
        have b0 : w5.cell? ⟨B, 0, none⟩ = some (.int .i64 (i : Int)) := HB5.out.cell 0
        have ct := HQ5.out.cT HI.out
        refine wp_region_sch (fun W => W.cell? ⟨B, 0, none⟩ = some (.int .i64 (i : Int)) ∧ W.cell? ⟨g, 57 + i, none⟩ = some (.bool (x1.T i))) [(true, 0), (true, 1), (true, 2), (true, 3), (true, 4), (true, 5), (true, 6), (true, 7)] (by kernel_rfl) (by kernel_rfl) (by kernel_rfl) (by kernel_rfl) ⟨b0, ct⟩ ?_
        have HQ5a := Lib.hid (HQ5.out.kept (Keep.refl _ w5).drew); have HB5a := Lib.hid (HB5.out.keep (Keep.refl (fun _ => False) w5).drew id); have HK5a := Lib.hid HK5.out.drew
        clear b0 ct HQ5 HB5 HK5
        generalize w5.drew = w5a at *
        (repeat (refine wpSch_yes (v := ?_) rfl (fun _ _ _ h => h) (by rfl) ?_ ?_; rotate_left; (next => (intro w hSw; (try dsimp only at hSw); obtain ⟨hS1, hS2⟩ := hSw; go_simp; (try with_reducible rfl))); (try simp only [Act.put, List.setIfInBounds_toArray, List.set_cons_zero, List.set_cons_succ])))
        refine wpSch_nil ?_
        go_upto_if 87 with fail
        go_cut [8] (fun s8 wx => s8 = .pointer (some ⟨g, 9 + i * 6, none⟩) ∧ ∃ (P : Fl) (x3 : Qm) (cs6 : Array Value) (v6 : Nat → Value), RQ wx g cs6 v6 n1 o1 x3 ∧ Whole wx B 44 (sgB ⟨(i : Int), sf, sl, T5, sa⟩) ∧ Keep (RQown g v n o) w wx ∧ x3 = { x1 with F := upF x1.F i P, T := upF x1.T i true } ∧ P = preF x1 ⟨(i : Int), sf, sl, st, sa⟩ now ∧ P.q.length ≤ 512 ∧ ∀ k, RQown g v6 n1 o1 k → RQown g v n o k ∨ B < k)
        case first =>
          cases ht : x1.T i with
          | false =>
            have HPRE : Hid (preF x1 ⟨(i : Int), sf, sl, st, sa⟩ now = { Fl.zero with s := (i : Int), c := x1.c.f }) := Lib.hid (by unfold preF; dsimp only; rw [show ((i : Int)).toNat = i from rfl, ht]; rfl)
            have HTF := Lib.hid ht
            clear ht
            go_upto_region 16 with fail
            refine wp_region_sch (fun W => W.cell? ⟨B, 0, none⟩ = some (.int .i64 (i : Int))) [(true, 0), (true, 1), (true, 2), (true, 3), (true, 4), (true, 5), (false, 6)] (by kernel_rfl) (by kernel_rfl) (by kernel_rfl) (by kernel_rfl) (HB5a.out.cell 0) ?_
            have HQ5b := Lib.hid (HQ5a.out.kept (Keep.refl _ w5a).drew); have HB5b := Lib.hid (HB5a.out.keep (Keep.refl (fun _ => False) w5a).drew id); have HK5b := Lib.hid HK5a.out.drew
            clear HQ5a HB5a HK5a
            generalize w5a.drew = w5b at *
            (repeat (refine wpSch_yes (v := ?_) rfl (fun _ _ _ h => h) (by rfl) ?_ ?_; rotate_left; (next => (intro w hSw; (try dsimp only at hSw); (have hS1 := hSw); go_simp; (try with_reducible rfl))); (try simp only [Act.put, List.setIfInBounds_toArray, List.set_cons_zero, List.set_cons_succ])))
            have ct := HQ5b.out.cT HI.out
            have cf := HQ5b.out.fr (57 + i)
            have HQ5c := Lib.hid (HQ5b.out.setT HI.out true rfl)
            have HB5c := Lib.hid (HB5b.out.far (p := ⟨g, 57 + i, none⟩) (fun e => HBG.out e) (.bool true))
            have HK5c := Lib.hid (HK5b.out.setCell (p := ⟨g, 57 + i, none⟩) (.inl (.inl rfl)) (.bool true))
            clear HQ5b HB5b HK5b
            refine wpSch_call rfl (by rfl) (fun K' hK' => ?_); go_simp
            refine hK'.out _ _ (HB5c.out.cell 0) (fun hHeld => ?_)
            clear hK' K' hHeld ct cf
            generalize World.setCell w5b _ _ = w5c at *
            (try simp only [Act.put, List.setIfInBounds_toArray, List.set_cons_zero, List.set_cons_succ])
            refine wpSch_nil ?_
            have cq : w5c.cell? ⟨g, 1, none⟩ = some (.int .i64 x1.c.f) := HQ5c.out.cf (j := 1) (by decide)
            go_upto_region 17 with fail
            refine wp_region_sch (fun W => W.cell? ⟨B, 0, none⟩ = some (.int .i64 (i : Int)) ∧ W.cell? ⟨g, 1, none⟩ = some (.int .i64 x1.c.f)) [(true, 0), (true, 1), (true, 2), (true, 3), (true, 4), (true, 5), (true, 6), (true, 7), (true, 8), (true, 9), (false, 10)] (by kernel_rfl) (by kernel_rfl) (by kernel_rfl) (by kernel_rfl) ⟨HB5c.out.cell 0, cq⟩ ?_
            have HQ5d := Lib.hid (HQ5c.out.kept (Keep.refl _ w5c).drew); have HB5d := Lib.hid (HB5c.out.keep (Keep.refl (fun _ => False) w5c).drew id); have HK5d := Lib.hid HK5c.out.drew
            clear cq HQ5c HB5c HK5c
            generalize w5c.drew = w5d at *
            (repeat (refine wpSch_yes (v := ?_) rfl (fun _ _ _ h => h) (by rfl) ?_ ?_; rotate_left; (next => (intro w hSw; (try dsimp only at hSw); obtain ⟨hS1, hS2⟩ := hSw; go_simp; (try with_reducible rfl))); (try simp only [Act.put, List.setIfInBounds_toArray, List.set_cons_zero, List.set_cons_succ])))
            obtain ⟨P, hP⟩ : ∃ P : Fl, P = { Fl.zero with s := (i : Int), c := x1.c.f } := ⟨_, rfl⟩
            have HTH := Lib.hid (thereF HQ5d.out HI.out)
            obtain ⟨x3, hx3⟩ : ∃ x3, x3 = { x1 with F := upF x1.F i P, T := upF x1.T i true } := ⟨_, rfl⟩
            have hq6 := HQ5d.out.blank HI.out (f := P) (y := x3) (by rw [hP]; rfl) hx3
            have hb6 := HB5d.out.keep (Keep.setCells (S := fun j => j = g) rfl (flL nilV P) (9 + i * 6) (Keep.refl _ w5d)) (fun e => HBG.out e)
            have hk6 := Keep.setCells (S := RQown g v n o) (.inl rfl) (flL nilV P) (9 + i * 6) HK5d.out
            rw [hP] at hq6 hb6 hk6
            have HQ6 := Lib.hid hq6; have HB6 := Lib.hid hb6; have HK6 := Lib.hid hk6
            have HX3 := Lib.hid hx3
            have HPE : Hid (P = preF x1 ⟨(i : Int), sf, sl, st, sa⟩ now) := Lib.hid (by rw [HPRE.out]; exact hP)
            have HPQ : Hid (P.q.length ≤ 512) := Lib.hid (by rw [hP]; exact Nat.zero_le _)
            have HPZ := Lib.hid hP
            clear hP hx3 hq6 hb6 hk6 HQ5d HB5d HK5d HPRE
            refine wpSch_call rfl (by rfl) (fun K' hK' => ?_)
            refine wp_store_mid 34 (.tmp 103) (.tmp 102) rfl g (9 + i * 6) (flL nilV { Fl.zero with s := (i : Int), c := x1.c.f }).toArray rfl rfl HTH.out Tryz.sizeFl (one_fl _) ?_
            rw [show (flL nilV { Fl.zero with s := (i : Int), c := x1.c.f }).toArray.toList = flL nilV { Fl.zero with s := (i : Int), c := x1.c.f } from rfl]
            refine hK'.out _ _ ⟨HB6.out.cell 0, HQ6.out.cf (j := 1) (by decide) |>.trans (by rw [HX3.out]; rfl)⟩ (fun hHeld => ?_)
            clear hK' K' hHeld HTH
            (try simp only [Act.put, List.setIfInBounds_toArray, List.set_cons_zero, List.set_cons_succ])
            generalize World.setCells _ _ _ _ = w6 at *
            refine wpSch_nil ?_
            have HN6 : Hid (∀ k, RQown g (upF v1 i nilV) n1 o1 k → RQown g v n o k ∨ B < k) := Lib.hid (fun k e => HN1.out k (own_blank e))
            generalize upF v1 i nilV = v6 at *
            generalize Lib.lay _ _ _ = cs6 at *
            first | go_meet | (go_wp2; go_meet)
            exact ⟨rfl, P, x3, _, _, HQ6.out, HB6.out, HK6.out, HX3.out, HPE.out, HPQ.out, HN6.out⟩
          | true =>
            have HU : Hid (U64 (x1.F i).u) := Lib.hid (HX1.out.is i HI.out ht).hu
            have HTT : Hid (upF x1.T i true = x1.T) := Lib.hid (funext fun j => by
              by_cases e : j = i
              · subst e; rw [upF_at, ht]
              · rw [upF_ne _ _ e])
            have HLE : Hid ((x1.F i).q.length ≤ 512) := Lib.hid (Nat.le_trans (lenQ_le (x := x1) HI.out) HX1.out.len)
            have hpre : preF x1 ⟨(i : Int), sf, sl, st, sa⟩ now = if (x1.F i).p = 0 ∧ addS (x1.F i).u 40000000 ≤ now then { x1.F i with c := max (x1.F i).c x1.c.q } else x1.F i := by
              unfold preF; dsimp only; rw [show ((i : Int)).toNat = i from rfl, if_pos ht]
            have c2 : w5a.cell? ⟨g, 9 + i * 6 + 2, none⟩ = some (.int .i64 (x1.F i).p) := HQ5a.out.cF HI.out (j := 2) (by decide)
            have c4 : w5a.cell? ⟨g, 9 + i * 6 + 4, none⟩ = some (.int .u64 (x1.F i).u) := HQ5a.out.cF HI.out (j := 4) (by decide)
            clear ht
            have hcase : ((x1.F i).p == 0) = false ∨ (((x1.F i).p == 0) = true ∧ ¬ addS (x1.F i).u 40000000 ≤ now) ∨ (((x1.F i).p == 0) = true ∧ addS (x1.F i).u 40000000 ≤ now) := by
              cases ((x1.F i).p == 0) with
              | false => exact .inl rfl
              | true =>
                by_cases h : addS (x1.F i).u 40000000 ≤ now
                · exact .inr (.inr ⟨rfl, h⟩)
                · exact .inr (.inl ⟨rfl, h⟩)
            rcases hcase with hp | ⟨hp, hu⟩ | ⟨hp, hu⟩
            · have HPE0 : Hid (x1.F i = preF x1 ⟨(i : Int), sf, sl, st, sa⟩ now) := Lib.hid (by rw [hpre, if_neg (fun e => by have h := e.1; rw [beq_eq_false_iff_ne] at hp; exact hp h)])
              clear hpre
              go_wp2
              clear hp c2 c4
              obtain ⟨P, hP⟩ : ∃ P : Fl, x1.F i = P := ⟨_, rfl⟩
              have HPE : Hid (P = preF x1 ⟨(i : Int), sf, sl, st, sa⟩ now) := Lib.hid (hP.symm.trans HPE0.out)
              have HPQ : Hid (P.q.length ≤ 512) := Lib.hid (by rw [← hP]; exact HLE.out)
              obtain ⟨x3, hx3⟩ : ∃ x3, x3 = { x1 with F := upF x1.F i P, T := upF x1.T i true } := ⟨_, rfl⟩
              have HX3 := Lib.hid hx3
              have HQ6 := Lib.hid (HQ5a.out.seen (y := x3) (by rw [hx3]) (fun j _ => by
                rw [hx3]; dsimp only
                by_cases e : j = i
                · subst e; rw [upF_at, hP]
                · rw [upF_ne _ _ e]) (fun j _ => by rw [hx3]; dsimp only; rw [HTT.out]) (by rw [hx3]) (by rw [hx3]))
              have HB6 := Lib.hid HB5a.out; have HK6 := Lib.hid HK5a.out; have HN6 := Lib.hid HN1.out
              clear hx3 hP HQ5a HB5a HK5a HPE0
              generalize w5a = w6 at *
              generalize v1 = v6 at *
              generalize cs1 = cs6 at *
              first | go_meet | (go_wp2; go_meet)
              exact ⟨rfl, P, x3, _, _, HQ6.out, HB6.out, HK6.out, HX3.out, HPE.out, HPQ.out, HN6.out⟩
            · have HPE0 : Hid (x1.F i = preF x1 ⟨(i : Int), sf, sl, st, sa⟩ now) := Lib.hid (by rw [hpre, if_neg (fun e => hu e.2)])
              clear hpre
              go_wp2_with fail
              refine (radd_any (x1.F i).u 40000000 HU.out.1 HU.out.2 (by decide) (by decide) w5a).mono ?_
              rintro e we ⟨rfl, rfl⟩
              rw [show satAdd (x1.F i).u 40000000 = addS (x1.F i).u 40000000 from rfl]
              obtain ⟨zz, hzz⟩ : ∃ zz, addS (x1.F i).u 40000000 = zz := ⟨_, rfl⟩
              rw [hzz] at hu
              rw [hzz]
              go_wp2
              clear hp hu hzz c2 c4
              obtain ⟨P, hP⟩ : ∃ P : Fl, x1.F i = P := ⟨_, rfl⟩
              have HPE : Hid (P = preF x1 ⟨(i : Int), sf, sl, st, sa⟩ now) := Lib.hid (hP.symm.trans HPE0.out)
              have HPQ : Hid (P.q.length ≤ 512) := Lib.hid (by rw [← hP]; exact HLE.out)
              obtain ⟨x3, hx3⟩ : ∃ x3, x3 = { x1 with F := upF x1.F i P, T := upF x1.T i true } := ⟨_, rfl⟩
              have HX3 := Lib.hid hx3
              have HQ6 := Lib.hid (HQ5a.out.seen (y := x3) (by rw [hx3]) (fun j _ => by
                rw [hx3]; dsimp only
                by_cases e : j = i
                · subst e; rw [upF_at, hP]
                · rw [upF_ne _ _ e]) (fun j _ => by rw [hx3]; dsimp only; rw [HTT.out]) (by rw [hx3]) (by rw [hx3]))
              have HB6 := Lib.hid HB5a.out; have HK6 := Lib.hid HK5a.out; have HN6 := Lib.hid HN1.out
              clear hx3 hP HQ5a HB5a HK5a HPE0
              generalize w5a = w6 at *
              generalize v1 = v6 at *
              generalize cs1 = cs6 at *
              first | go_meet | (go_wp2; go_meet)
              exact ⟨rfl, P, x3, _, _, HQ6.out, HB6.out, HK6.out, HX3.out, HPE.out, HPQ.out, HN6.out⟩
            · obtain ⟨P, hP⟩ : ∃ P : Fl, P = { x1.F i with c := max (x1.F i).c x1.c.q } := ⟨_, rfl⟩
              have HPE : Hid (P = preF x1 ⟨(i : Int), sf, sl, st, sa⟩ now) := Lib.hid (by rw [hpre, if_pos ⟨by simpa using hp, hu⟩]; exact hP)
              have HPQ : Hid (P.q.length ≤ 512) := Lib.hid (by rw [hP]; exact HLE.out)
              clear hpre
              go_wp2_with fail
              refine (radd_any (x1.F i).u 40000000 HU.out.1 HU.out.2 (by decide) (by decide) w5a).mono ?_
              rintro e we ⟨rfl, rfl⟩
              rw [show satAdd (x1.F i).u 40000000 = addS (x1.F i).u 40000000 from rfl]
              obtain ⟨zz, hzz⟩ : ∃ zz, addS (x1.F i).u 40000000 = zz := ⟨_, rfl⟩
              rw [hzz] at hu
              rw [hzz]
              go_upto_region 19 with fail
              clear hp hu hzz c2 c4
              have c1 : w5a.cell? ⟨g, 9 + i * 6 + 1, none⟩ = some (.int .i64 (x1.F i).c) := HQ5a.out.cF HI.out (j := 1) (by decide)
              have cq : w5a.cell? ⟨g, 0, none⟩ = some (.int .i64 x1.c.q) := HQ5a.out.cf (j := 0) (by decide)
              refine wp_region_late (fun W => W.cell? ⟨g, 9 + i * 6 + 1, none⟩ = some (.int .i64 (x1.F i).c) ∧ W.cell? ⟨g, 0, none⟩ = some (.int .i64 x1.c.q)) [13] (.yes 0 (.yes 1 (.yes 2 (.yes 3 (.yes 4 (.yes 5 (.yes 6 (.yes 7 (.yes 8 (.yes 9 (.yes 10 (.yes 11 (.yes 12 (.one 13 .nil)))))))))))))) (by kernel_rfl) (by kernel_rfl) (by kernel_rfl) (by kernel_rfl) ⟨c1, cq⟩ ?_
              have HQ5b := Lib.hid (HQ5a.out.kept (Keep.refl _ w5a).drew); have HB5b := Lib.hid (HB5a.out.keep (Keep.refl (fun _ => False) w5a).drew id); have HK5b := Lib.hid HK5a.out.drew
              clear c1 cq HQ5a HB5a HK5a
              generalize w5a.drew = w5b at *
              (repeat (refine wpSchL_yes (v := ?_) rfl (fun _ _ _ h => h) (by rfl) ?_ ?_; rotate_left; (next => (intro w hSw; (try dsimp only at hSw); obtain ⟨hS0, hS1⟩ := hSw; go_simp; (try with_reducible rfl))); (try simp only [Act.put, List.setIfInBounds_toArray, List.set_cons_zero, List.set_cons_succ])))
              rw [show (if (x1.F i).c < x1.c.q then x1.c.q else (x1.F i).c) = P.c by rw [hP]; dsimp only; split <;> omega]
              obtain ⟨x3, hx3⟩ : ∃ x3, x3 = { x1 with F := upF x1.F i P, T := upF x1.T i true } := ⟨_, rfl⟩
              have HX3 := Lib.hid hx3
              have c1 : w5b.cell? ⟨g, 9 + i * 6 + 1, none⟩ = some (.int .i64 (x1.F i).c) := HQ5b.out.cF HI.out (j := 1) (by decide)
              have f1 := HQ5b.out.fr (9 + i * 6 + 1)
              have HQ6 := Lib.hid ((HQ5b.out.setf HI.out (k := 1) (by decide) (u := .int .i64 P.c) (f := P) rfl (fun j hj hne => by
                match j, hj with
                | 0, _ => rw [hP]; rfl
                | 1, _ => exact absurd rfl hne
                | 2, _ => rw [hP]; rfl
                | 3, _ => rw [hP]; rfl
                | 4, _ => rw [hP]; rfl
                | 5, _ => rfl) (by rw [hP]) rfl).seen (y := x3) (by rw [hx3]) (fun _ _ => by rw [hx3]) (fun _ _ => by rw [hx3]; dsimp only; rw [HTT.out]) (by rw [hx3]) (by rw [hx3]))
              have HB6 := Lib.hid (HB5b.out.far (p := ⟨g, 9 + i * 6 + 1, none⟩) (fun e => HBG.out e) (.int .i64 P.c))
              have HK6 := Lib.hid (HK5b.out.setCell (p := ⟨g, 9 + i * 6 + 1, none⟩) (.inl (.inl rfl)) (.int .i64 P.c))
              clear hx3 hP HQ5b HB5b HK5b
              refine wpSchL_one (wpOneL_call rfl (by rfl) (fun K hK => ?_))
              go_simp
              refine hK.out _ _ (fun h => absurd h (by decide)) (fun hHeld => ?_)
              clear hK K hHeld c1 f1
              generalize World.setCell w5b _ _ = w6 at *
              (try simp only [Act.put, List.setIfInBounds_toArray, List.set_cons_zero, List.set_cons_succ])
              refine wpSchL_nil ?_
              have HN6 := Lib.hid HN1.out
              generalize v1 = v6 at *
              generalize Array.setIfInBounds cs1 _ _ = cs6 at *
              first | go_meet | (go_wp2; go_meet)
              exact ⟨rfl, P, x3, _, _, HQ6.out, HB6.out, HK6.out, HX3.out, HPE.out, HPQ.out, HN6.out⟩
        case rest =>
        obtain ⟨rfl, P, x3, cs6, v6, h1, h2, h3, h4, h5, h6, h7⟩ := hcut
        have HQ6 := Lib.hid h1; have HB6 := Lib.hid h2; have HK6 := Lib.hid h3; have HX3 := Lib.hid h4; have HPE := Lib.hid h5; have HPQ := Lib.hid h6; have HN6 := Lib.hid h7
        clear h1 h2 h3 h4 h5 h6 h7 HQ5a HB5a HK5a
        generalize wc = w6 at *
        have hF3 : x3.F i = P := by rw [HX3.out]; exact upF_at _ _ _
        obtain ⟨pa, pc, hpv⟩ := HQ6.out.shape HI.out
        obtain ⟨PL, hPL⟩ : ∃ PL, P.q.length = PL := ⟨_, rfl⟩
        rw [hF3, hPL] at hpv
        have HPV := Lib.hid hpv; have HPL := Lib.hid hPL
        have HPM : Hid (PL ≤ 512) := Lib.hid (by rw [← hPL]; exact HPQ.out)
        have HNW := fun {W : World} (h : Hid (RQ W g cs6 v6 n1 o1 x3)) => sgs_news (show (sgsT 44 (.slice pa PL pc) P.q).at_ W from by have := h.out.q i HI.out; rwa [hF3, HPV.out] at this)
        have cv : w6.cell? ⟨g, 9 + i * 6 + 5, none⟩ = some (.slice pa PL pc) := (HQ6.out.cF HI.out (j := 5) (by decide)).trans (congrArg some hpv)
        go_upto_region 20 with fail
        refine wp_region_late (fun W => W.cell? ⟨g, 9 + i * 6 + 5, none⟩ = some (.slice pa PL pc) ∧ W.cell? ⟨B, 0, none⟩ = some (.int .i64 (i : Int)) ∧ W.cell? ⟨B, 1, none⟩ = some (.int .u64 sf) ∧ W.cell? ⟨B, 2, none⟩ = some (.int .i64 sl) ∧ W.cell? ⟨B, 3, none⟩ = some (.int .u64 T5) ∧ W.cell? ⟨B, 4, none⟩ = some (.bool sa)) [11] (.yes 0 (.yes 1 (.yes 2 (.yes 3 (.yes 4 (.yes 6 (.two 5 (.one 7 (.one 8 (.yes 9 (.yes 10 (.one 11 .nil))))) 7 (.one 5 (.one 8 (.yes 9 (.yes 10 (.one 11 .nil)))))))))))) (by kernel_rfl) (by kernel_rfl) (by kernel_rfl) (by kernel_rfl) ⟨cv, HB6.out.cell 0, HB6.out.cell 1, HB6.out.cell 2, HB6.out.cell 3, HB6.out.cell 4⟩ ?_
        clear cv hpv hPL hF3
        have HQ7 := Lib.hid (HQ6.out.kept (Keep.refl _ w6).drew); have HB7 := Lib.hid (HB6.out.keep (Keep.refl (fun _ => False) w6).drew id); have HK7 := Lib.hid (Keep.refl (fun _ => False) w6).drew; have HS7 : Hid (w6.heap.size ≤ w6.drew.heap.size) := Lib.hid (Nat.le_refl _)
        generalize w6.drew = w7 at *
        (repeat (refine wpSchL_yes (v := ?_) rfl (fun _ _ _ h => h) (by rfl) ?_ ?_; rotate_left; (next => (intro w hSw; (try dsimp only at hSw); obtain ⟨hS0, hS1, hS2, hS3, hS4, hS5⟩ := hSw; go_simp; (try with_reducible rfl))); (try simp only [Act.put, List.setIfInBounds_toArray, List.set_cons_zero, List.set_cons_succ])))
        refine wpSchL_two (wpOneL_call rfl (by rfl) (fun K hK => ?_)) (wpOneL_call rfl (by rfl) (fun K hK => ?_))
        · refine oper_append_rows (.const (.slice none 0 0)) (.tmp 135) 32 rfl 44 i0 Sg.zero.v 5 40 Tryz.underlying32 HI0.out HZ0.out HZ1.out HZ2.out rfl (by decide) (.slice none 0 0) 0 [] rfl (World.ownsRow_nil _ _ _ _) pa PL pc (flatG P.q) rfl (by rw [flatG_len, HPL.out]) (HNW HQ7).1 (HNW HQ7).2 (one_flat P.q) (by unfold maxLen; have := HPM.out; omega) (by have := HPM.out; omega) ?_
          intro v' w8 hown hk hn
          rw [List.nil_append, Nat.zero_add] at hown
          have hk' : Keep (fun _ => False) w7 w8 := hk.mono (fun j e => by cases e)
          have HROW8 := Lib.hid hown
          have HV8 : Hid (∀ j, v'.ownBlock = some j → w6.heap.size ≤ j) := Lib.hid (fun j e => by have hs := HS7.out; rcases hn j e with h | h; cases h; omega)
          have HQ8 := Lib.hid (HQ7.out.kept hk'); have HB8 := Lib.hid (HB7.out.keep hk' id); have HK8 := Lib.hid (HK7.out.trans hk'); have HS8 : Hid (w6.heap.size ≤ w8.heap.size) := Lib.hid (Nat.le_trans HS7.out hk'.size)
          clear hown hk hn hk'
          refine hK.out _ _ (fun _ => ⟨((HQ8.out.cF HI.out (j := 5) (by decide)).trans (congrArg some HPV.out)), HB8.out.cell 0, HB8.out.cell 1, HB8.out.cell 2, HB8.out.cell 3, HB8.out.cell 4⟩) (fun hHeld => ?_)
          clear hK K hHeld
          (try simp only [Act.put, List.setIfInBounds_toArray, List.set_cons_zero, List.set_cons_succ])
          refine wpSchL_one (wpOneL_call rfl (by rfl) (fun K hK => ?_))
          go_simp
          rw [show #[Value.int .i64 (i : Int), .int .u64 sf, .int .i64 sl, .int .u64 T5, .bool sa] = sgB ⟨(i : Int), sf, sl, T5, sa⟩ from rfl]
          have kz : Keep (fun _ => False) w8 (w8.alloc (.cells (sgB ⟨(i : Int), sf, sl, T5, sa⟩) 44)) := (Keep.refl _ _).alloc _
          have HNB9 := Lib.hid (Whole.new w8 44 (sgB ⟨(i : Int), sf, sl, T5, sa⟩))
          have HROW9 := Lib.hid (World.ownsRow.alloc HROW8.out (.cells (sgB ⟨(i : Int), sf, sl, T5, sa⟩) 44)); have HV9 := Lib.hid HV8.out
          have HQ9 := Lib.hid (HQ8.out.kept kz); have HB9 := Lib.hid (HB8.out.keep kz id); have HK9 := Lib.hid (HK8.out.trans kz); have HS9 : Hid (w6.heap.size ≤ (w8.alloc (.cells (sgB ⟨(i : Int), sf, sl, T5, sa⟩) 44)).heap.size) := Lib.hid (Nat.le_trans HS8.out kz.size)
          clear kz
          refine hK.out _ _ (fun _ => ⟨((HQ9.out.cF HI.out (j := 5) (by decide)).trans (congrArg some HPV.out)), HB9.out.cell 0, HB9.out.cell 1, HB9.out.cell 2, HB9.out.cell 3, HB9.out.cell 4⟩) (fun hHeld => ?_)
          clear hK K hHeld
          (try simp only [Act.put, List.setIfInBounds_toArray, List.set_cons_zero, List.set_cons_succ])
          generalize w8.heap.size = N9 at *
          generalize w8.alloc _ = w9 at *
          have HK6F9 := Lib.hid HK9.out
          refine wpSchL_one (wpOneL_call rfl (by rfl) (fun K hK => ?_))
          refine oper_append_rows (.tmp 136) (.tmp 138) 32 rfl 44 i0 Sg.zero.v 5 40 Tryz.underlying32 HI0.out HZ0.out HZ1.out HZ2.out rfl (by decide) v' PL (flatG P.q) rfl HROW9.out (some ⟨N9, 0, none⟩) 1 1 (Sg.cells ⟨(i : Int), sf, sl, T5, sa⟩) rfl rfl (fun h => (by cases h)) (fun ad had jj u hu => by
              cases had
              have := HNB9.out.cell jj
              rw [Addr.add_lit, Nat.zero_add]
              exact this.trans ((sgB_get _ jj).trans hu)) (one_sg _) (by unfold maxLen; have := HPM.out; omega) (by have := HPM.out; omega) ?_
          intro v2 w10 hown hk hn
          have hk2 := hk
          have hrow : (sgsT 44 v2 (P.q ++ [⟨(i : Int), sf, sl, T5, sa⟩])).at_ w10 := sgs_more (by rw [HPL.out]; exact hown)
          have HRW := Lib.hid hrow
          have HV2 : Hid (∀ j, v2.ownBlock = some j → w6.heap.size ≤ j) := Lib.hid (fun j e => by have hs := HS9.out; rcases hn j e with h | h; exact HV9.out j h; omega)
          have HK69 : Hid (Keep (fun _ => False) w6 w10) := Lib.hid (HK6F9.out.then hk (fun j e hlt => by have := HV9.out j e; omega))
          have HQ10 := Lib.hid (HQ6.out.kept HK69.out); have HB10 := Lib.hid (HB6.out.keep HK69.out id)
          obtain ⟨a', cap', hv2⟩ := sgs_shape hrow
          rw [List.length_append, List.length_singleton, HPL.out] at hv2
          clear hown hk hn hk2 hrow
          have cv : w10.cell? ⟨g, 9 + i * 6 + 5, none⟩ = some (.slice pa PL pc) := (HQ10.out.cF HI.out (j := 5) (by decide)).trans (congrArg some HPV.out)
          have cvf := HQ10.out.fr (9 + i * 6 + 5)
          subst hv2
          refine hK.out _ _ (fun _ => ⟨((HQ10.out.cF HI.out (j := 5) (by decide)).trans (congrArg some HPV.out)), HB10.out.cell 0, HB10.out.cell 1, HB10.out.cell 2, HB10.out.cell 3, HB10.out.cell 4⟩) (fun hHeld => ?_)
          clear hK K hHeld
          (try simp only [Act.put, List.setIfInBounds_toArray, List.set_cons_zero, List.set_cons_succ])
          (repeat (refine wpSchL_yes (v := ?_) rfl (fun _ _ _ h => h) (by rfl) ?_ ?_; rotate_left; (next => (intro w hSw; (try dsimp only at hSw); obtain ⟨hS0, hS1, hS2, hS3, hS4, hS5⟩ := hSw; go_simp; (try with_reducible rfl))); (try simp only [Act.put, List.setIfInBounds_toArray, List.set_cons_zero, List.set_cons_succ])))
          refine wpSchL_one (wpOneL_call rfl (by rfl) (fun K hK => ?_))
          go_simp
          refine hK.out _ _ (fun h => absurd h (by decide)) (fun hHeld => ?_)
          clear hK K hHeld
          refine wpSchL_nil ?_
          (try simp only [Act.put, List.setIfInBounds_toArray, List.set_cons_zero, List.set_cons_succ])
          have HQS := Lib.hid (HQ6.out.slice HI.out HK69.out HRW.out HV2.out rfl)
          have HKS := Lib.hid ((HK6.out.trans (HK69.out.mono (fun _ h => h.elim))).setCell (p := ⟨g, 9 + i * 6 + 5, none⟩) (.inl (.inl rfl)) (.slice a' (PL + 1) cap'))
          have HBS := Lib.hid (HB10.out.far (p := ⟨g, 9 + i * 6 + 5, none⟩) (fun e => HBG.out e) (.slice a' (PL + 1) cap'))
          clear cv cvf
          generalize World.setCell w10 _ _ = wS at *
          have HNS : Hid (∀ k, RQown g (upF v6 i (.slice a' (PL + 1) cap')) n1 o1 k → RQown g v n o k ∨ B < k) := Lib.hid (fun k e => by
            have hb := HB6.out.lt
            rcases own_slice HV2.out e with a | a
            · exact HN6.out k a
            · exact .inr (by omega))
          obtain ⟨y4, hy4⟩ : ∃ y4 : Qm, y4 = { x1 with F := upF x1.F i { P with q := P.q ++ [(⟨(i : Int), sf, sl, T5, sa⟩ : Sg)] }, T := upF x1.T i true } := ⟨_, rfl⟩
          have HQ8 := Lib.hid (HQS.out.seen (y := y4) (by rw [hy4, HX3.out]) (fun j _ => by rw [hy4, HX3.out]; show upF x1.F i _ j = upF (upF x1.F i P) i _ j; rw [upF_two]; dsimp only; rw [upF_at]) (fun j _ => by rw [hy4, HX3.out]) (by rw [hy4, HX3.out]) (by rw [hy4, HX3.out]))
          have HY4 := Lib.hid hy4
          have hF4 : y4.F i = { P with q := P.q ++ [(⟨(i : Int), sf, sl, T5, sa⟩ : Sg)] } := by rw [hy4]; exact upF_at _ _ _
          have hpp := rpre_p x1 ⟨(i : Int), sf, sl, st, sa⟩ now
          dsimp only at hpp
          rw [show ((i : Int)).toNat = i from rfl, ← HPE.out] at hpp
          have c2 : wS.cell? ⟨g, 9 + i * 6 + 2, none⟩ = some (.int .i64 P.p) := (HQ8.out.cF HI.out (j := 2) (by decide)).trans (by rw [hF4]; rfl)
          have c4 : wS.cell? ⟨g, 9 + i * 6 + 4, none⟩ = some (.int .u64 P.u) := (HQ8.out.cF HI.out (j := 4) (by decide)).trans (by rw [hF4]; rfl)
          have HPP := Lib.hid hpp; have HF4 := Lib.hid hF4
          clear hy4 hF4 hpp HQS HRW HV2 HK69
          generalize (upF v6 i (.slice a' (PL + 1) cap')) = v8 at *
          generalize Array.setIfInBounds cs6 _ _ = cs8 at *
          by_cases hp0 : P.p = 0
          · have hp0' : (P.p == 0) = true := by rw [hp0]; rfl
            have hnot : (i : Int) ∉ x1.N ∧ (i : Int) ∉ x1.O := by
              have h1 := (HX1.out.new i HI.out).1
              have h2 := (HX1.out.old i HI.out).1
              have h3 := HPP.out
              rw [hp0] at h3
              constructor
              · intro e; obtain ⟨a, b⟩ := h1 e; rw [if_pos a, b] at h3; cases h3
              · intro e; obtain ⟨a, b⟩ := h2 e; rw [if_pos a, b] at h3; cases h3
            have HPV2 : Hid (pushV x1.N x1.O (i : Int) = 0) := Lib.hid (by
              unfold pushV
              rw [if_neg (by omega), if_neg (by rintro (e | e); exact hnot.1 e; exact hnot.2 e)])
            have HP0 := Lib.hid hp0
            have f2 := HQ8.out.fr (9 + i * 6 + 2)
            have q9 := HQ8.out.setf HI.out (k := 2) (by decide) (u := .int .i64 1) (f := { y4.F i with p := 1 }) rfl (fun j hj hne => by
              match j, hj with
              | 0, _ => rfl
              | 1, _ => rfl
              | 2, _ => exact absurd rfl hne
              | 3, _ => rfl
              | 4, _ => rfl
              | 5, _ => rfl) rfl rfl
            have c4' : (wS.setCell ⟨g, 9 + i * 6 + 2, none⟩ (.int .i64 1)).cell? ⟨g, 9 + i * 6 + 4, none⟩ = some (.int .u64 P.u) := (q9.cF HI.out (j := 4) (by decide)).trans (by dsimp only; rw [upF_at, HF4.out]; rfl)
            have f4 := q9.fr (9 + i * 6 + 4)
            have q10 := q9.setf HI.out (k := 4) (by decide) (u := .int .u64 0) (f := { (upF y4.F i { y4.F i with p := 1 }) i with u := 0 }) rfl (fun j hj hne => by
              match j, hj with
              | 0, _ => rfl
              | 1, _ => rfl
              | 2, _ => rfl
              | 3, _ => rfl
              | 4, _ => exact absurd rfl hne
              | 5, _ => rfl) rfl rfl
            have HQ10 := Lib.hid q10
            have HK10 := Lib.hid ((HKS.out.setCell (p := ⟨g, 9 + i * 6 + 2, none⟩) (.inl (.inl rfl)) (.int .i64 1)).setCell (p := ⟨g, 9 + i * 6 + 4, none⟩) (.inl (.inl rfl)) (.int .u64 0))
            have HB10 := Lib.hid ((HBS.out.far (p := ⟨g, 9 + i * 6 + 2, none⟩) (fun e => HBG.out e) (.int .i64 1)).far (p := ⟨g, 9 + i * 6 + 4, none⟩) (fun e => HBG.out e) (.int .u64 0))
            clear c4 q9 q10 HQ8 HKS HBS hp0 hnot
            go_upto_region 23 with fail
            clear c2 f2 c4' f4 hp0'
            generalize World.setCell (World.setCell wS _ _) _ _ = wT at *
            refine wp_region_sch (fun W => W.cell? ⟨B, 0, none⟩ = some (.int .i64 (i : Int))) [(true, 0), (true, 1), (true, 2), (true, 3), (true, 4), (false, 5)] (by kernel_rfl) (by kernel_rfl) (by kernel_rfl) (by kernel_rfl) (HB10.out.cell 0) ?_
            have HQ11 := Lib.hid (HQ10.out.kept (Keep.refl _ wT).drew); have HB11 := Lib.hid (HB10.out.keep (Keep.refl (fun _ => False) wT).drew id); have HK11 := Lib.hid HK10.out.drew
            clear HQ10 HB10 HK10
            generalize wT.drew = wU at *
            (repeat (refine wpSch_yes (v := ?_) rfl (fun _ _ _ h => h) (by rfl) ?_ ?_; rotate_left; (next => (intro w hSw; (try dsimp only at hSw); (have hS1 := hSw); go_simp; (try with_reducible rfl))); (try simp only [Act.put, List.setIfInBounds_toArray, List.set_cons_zero, List.set_cons_succ])))
            have hls : LsOk y4.N y4.O := by rw [HY4.out]; exact HX1.out.ls
            refine wpSch_call rfl (by rfl) (fun K' hK' => ?_); go_simp
            refine (rpush_any 41 g 65 _ n1 o1 y4.N y4.O (i : Int) true wU HQ11.out.l hls).mono ?_
            rintro e wV ⟨rfl, t⟩
            have hyn : y4.N = x1.N := by rw [HY4.out]
            have hyo : y4.O = x1.O := by rw [HY4.out]
            obtain ⟨cs3, n3, o3, h3, he3, hk3, hn3⟩ := HQ11.out.lists (y := YY) t (by rw [← HFT.out, HY4.out]; rfl) (by
              rw [← HFT.out]
              show upF x1.F ((i : Int)).toNat (takeF x1 ⟨(i : Int), sf, sl, st, sa⟩ now) = upF (upF y4.F i _) i _
              rw [upF_two, upF_at, HF4.out, HY4.out]
              dsimp only
              rw [upF_two, show ((i : Int)).toNat = i from rfl]
              unfold takeF
              rw [← HPE.out, HSEG.out, if_pos HP0.out, if_pos HP0.out]) (by rw [← HFT.out, HY4.out]; rfl) (by
              rw [← HFT.out]
              show (if (if x1.T ((i : Int)).toNat = true then (x1.F ((i : Int)).toNat).p else 0) = 0 then x1.N ++ [(i : Int)] else x1.N) = _
              rw [show ((i : Int)).toNat = i from rfl, ← HPP.out, if_pos HP0.out, hyn, hyo]
              simp [pushN, HPV2.out]) (by
              rw [← HFT.out, hyn, hyo]
              show x1.O = _
              simp [pushO, HPV2.out])
            have HT : Hid (RQto w g v n o YY wV) := Lib.hid ⟨cs3, v8, n3, o3, h3, HK11.out.then hk3 (fun k e hlt => by
              have e2 : RQown g v8 n1 o1 k := by rcases e with e | e | e; exact .inl e; exact .inr (.inl e); exact .inr (.inr (.inl e))
              rcases HNS.out k e2 with a | a
              · exact a
              · omega), fun k e => by
              rcases hn3 k e with a | a
              · exact (HNS.out k a).imp id (fun h => by omega)
              · exact .inr (Nat.le_trans HK11.out.size a)⟩
            have HBV : Hid (wV.cell? ⟨B, 0, none⟩ = some (.int .i64 (i : Int))) := Lib.hid ((HB11.out.keep hk3 (fun e => by
              have e2 : RQown g v8 n1 o1 B := by rcases e with e | e | e; exact .inl e; exact .inr (.inl e); exact .inr (.inr (.inl e))
              rcases HNS.out B e2 with a | a
              · have := HBO.out B a; omega
              · omega)).cell 0)
            clear t h3 he3 hk3 hn3 hyn hyo hls
            refine hK'.out _ _ HBV.out (fun hHeld => ?_)
            clear hK' K' hHeld
            (try simp only [Act.put, List.setIfInBounds_toArray, List.set_cons_zero, List.set_cons_succ])
            refine wpSch_nil ?_
            go_wp2
            go_ret2
            exact ⟨by rw [HFV.out]; rfl, HT.out⟩
          · have hp0' : (P.p == 0) = false := by rw [beq_eq_false_iff_ne]; exact hp0
            have HT : Hid (RQto w g v n o YY wS) := Lib.hid ⟨cs8, v8, n1, o1, HQ8.out.seen (by rw [← HFT.out, HY4.out]; rfl) (fun j _ => by
              rw [← HFT.out, HY4.out]
              show upF x1.F ((i : Int)).toNat (takeF x1 ⟨(i : Int), sf, sl, st, sa⟩ now) j = _
              rw [show ((i : Int)).toNat = i from rfl]
              unfold takeF
              rw [← HPE.out, HSEG.out, if_neg hp0, if_neg hp0]) (fun j _ => by rw [← HFT.out, HY4.out]; rfl) (by
              rw [← HFT.out, HY4.out]
              show (if (if x1.T ((i : Int)).toNat = true then (x1.F ((i : Int)).toNat).p else 0) = 0 then x1.N ++ [(i : Int)] else x1.N) = x1.N
              rw [show ((i : Int)).toNat = i from rfl, ← HPP.out, if_neg hp0]) (by rw [← HFT.out, HY4.out]; rfl), HKS.out, fun k e => (HNS.out k e).imp id (fun h => by omega)⟩
            clear HQ8 HKS HBS hp0
            go_wp2
            go_ret2
            exact ⟨by rw [HFV.out]; rfl, HT.out⟩
        · go_simp
          rw [show #[Value.int .i64 (i : Int), .int .u64 sf, .int .i64 sl, .int .u64 T5, .bool sa] = sgB ⟨(i : Int), sf, sl, T5, sa⟩ from rfl]
          have kz : Keep (fun _ => False) w7 (w7.alloc (.cells (sgB ⟨(i : Int), sf, sl, T5, sa⟩) 44)) := (Keep.refl _ _).alloc _
          have HNB8 := Lib.hid (Whole.new w7 44 (sgB ⟨(i : Int), sf, sl, T5, sa⟩))
          have HQ8 := Lib.hid (HQ7.out.kept kz); have HB8 := Lib.hid (HB7.out.keep kz id); have HK8 := Lib.hid (HK7.out.trans kz); have HS8 : Hid (w6.heap.size ≤ (w7.alloc (.cells (sgB ⟨(i : Int), sf, sl, T5, sa⟩) 44)).heap.size) := Lib.hid (Nat.le_trans HS7.out kz.size)
          clear kz
          refine hK.out _ _ (fun _ => ⟨((HQ8.out.cF HI.out (j := 5) (by decide)).trans (congrArg some HPV.out)), HB8.out.cell 0, HB8.out.cell 1, HB8.out.cell 2, HB8.out.cell 3, HB8.out.cell 4⟩) (fun hHeld => ?_)
          clear hK K hHeld
          (try simp only [Act.put, List.setIfInBounds_toArray, List.set_cons_zero, List.set_cons_succ])
          generalize w7.heap.size = N8 at *
          generalize w7.alloc _ = w8 at *
          refine wpSchL_one (wpOneL_call rfl (by rfl) (fun K hK => ?_))
          refine oper_append_rows (.const (.slice none 0 0)) (.tmp 135) 32 rfl 44 i0 Sg.zero.v 5 40 Tryz.underlying32 HI0.out HZ0.out HZ1.out HZ2.out rfl (by decide) (.slice none 0 0) 0 [] rfl (World.ownsRow_nil _ _ _ _) pa PL pc (flatG P.q) rfl (by rw [flatG_len, HPL.out]) (HNW HQ8).1 (HNW HQ8).2 (one_flat P.q) (by unfold maxLen; have := HPM.out; omega) (by have := HPM.out; omega) ?_
          intro v' w9 hown hk hn
          rw [List.nil_append, Nat.zero_add] at hown
          have hk' : Keep (fun _ => False) w8 w9 := hk.mono (fun j e => by cases e)
          have HROW9 := Lib.hid hown
          have HV9 : Hid (∀ j, v'.ownBlock = some j → w6.heap.size ≤ j) := Lib.hid (fun j e => by have hs := HS8.out; rcases hn j e with h | h; cases h; omega)
          have HQ9 := Lib.hid (HQ8.out.kept hk'); have HB9 := Lib.hid (HB8.out.keep hk' id); have HK9 := Lib.hid (HK8.out.trans hk'); have HS9 : Hid (w6.heap.size ≤ w9.heap.size) := Lib.hid (Nat.le_trans HS8.out hk'.size)
          have HNB9 := Lib.hid (HNB8.out.keep hk' id)
          clear hown hk hn hk'
          refine hK.out _ _ (fun _ => ⟨((HQ9.out.cF HI.out (j := 5) (by decide)).trans (congrArg some HPV.out)), HB9.out.cell 0, HB9.out.cell 1, HB9.out.cell 2, HB9.out.cell 3, HB9.out.cell 4⟩) (fun hHeld => ?_)
          clear hK K hHeld
          (try simp only [Act.put, List.setIfInBounds_toArray, List.set_cons_zero, List.set_cons_succ])
          have HK6F9 := Lib.hid HK9.out
          refine wpSchL_one (wpOneL_call rfl (by rfl) (fun K hK => ?_))
          refine oper_append_rows (.tmp 136) (.tmp 138) 32 rfl 44 i0 Sg.zero.v 5 40 Tryz.underlying32 HI0.out HZ0.out HZ1.out HZ2.out rfl (by decide) v' PL (flatG P.q) rfl HROW9.out (some ⟨N8, 0, none⟩) 1 1 (Sg.cells ⟨(i : Int), sf, sl, T5, sa⟩) rfl rfl (fun h => (by cases h)) (fun ad had jj u hu => by
              cases had
              have := HNB9.out.cell jj
              rw [Addr.add_lit, Nat.zero_add]
              exact this.trans ((sgB_get _ jj).trans hu)) (one_sg _) (by unfold maxLen; have := HPM.out; omega) (by have := HPM.out; omega) ?_
          intro v2 w10 hown hk hn
          have hk2 := hk
          have hrow : (sgsT 44 v2 (P.q ++ [⟨(i : Int), sf, sl, T5, sa⟩])).at_ w10 := sgs_more (by rw [HPL.out]; exact hown)
          have HRW := Lib.hid hrow
          have HV2 : Hid (∀ j, v2.ownBlock = some j → w6.heap.size ≤ j) := Lib.hid (fun j e => by have hs := HS9.out; rcases hn j e with h | h; exact HV9.out j h; omega)
          have HK69 : Hid (Keep (fun _ => False) w6 w10) := Lib.hid (HK6F9.out.then hk (fun j e hlt => by have := HV9.out j e; omega))
          have HQ10 := Lib.hid (HQ6.out.kept HK69.out); have HB10 := Lib.hid (HB6.out.keep HK69.out id)
          obtain ⟨a', cap', hv2⟩ := sgs_shape hrow
          rw [List.length_append, List.length_singleton, HPL.out] at hv2
          clear hown hk hn hk2 hrow
          have cv : w10.cell? ⟨g, 9 + i * 6 + 5, none⟩ = some (.slice pa PL pc) := (HQ10.out.cF HI.out (j := 5) (by decide)).trans (congrArg some HPV.out)
          have cvf := HQ10.out.fr (9 + i * 6 + 5)
          subst hv2
          refine hK.out _ _ (fun _ => ⟨((HQ10.out.cF HI.out (j := 5) (by decide)).trans (congrArg some HPV.out)), HB10.out.cell 0, HB10.out.cell 1, HB10.out.cell 2, HB10.out.cell 3, HB10.out.cell 4⟩) (fun hHeld => ?_)
          clear hK K hHeld
          (try simp only [Act.put, List.setIfInBounds_toArray, List.set_cons_zero, List.set_cons_succ])
          (repeat (refine wpSchL_yes (v := ?_) rfl (fun _ _ _ h => h) (by rfl) ?_ ?_; rotate_left; (next => (intro w hSw; (try dsimp only at hSw); obtain ⟨hS0, hS1, hS2, hS3, hS4, hS5⟩ := hSw; go_simp; (try with_reducible rfl))); (try simp only [Act.put, List.setIfInBounds_toArray, List.set_cons_zero, List.set_cons_succ])))
          refine wpSchL_one (wpOneL_call rfl (by rfl) (fun K hK => ?_))
          go_simp
          refine hK.out _ _ (fun h => absurd h (by decide)) (fun hHeld => ?_)
          clear hK K hHeld
          refine wpSchL_nil ?_
          (try simp only [Act.put, List.setIfInBounds_toArray, List.set_cons_zero, List.set_cons_succ])
          have HQS := Lib.hid (HQ6.out.slice HI.out HK69.out HRW.out HV2.out rfl)
          have HKS := Lib.hid ((HK6.out.trans (HK69.out.mono (fun _ h => h.elim))).setCell (p := ⟨g, 9 + i * 6 + 5, none⟩) (.inl (.inl rfl)) (.slice a' (PL + 1) cap'))
          have HBS := Lib.hid (HB10.out.far (p := ⟨g, 9 + i * 6 + 5, none⟩) (fun e => HBG.out e) (.slice a' (PL + 1) cap'))
          clear cv cvf
          generalize World.setCell w10 _ _ = wS at *
          have HNS : Hid (∀ k, RQown g (upF v6 i (.slice a' (PL + 1) cap')) n1 o1 k → RQown g v n o k ∨ B < k) := Lib.hid (fun k e => by
            have hb := HB6.out.lt
            rcases own_slice HV2.out e with a | a
            · exact HN6.out k a
            · exact .inr (by omega))
          obtain ⟨y4, hy4⟩ : ∃ y4 : Qm, y4 = { x1 with F := upF x1.F i { P with q := P.q ++ [(⟨(i : Int), sf, sl, T5, sa⟩ : Sg)] }, T := upF x1.T i true } := ⟨_, rfl⟩
          have HQ8 := Lib.hid (HQS.out.seen (y := y4) (by rw [hy4, HX3.out]) (fun j _ => by rw [hy4, HX3.out]; show upF x1.F i _ j = upF (upF x1.F i P) i _ j; rw [upF_two]; dsimp only; rw [upF_at]) (fun j _ => by rw [hy4, HX3.out]) (by rw [hy4, HX3.out]) (by rw [hy4, HX3.out]))
          have HY4 := Lib.hid hy4
          have hF4 : y4.F i = { P with q := P.q ++ [(⟨(i : Int), sf, sl, T5, sa⟩ : Sg)] } := by rw [hy4]; exact upF_at _ _ _
          have hpp := rpre_p x1 ⟨(i : Int), sf, sl, st, sa⟩ now
          dsimp only at hpp
          rw [show ((i : Int)).toNat = i from rfl, ← HPE.out] at hpp
          have c2 : wS.cell? ⟨g, 9 + i * 6 + 2, none⟩ = some (.int .i64 P.p) := (HQ8.out.cF HI.out (j := 2) (by decide)).trans (by rw [hF4]; rfl)
          have c4 : wS.cell? ⟨g, 9 + i * 6 + 4, none⟩ = some (.int .u64 P.u) := (HQ8.out.cF HI.out (j := 4) (by decide)).trans (by rw [hF4]; rfl)
          have HPP := Lib.hid hpp; have HF4 := Lib.hid hF4
          clear hy4 hF4 hpp HQS HRW HV2 HK69
          generalize (upF v6 i (.slice a' (PL + 1) cap')) = v8 at *
          generalize Array.setIfInBounds cs6 _ _ = cs8 at *
          by_cases hp0 : P.p = 0
          · have hp0' : (P.p == 0) = true := by rw [hp0]; rfl
            have hnot : (i : Int) ∉ x1.N ∧ (i : Int) ∉ x1.O := by
              have h1 := (HX1.out.new i HI.out).1
              have h2 := (HX1.out.old i HI.out).1
              have h3 := HPP.out
              rw [hp0] at h3
              constructor
              · intro e; obtain ⟨a, b⟩ := h1 e; rw [if_pos a, b] at h3; cases h3
              · intro e; obtain ⟨a, b⟩ := h2 e; rw [if_pos a, b] at h3; cases h3
            have HPV2 : Hid (pushV x1.N x1.O (i : Int) = 0) := Lib.hid (by
              unfold pushV
              rw [if_neg (by omega), if_neg (by rintro (e | e); exact hnot.1 e; exact hnot.2 e)])
            have HP0 := Lib.hid hp0
            have f2 := HQ8.out.fr (9 + i * 6 + 2)
            have q9 := HQ8.out.setf HI.out (k := 2) (by decide) (u := .int .i64 1) (f := { y4.F i with p := 1 }) rfl (fun j hj hne => by
              match j, hj with
              | 0, _ => rfl
              | 1, _ => rfl
              | 2, _ => exact absurd rfl hne
              | 3, _ => rfl
              | 4, _ => rfl
              | 5, _ => rfl) rfl rfl
            have c4' : (wS.setCell ⟨g, 9 + i * 6 + 2, none⟩ (.int .i64 1)).cell? ⟨g, 9 + i * 6 + 4, none⟩ = some (.int .u64 P.u) := (q9.cF HI.out (j := 4) (by decide)).trans (by dsimp only; rw [upF_at, HF4.out]; rfl)
            have f4 := q9.fr (9 + i * 6 + 4)
            have q10 := q9.setf HI.out (k := 4) (by decide) (u := .int .u64 0) (f := { (upF y4.F i { y4.F i with p := 1 }) i with u := 0 }) rfl (fun j hj hne => by
              match j, hj with
              | 0, _ => rfl
              | 1, _ => rfl
              | 2, _ => rfl
              | 3, _ => rfl
              | 4, _ => exact absurd rfl hne
              | 5, _ => rfl) rfl rfl
            have HQ10 := Lib.hid q10
            have HK10 := Lib.hid ((HKS.out.setCell (p := ⟨g, 9 + i * 6 + 2, none⟩) (.inl (.inl rfl)) (.int .i64 1)).setCell (p := ⟨g, 9 + i * 6 + 4, none⟩) (.inl (.inl rfl)) (.int .u64 0))
            have HB10 := Lib.hid ((HBS.out.far (p := ⟨g, 9 + i * 6 + 2, none⟩) (fun e => HBG.out e) (.int .i64 1)).far (p := ⟨g, 9 + i * 6 + 4, none⟩) (fun e => HBG.out e) (.int .u64 0))
            clear c4 q9 q10 HQ8 HKS HBS hp0 hnot
            go_upto_region 23 with fail
            clear c2 f2 c4' f4 hp0'
            generalize World.setCell (World.setCell wS _ _) _ _ = wT at *
            refine wp_region_sch (fun W => W.cell? ⟨B, 0, none⟩ = some (.int .i64 (i : Int))) [(true, 0), (true, 1), (true, 2), (true, 3), (true, 4), (false, 5)] (by kernel_rfl) (by kernel_rfl) (by kernel_rfl) (by kernel_rfl) (HB10.out.cell 0) ?_
            have HQ11 := Lib.hid (HQ10.out.kept (Keep.refl _ wT).drew); have HB11 := Lib.hid (HB10.out.keep (Keep.refl (fun _ => False) wT).drew id); have HK11 := Lib.hid HK10.out.drew
            clear HQ10 HB10 HK10
            generalize wT.drew = wU at *
            (repeat (refine wpSch_yes (v := ?_) rfl (fun _ _ _ h => h) (by rfl) ?_ ?_; rotate_left; (next => (intro w hSw; (try dsimp only at hSw); (have hS1 := hSw); go_simp; (try with_reducible rfl))); (try simp only [Act.put, List.setIfInBounds_toArray, List.set_cons_zero, List.set_cons_succ])))
            have hls : LsOk y4.N y4.O := by rw [HY4.out]; exact HX1.out.ls
            refine wpSch_call rfl (by rfl) (fun K' hK' => ?_); go_simp
            refine (rpush_any 41 g 65 _ n1 o1 y4.N y4.O (i : Int) true wU HQ11.out.l hls).mono ?_
            rintro e wV ⟨rfl, t⟩
            have hyn : y4.N = x1.N := by rw [HY4.out]
            have hyo : y4.O = x1.O := by rw [HY4.out]
            obtain ⟨cs3, n3, o3, h3, he3, hk3, hn3⟩ := HQ11.out.lists (y := YY) t (by rw [← HFT.out, HY4.out]; rfl) (by
              rw [← HFT.out]
              show upF x1.F ((i : Int)).toNat (takeF x1 ⟨(i : Int), sf, sl, st, sa⟩ now) = upF (upF y4.F i _) i _
              rw [upF_two, upF_at, HF4.out, HY4.out]
              dsimp only
              rw [upF_two, show ((i : Int)).toNat = i from rfl]
              unfold takeF
              rw [← HPE.out, HSEG.out, if_pos HP0.out, if_pos HP0.out]) (by rw [← HFT.out, HY4.out]; rfl) (by
              rw [← HFT.out]
              show (if (if x1.T ((i : Int)).toNat = true then (x1.F ((i : Int)).toNat).p else 0) = 0 then x1.N ++ [(i : Int)] else x1.N) = _
              rw [show ((i : Int)).toNat = i from rfl, ← HPP.out, if_pos HP0.out, hyn, hyo]
              simp [pushN, HPV2.out]) (by
              rw [← HFT.out, hyn, hyo]
              show x1.O = _
              simp [pushO, HPV2.out])
            have HT : Hid (RQto w g v n o YY wV) := Lib.hid ⟨cs3, v8, n3, o3, h3, HK11.out.then hk3 (fun k e hlt => by
              have e2 : RQown g v8 n1 o1 k := by rcases e with e | e | e; exact .inl e; exact .inr (.inl e); exact .inr (.inr (.inl e))
              rcases HNS.out k e2 with a | a
              · exact a
              · omega), fun k e => by
              rcases hn3 k e with a | a
              · exact (HNS.out k a).imp id (fun h => by omega)
              · exact .inr (Nat.le_trans HK11.out.size a)⟩
            have HBV : Hid (wV.cell? ⟨B, 0, none⟩ = some (.int .i64 (i : Int))) := Lib.hid ((HB11.out.keep hk3 (fun e => by
              have e2 : RQown g v8 n1 o1 B := by rcases e with e | e | e; exact .inl e; exact .inr (.inl e); exact .inr (.inr (.inl e))
              rcases HNS.out B e2 with a | a
              · have := HBO.out B a; omega
              · omega)).cell 0)
            clear t h3 he3 hk3 hn3 hyn hyo hls
            refine hK'.out _ _ HBV.out (fun hHeld => ?_)
            clear hK' K' hHeld
            (try simp only [Act.put, List.setIfInBounds_toArray, List.set_cons_zero, List.set_cons_succ])
            refine wpSch_nil ?_
            go_wp2
            go_ret2
            exact ⟨by rw [HFV.out]; rfl, HT.out⟩
          · have hp0' : (P.p == 0) = false := by rw [beq_eq_false_iff_ne]; exact hp0
            have HT : Hid (RQto w g v n o YY wS) := Lib.hid ⟨cs8, v8, n1, o1, HQ8.out.seen (by rw [← HFT.out, HY4.out]; rfl) (fun j _ => by
              rw [← HFT.out, HY4.out]
              show upF x1.F ((i : Int)).toNat (takeF x1 ⟨(i : Int), sf, sl, st, sa⟩ now) j = _
              rw [show ((i : Int)).toNat = i from rfl]
              unfold takeF
              rw [← HPE.out, HSEG.out, if_neg hp0, if_neg hp0]) (fun j _ => by rw [← HFT.out, HY4.out]; rfl) (by
              rw [← HFT.out, HY4.out]
              show (if (if x1.T ((i : Int)).toNat = true then (x1.F ((i : Int)).toNat).p else 0) = 0 then x1.N ++ [(i : Int)] else x1.N) = x1.N
              rw [show ((i : Int)).toNat = i from rfl, ← HPP.out, if_neg hp0]) (by rw [← HFT.out, HY4.out]; rfl), HKS.out, fun k e => (HNS.out k e).imp id (fun h => by omega)⟩
            clear HQ8 HKS HBS hp0
            go_wp2
            go_ret2
            exact ⟨by rw [HFV.out]; rfl, HT.out⟩
end
end Go.Proofs.YtnljjdfajmjdjaaGreat
