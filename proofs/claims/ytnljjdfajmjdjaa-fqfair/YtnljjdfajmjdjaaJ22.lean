/-
  Package fq: put: a segment goes behind all of its flow, which has its turn with the others, or waits. Conditions: the queue lies in memory, the socket is one.
-/
import Derived.Test.YtnljjdfajmjdjaaJ19
import Derived.Test.YtnljjdfajmjdjaaJ21
import Derived.Test.YtnljjdfajmjdjaaJ18
namespace Go.Proofs.Ytnljjdfajmjdjaa
open Go.RowKit
set_option maxRecDepth 100000
set_option linter.unusedSimpArgs false
set_option linter.unusedVariables false

theorem oper_append_sg {P : Program} {w : World} {o : Oper} {a : Act} {K : Act → World → Prop} {Q : Exit → Act → World → Prop} (s x : Operand) (t : TypeId)
    (ho : o.op = .call { callee := .builtin .append, args := #[s, x], argTypes := #[t, t] })
    (i : TypeInfo) (ht : P.underlying t = some (.slice 34)) (hi : P.info? 34 = some i) (hz : i.zero = some Sg.zero.v) (hsize : i.size = 5) (hby : i.bytes = 40)
    (v : Value) (l : List Sg) (hs : a.eval s = v) (h0 : SgAt w v l) (hl : l.length ≤ 100000) (ad : Addr) (c : Nat) (y : Sg) (hx : a.eval x = .slice (some ad) 1 c) (hy : ∀ j u, y.cells[j]? = some u → w.cell? (ad.add j) = some u)
    (h : ∀ v' w', SgAt w' v' (l ++ [y]) → Keep (fun k => v.ownBlock = some k) w w' → (∀ k, v'.ownBlock = some k → v.ownBlock = some k ∨ w.heap.size ≤ k) → K (a.put o.dst v') w') : Oper.wp P o a w K Q := by
  obtain ⟨v', w', hr, h2, h3, h4⟩ := run_append_sg (P := P) w t o.type i ht hi hz hsize hby h0 hl ad c y hy
  unfold Oper.wp execOp
  simp only [ho, resolve, invoke, builtin, Sem.run_bind, Sem.run_pure, Result.andThen_ok, List.map_toArray, List.map_cons, List.map_nil, hs, hx, hr]
  exact h v' w' h2 h3 h4

theorem upF_two {α : Type} (F : Nat → α) (i : Nat) (a b : α) : upF (upF F i a) i b = upF F i b := funext fun j => by
  by_cases e : j = i
  · subst e; rw [upF_at, upF_at]
  · rw [upF_ne _ _ e, upF_ne _ _ e, upF_ne _ _ e]

/-! ### Its states -/
/-- Ahead of its place. -/
def preQ (x : Qm) (s : Sg) (now : Int) (i : Nat) : Qm := { x with F := upF x.F i (preF x s now), T := upF x.T i true }
def midF (x : Qm) (s : Sg) (now : Int) : Fl := { takeF x s now with q := (preF x s now).q }
/-- Ahead of the segment. -/
def midQ (x : Qm) (s : Sg) (now : Int) (i : Nat) : Qm := { x with F := upF x.F i (midF x s now), T := upF x.T i true, N := if (x.F i).p = 0 then x.N ++ [(i : Int)] else x.N }
section
variable {x : Qm} {s : Sg} {now : Int} {i : Nat}
theorem pre_is (h : x.Ok) (hi : i < 8) (hs : s.s = (i : Int)) : (preF x s now).q = (x.F i).q ∧ (preF x s now).n = (x.F i).n ∧ (preF x s now).p = (x.F i).p ∧ (preF x s now).u = (x.F i).u := by
  have hin : s.s.toNat = i := by rw [hs]; rfl
  unfold preF
  rw [hin]
  cases ht : x.T i with
  | true =>
    rw [if_pos rfl]
    split
    · exact ⟨rfl, rfl, rfl, rfl⟩
    · exact ⟨rfl, rfl, rfl, rfl⟩
  | false => rw [h.no i hi ht]; exact ⟨rfl, rfl, rfl, rfl⟩
theorem pre_p (h : x.Ok) (hi : i < 8) : (if x.T i = true then (x.F i).p else 0) = (x.F i).p := by
  cases ht : x.T i with
  | true => rfl
  | false => rw [h.no i hi ht]; rfl
theorem pre_key (h : x.Ok) (hi : i < 8) (hs : s.s = (i : Int)) : keyF (preQ x s now i) i = keyF x i := by
  have hp := pre_is (now := now) h hi hs
  unfold keyF timeF preQ
  dsimp only
  rw [upF_at, hp.1, hp.2.1]
theorem pre_place (h : x.Ok) {ks : List Key} (hk : KsOf x ks) (hi : i < 8) (hs : s.s = (i : Int)) : placeK (preQ x s now i) ks i = (x.F i).p := by
  rw [← pre_p h hi, ← placeK_is h hk hi]
  unfold placeK
  rw [pre_key h hi hs]
  rfl
theorem pre_three (h : x.Ok) (hi : i < 8) (hs : s.s = (i : Int)) {f : Fl} (hc : f.c = (preF x s now).c) (hn : f.n = (preF x s now).n) (hu : f.u = (preF x s now).u) (hq : f.q = (preF x s now).q) {b : Bool} (hb : b = true) :
    Seen { x with F := upF x.F i f, T := upF x.T i b } (preQ x s now i) := by
  subst hb
  refine ⟨rfl, rfl, rfl, fun _ _ => rfl, fun j _ => ?_, fun j _ => ?_, fun j _ => ?_, fun j _ => ?_⟩
  all_goals
    unfold preQ
    dsimp only
    by_cases e : j = i
    · subst e; rw [upF_at, upF_at]; first | exact hc.symm | exact hn.symm | exact hu.symm | exact hq.symm
    · rw [upF_ne _ _ e, upF_ne _ _ e]
theorem mid_no (h : x.Ok) (hi : i < 8) (hs : s.s = (i : Int)) (hp : (x.F i).p ≠ 0) : Seen (preQ x s now i) (midQ x s now i) := by
  have hpp : (preF x s now).p ≠ 0 := by rw [(pre_is h hi hs).2.2.1]; exact hp
  refine ⟨rfl, if_neg hp, rfl, fun _ _ => rfl, fun j _ => ?_, fun j _ => ?_, fun j _ => ?_, fun j _ => ?_⟩
  all_goals
    unfold preQ midQ
    dsimp only
    by_cases e : j = i
    · subst e
      (rw [upF_at, upF_at]) <;> (first | rfl | (unfold midF takeF; dsimp only; rw [if_neg hpp]))
    · rw [upF_ne _ _ e, upF_ne _ _ e]
theorem mid_yes (h : x.Ok) (hi : i < 8) (hs : s.s = (i : Int)) (hp : (x.F i).p = 0) {N' O' : List Int} (hN : N' = x.N ++ [(i : Int)]) (hO : O' = x.O) :
    Seen { preQ x s now i with F := upF (preQ x s now i).F i { preF x s now with u := 0 }, T := upF (preQ x s now i).T i true, N := N', O := O' } (midQ x s now i) := by
  have hpp : (preF x s now).p = 0 := by rw [(pre_is h hi hs).2.2.1]; exact hp
  subst hN hO
  refine ⟨rfl, if_pos hp, rfl, fun j _ => ?_, fun j _ => ?_, fun j _ => ?_, fun j _ => ?_, fun j _ => ?_⟩
  · unfold preQ midQ; dsimp only; rw [upF_two]
  all_goals
    unfold preQ midQ
    dsimp only
    rw [upF_two]
    by_cases e : j = i
    · subst e
      (rw [upF_at, upF_at]) <;> (first | rfl | (unfold midF takeF; dsimp only; rw [if_pos hpp]))
    · rw [upF_ne _ _ e, upF_ne _ _ e]
theorem mid_take (h : x.Ok) (hi : i < 8) (hs : s.s = (i : Int)) : Seen { midQ x s now i with F := upF (midQ x s now i).F i (takeF x s now), T := upF (midQ x s now i).T i true } (takeQ x s now) := by
  have hin : s.s.toNat = i := by rw [hs]; rfl
  refine seen_of rfl ?_ rfl (fun j _ => ?_) (fun j _ => ?_)
  · unfold takeQ midQ
    dsimp only
    rw [hin, pre_p h hi, hs]
  · unfold takeQ midQ
    dsimp only
    rw [upF_two, hin]
  · unfold takeQ midQ
    dsimp only
    rw [upF_two, hin]
theorem ks_take (h : x.Ok) {ks : List Key} (hk : KsOf x ks) (hi : i < 8) (hs : s.s = (i : Int)) : KsOf (takeQ x s now) ks := by
  have hin : s.s.toNat = i := by rw [hs]; rfl
  have hp := pre_is (now := now) h hi hs
  have e1 : (takeQ x s now).F i = takeF x s now := by show upF x.F s.s.toNat _ i = _; rw [hin, upF_at]
  have eT : (takeQ x s now).T i = true := by show upF x.T s.s.toNat _ i = _; rw [hin, upF_at]
  have hF : ∀ j : Nat, j ≠ i → (takeQ x s now).F j = x.F j := fun j hj => by show upF x.F s.s.toNat _ j = _; rw [hin, upF_ne _ _ hj]
  have hT : ∀ j : Nat, j ≠ i → (takeQ x s now).T j = x.T j := fun j hj => by show upF x.T s.s.toNat _ j = _; rw [hin, upF_ne _ _ hj]
  have htp : (takeF x s now).p = if (x.F i).p = 0 then 1 else (x.F i).p := by rw [← hp.2.2.1]; rfl
  by_cases h3 : (x.F i).p = 3
  · have ht : x.T i = true := by
      cases ht : x.T i with
      | true => rfl
      | false => rw [h.no i hi ht] at h3; exact absurd h3 (by decide)
    have htp3 : (takeF x s now).p = 3 := by rw [htp, h3]; rfl
    have hne := (h.is i hi ht).wt h3
    have hkey : keyF (takeQ x s now) i = keyF x i := by
      unfold keyF timeF
      rw [e1]
      have hq : (takeF x s now).q = (x.F i).q ++ [segF x s now] := by rw [← hp.1]; rfl
      have hn : (takeF x s now).n = (x.F i).n := hp.2.1
      rw [hq, hn]
      cases hqq : (x.F i).q with
      | nil => exact absurd hqq hne
      | cons a r => rfl
    intro k
    rw [hk]
    constructor
    · rintro ⟨j, hj, h1, h2, h4⟩
      by_cases e : j = i
      · subst e; exact ⟨j, hj, eT, by rw [e1]; exact htp3, by rw [hkey]; exact h4⟩
      · exact ⟨j, hj, by rw [hT j e]; exact h1, by rw [hF j e]; exact h2, by unfold keyF; rw [hF j e]; exact h4⟩
    · rintro ⟨j, hj, h1, h2, h4⟩
      by_cases e : j = i
      · subst e; exact ⟨j, hj, ht, h3, by rw [← hkey]; exact h4⟩
      · exact ⟨j, hj, by rw [← hT j e]; exact h1, by rw [← hF j e]; exact h2, by unfold keyF at h4; rw [hF j e] at h4; exact h4⟩
  · refine ks_at hk (i := i) hF hT h3 ?_
    rw [e1, htp]
    split
    · decide
    · exact h3
end

section
variable {w w' : World} {g tg : Nat} {S : Nat → Prop} {cs : Array Value} {v : Nat → Value} {ks : List Key} {x : Qm}
set_option maxRecDepth 100000 in
set_option maxHeartbeats 8000000 in
theorem FQat.put (h : FQat w g tg S cs v ks x) {i : Nat} (hi : i < 8) (s y : Sg) (hs : s.s = (i : Int)) (now : Int) (hy : segF x s now = y) (hokt : (takeQ x s now).Ok) :
    Calls Try.prog 37 #[.pointer (some ⟨g, 0, none⟩), y.v, .int .u64 now] w fun e w' => (∃ u, e = .returned u) ∧ ∃ cs' v', FQat w' g tg S cs' v' ks (takeQ x s now) ∧ Keep (fun k => k = g ∨ (v i).ownBlock = some k) w w' ∧ ∀ j k, j < 8 → (v' j).ownBlock = some k → (v j).ownBlock = some k ∨ w.heap.size ≤ k := by
  obtain ⟨ys, yf, yl, yt, ya⟩ := y
  obtain rfl : ys = (i : Int) := by rw [← hs]; exact (congrArg Sg.s hy).symm
  have H := Lib.hid h; have HI := Lib.hid hi; have HSS := Lib.hid hs; have HYE := Lib.hid hy; have HOKT := Lib.hid hokt
  have HPRE := Lib.hid (pre_is (now := now) h.ok hi hs)
  have HPL0 := pre_place (s := s) (now := now) h.ok h.ks hi hs
  obtain ⟨P, hP⟩ : ∃ P, (x.F i).p = P := ⟨_, rfl⟩
  rw [hP] at HPL0
  have HP := Lib.hid hP; have HPL := Lib.hid HPL0
  have HLS : Hid (LsOk (preQ x s now i).N (preQ x s now i).O) := Lib.hid h.ok.ls
  have HOUT : Hid ((x.F i).p = 0 → (i : Int) ∉ x.N ∧ (i : Int) ∉ x.O) := Lib.hid (fun e => ⟨fun hm => by have := ((h.ok.new i hi).1 hm).2; omega, fun hm => by have := ((h.ok.old i hi).1 hm).2; omega⟩)
  have HUN : Hid (U64 (x.F i).u ∧ 0 ≤ (x.F i).n) := Lib.hid (by
    cases ht : x.T i with
    | true => exact ⟨(h.ok.is i hi ht).hu, (h.ok.is i hi ht).hn.1⟩
    | false => rw [h.ok.no i hi ht]; exact ⟨⟨by decide, by decide⟩, by decide⟩)
  have HLG := Lib.hid h.w.whole.lt
  have HOLD := Lib.hid (fun k (e : (v i).ownBlock = some k) => (h.w.q i hi).lt e)
  obtain ⟨i0, hi0, hz0, hz1, hz2⟩ := info_parts Try.infoSg
  have HINF := Lib.hid hi0; have HZ0 := Lib.hid hz0; have HZ1 := Lib.hid hz1; have HZ2 := Lib.hid hz2
  have hi8 : (i : Int) < 8 := by omega
  have kz : Keep (fun _ => False) w (w.alloc (.cells #[.int .i64 (i : Int), .int .u64 yf, .int .i64 yl, .int .u64 yt, .bool ya] 34)) := (Keep.refl _ _).alloc _
  have HQ0 := Lib.hid (h.w.kept kz); have HK0 : Hid (Keep (fun k => k = g) w _) := Lib.hid (kz.mono (fun _ h => h.elim)); have HBX0 := Lib.hid (Whole.new w 34 #[.int .i64 (i : Int), .int .u64 yf, .int .i64 yl, .int .u64 yt, .bool ya])
  clear h hi hs hy hokt HPL0 hP hi0 hz0 hz1 hz2 kz
  go_enter Try.func37, Try.ntmps37
  go_wp2_with fail
  go_quiet (fail)
  replace HQ0 := Lib.hid (HQ0.out.kept ((Keep.refl _ _).drewN nq)); replace HK0 := Lib.hid (HK0.out.drewN nq); replace HBX0 := Lib.hid (HBX0.out.keep ((Keep.refl (fun _ => False) _).drewN nq) id)
  generalize World.drewN _ nq = w0 at *
  have ct := HQ0.out.there HI.out
  have cc := HQ0.out.credit HI.out
  have f0 := HQ0.out.whole.free (9 + i * 5); have f1 := HQ0.out.whole.free (9 + i * 5 + 1)
  have cf : World.cell? _ ⟨g, 1, none⟩ = some (.int .i64 x.c.f) := HQ0.out.cf (j := 1) (by omega)
  cases ht : x.T i with
  | false =>
    rw [ht] at ct
    have HNO := Lib.hid (H.out.ok.no i HI.out ht)
    have HT0 := Lib.hid ht
    clear ht
    go_upto_region 6 with fail
    have hq1 : FQw (w0.setCell ⟨g, 9 + i * 5, none⟩ (.bool true)) g tg S _ v ks _ := HQ0.out.set HI.out (k := 0) (by omega) (u := .bool true) (f := x.F i) (b := true) rfl (fun j hj hne => by
      match j, hj with
      | 0, _ => exact absurd rfl hne
      | 1, _ => rfl
      | 2, _ => rfl
      | 3, _ => rfl
      | 4, _ => rfl) rfl
    have hprf : preF x s now = { Fl.zero with s := s.s, c := x.c.f } := by
      unfold preF
      rw [show s.s.toNat = i by rw [HSS.out]; rfl, if_neg (by rw [HT0.out]; decide)]
    have hq2 := hq1.set HI.out (k := 1) (by omega) (u := .int .i64 x.c.f) (f := preF x s now) (b := true) (by rw [hprf]; rfl) (fun j hj hne => by
      dsimp only
      rw [upF_at, upF_at, hprf, HNO.out]
      match j, hj with
      | 0, _ => rfl
      | 1, _ => exact absurd rfl hne
      | 2, _ => rfl
      | 3, _ => rfl
      | 4, _ => rfl) (by dsimp only; rw [upF_at, hprf, HNO.out])
    have HQ1 := Lib.hid (hq2.seen (y := preQ x s now i) (seen_of rfl rfl rfl (fun j _ => by unfold preQ; dsimp only; rw [upF_two]) (fun j _ => by unfold preQ; dsimp only; rw [upF_two])))
    have hkp : Keep (fun k => k = g) w0 _ := ((Keep.refl (fun k => k = g) _).setCell (p := ⟨g, 9 + i * 5, none⟩) (.inl rfl) (.bool true)).setCell (p := ⟨g, 9 + i * 5 + 1, none⟩) (.inl rfl) (.int .i64 x.c.f)
    have HK1 := Lib.hid (HK0.out.trans hkp)
    have HBX1 := Lib.hid (HBX0.out.keep hkp (fun e => by have := HLG.out; omega))
    clear hq1 hq2 hkp hprf HQ0 HK0 HBX0 ct cc f0 f1 cf
    generalize hw9 : (w0.setCell ⟨g, 9 + i * 5, none⟩ (.bool true)).setCell ⟨g, 9 + i * 5 + 1, none⟩ (.int .i64 x.c.f) = w9 at *
    clear hw9
    · skip
      have b0 := HBX1.out.cell 0
      simp only [List.getElem?_toArray, List.getElem?_cons_zero, List.getElem?_cons_succ] at b0
      go_wp2_with fail
      refine (HQ1.out.place HLS.out HI.out (by rw [show ((preQ x s now i).F i).n = (x.F i).n by unfold preQ; dsimp only; rw [upF_at]; exact HPRE.out.2.1]; exact HUN.out.2) HPL.out).mono ?_
      rintro e w2 ⟨rfl, k2⟩
      have HQ2 := Lib.hid (HQ1.out.kept k2); have HK2 := Lib.hid (HK1.out.trans (k2.mono (fun _ h => h.elim))); have HBX2 := Lib.hid (HBX1.out.keep k2 id)
      clear k2 HQ1 HK1 HBX1 b0
      by_cases hp0 : P = 0
      · subst hp0
        have HP0 : Hid ((x.F i).p = 0) := Lib.hid HP.out
        have c3 := HQ2.out.since HI.out
        have f3 := HQ2.out.whole.free (9 + i * 5 + 3)
        have HQ3 := Lib.hid (HQ2.out.set HI.out (k := 3) (by omega) (u := .int .u64 0) (f := { preF x s now with u := 0 }) (b := true) rfl (fun j hj hne => by
          unfold preQ
          dsimp only
          rw [upF_at, upF_at]
          match j, hj with
          | 0, _ => rfl
          | 1, _ => rfl
          | 2, _ => rfl
          | 3, _ => exact absurd rfl hne
          | 4, _ => rfl) (by unfold preQ; dsimp only; rw [upF_at]))
        have HK3 := Lib.hid (HK2.out.setCell (p := ⟨g, 9 + i * 5 + 3, none⟩) (.inl rfl) (.int .u64 0))
        have HBX3 := Lib.hid (HBX2.out.keep ((Keep.refl (fun k => k = g) w2).setCell (p := ⟨g, 9 + i * 5 + 3, none⟩) (.inl rfl) (.int .u64 0)) (fun e => by have := HLG.out; omega))
        clear HQ2 HK2 HBX2
        go_wp2_with fail
        have b0 := HBX3.out.cell 0
        simp only [List.getElem?_toArray, List.getElem?_cons_zero, List.getElem?_cons_succ] at b0
        refine wp_region_sch (fun W => W.cell? ⟨w.heap.size, 0, none⟩ = some (.int .i64 (i : Int)) ∧ True) [(true, 0), (true, 1), (true, 2), (true, 3), (true, 4), (false, 5)] (by kernel_rfl) (by kernel_rfl) (by kernel_rfl) (by kernel_rfl) ⟨b0, trivial⟩ ?_
        have HQd := Lib.hid (HQ3.out.kept (Keep.refl _ _).drew); have HKd := Lib.hid HK3.out.drew; have HBd := Lib.hid (HBX3.out.keep (Keep.refl (fun _ => False) _).drew id)
        clear HQ3 HK3 HBX3 b0 c3 f3
        generalize World.drew _ = w3 at *
        (repeat (refine wpSch_yes (v := ?_) rfl (fun _ _ _ h => h) (by rfl) ?_ ?_; rotate_left; (next => (intro w hSw; (try dsimp only at hSw); obtain ⟨hS1, hS2⟩ := hSw; go_simp; (try with_reducible rfl))); (try simp only [Act.put, List.setIfInBounds_toArray, List.set_cons_zero, List.set_cons_succ])))
        refine wpSch_call rfl (by rfl) (fun K hK => ?_); go_simp
        refine (lppush_any g 49 _ x.N x.O (i : Int) true w3 (HQd.out.ls HLS.out)).mono ?_
        rintro e w4 ⟨rfl, h4⟩
        rw [pushV_no HI.out (HOUT.out HP0.out).1 (HOUT.out HP0.out).2]
        obtain ⟨cs4, hq4, hk4⟩ := HQd.out.lists h4
        have HQ4 := Lib.hid (hq4.seen (mid_yes (s := s) (now := now) H.out.ok HI.out HSS.out HP0.out (by unfold pushN; rw [pushV_no HI.out (HOUT.out HP0.out).1 (HOUT.out HP0.out).2]; exact if_pos ⟨rfl, rfl⟩) (by unfold pushO; exact if_neg (fun e => by cases e.2))))
        have HK4 := Lib.hid (HKd.out.trans hk4); have HBX4 := Lib.hid (HBd.out.keep hk4 (fun e => by have := HLG.out; omega))
        clear h4 hq4 hk4 HQd HKd
        refine hK.out _ _ ⟨HBX4.out.cell 0, trivial⟩ (fun hHeld => ?_)
        clear hK K hHeld HBd
        (try simp only [Act.put, List.setIfInBounds_toArray, List.set_cons_zero, List.set_cons_succ])
        refine wpSch_nil ?_
        go_wp2_with fail
        -- the segment goes in
        obtain ⟨sa, scap, hsv, _⟩ := (HQ4.out.q i HI.out).shape
        have hmq : ((midQ x s now i).F i).q = (x.F i).q := by unfold midQ; dsimp only; rw [upF_at]; exact HPRE.out.1
        rw [hmq] at hsv
        have cv := HQ4.out.seg HI.out
        rw [hsv] at cv
        have hSq := HQ4.out.q i HI.out
        rw [hmq, hsv] at hSq
        have HSQ := Lib.hid hSq; have HSV := Lib.hid hsv
        have hlen : (x.F i).q.length ≤ 100000 := by have := lenQ_le (x := x) HI.out; have := H.out.ok.len; omega
        have HLEN := Lib.hid hlen
        generalize hLL : (x.F i).q.length = LL at *
        have HLL := Lib.hid hLL
        have b0 := HBX4.out.cell 0; have b1 := HBX4.out.cell 1; have b2 := HBX4.out.cell 2; have b3 := HBX4.out.cell 3; have b4 := HBX4.out.cell 4
        simp only [List.getElem?_toArray, List.getElem?_cons_zero, List.getElem?_cons_succ] at b0 b1 b2 b3 b4
        clear hsv hSq hmq hlen hLL
        refine wp_region_late (fun W => W.cell? ⟨g, 9 + i * 5 + 4, none⟩ = some (.slice sa LL scap) ∧ W.cell? ⟨w.heap.size, 0, none⟩ = some (.int .i64 (i : Int)) ∧ W.cell? ⟨w.heap.size, 1, none⟩ = some (.int .u64 yf) ∧ W.cell? ⟨w.heap.size, 2, none⟩ = some (.int .i64 yl) ∧ W.cell? ⟨w.heap.size, 3, none⟩ = some (.int .u64 yt) ∧ W.cell? ⟨w.heap.size, 4, none⟩ = some (.bool ya)) [10] (.yes 0 (.yes 1 (.yes 2 (.yes 3 (.yes 4 (.yes 5 (.one 6 (.one 7 (.yes 8 (.yes 9 (.one 10 .nil))))))))))) (by kernel_rfl) (by kernel_rfl) (by kernel_rfl) (by kernel_rfl) ⟨cv, b0, b1, b2, b3, b4⟩ ?_
        have HQ5 := Lib.hid (HQ4.out.kept (Keep.refl _ w4).drew); have HK5 := Lib.hid HK4.out.drew; have HSQ5 : Hid (SgAt w4.drew _ _) := Lib.hid (HSQ.out.kept (Keep.refl _ w4).drew); have HBX5 := Lib.hid (HBX4.out.keep (Keep.refl (fun _ => False) w4).drew id)
        clear cv b0 b1 b2 b3 b4 HQ4 HK4 HBX4 HSQ
        generalize w4.drew = w5 at *
        (repeat (refine wpSchL_yes (v := ?_) rfl (fun _ _ _ h => h) (by rfl) ?_ ?_; rotate_left; (next => (intro w hSw; (try dsimp only at hSw); obtain ⟨hS0, hS1, hS2, hS3, hS4, hS5⟩ := hSw; go_simp; (try with_reducible rfl))); (try simp only [Act.put, List.setIfInBounds_toArray, List.set_cons_zero, List.set_cons_succ])))
        refine wpSchL_one (wpOneL_call rfl (by rfl) (fun K hK => ?_))
        go_simp
        have kz : Keep (fun _ => False) w5 (w5.alloc (.cells #[.int .i64 (i : Int), .int .u64 yf, .int .i64 yl, .int .u64 yt, .bool ya] 34)) := (Keep.refl _ _).alloc _
        have hnw := Whole.new w5 34 #[.int .i64 (i : Int), .int .u64 yf, .int .i64 yl, .int .u64 yt, .bool ya]
        have HQ6 := Lib.hid (HQ5.out.kept kz); have HK6 := Lib.hid (HK5.out.trans (kz.mono (fun _ h => h.elim))); have HSQ6 := Lib.hid (HSQ5.out.kept kz); have HBX6 := Lib.hid (HBX5.out.keep kz id); have HNW := Lib.hid hnw
        have HLT6 : Hid (w.heap.size ≤ w5.heap.size) := Lib.hid HK5.out.size
        clear HQ5 HK5 HSQ5 HBX5 kz hnw
        refine hK.out _ _ (fun _ => ⟨(HQ6.out.seg HI.out).trans (by rw [HSV.out]), HBX6.out.cell 0, HBX6.out.cell 1, HBX6.out.cell 2, HBX6.out.cell 3, HBX6.out.cell 4⟩) (fun hHeld => ?_)
        clear hK K hHeld
        (try simp only [Act.put, List.setIfInBounds_toArray, List.set_cons_zero, List.set_cons_succ])
        generalize hB6 : w5.heap.size = B6 at *
        generalize w5.alloc _ = w6 at *
        clear hB6
        refine wpSchL_one (wpOneL_call rfl (by rfl) (fun K hK => ?_))
        refine oper_append_sg (.tmp 67) (.tmp 69) 42 rfl i0 Try.underlying42 HINF.out HZ0.out HZ1.out HZ2.out (.slice sa LL scap) (x.F i).q rfl HSQ6.out (by rw [HLL.out]; exact HLEN.out) ⟨B6, 0, none⟩ 1 ⟨(i : Int), yf, yl, yt, ya⟩ rfl (fun j u hu => by
          have := HNW.out.cell j
          rw [List.getElem?_toArray] at this
          rw [Addr.add_lit, Nat.zero_add]
          exact this.trans hu) ?_
        intro v' w7 hsg hk7 hn7
        have hvi : ∀ k, (Value.slice sa LL scap).ownBlock = some k → (v i).ownBlock = some k := fun k e => by rw [HSV.out]; exact e
        have hg7 : ∀ k, (Value.slice sa LL scap).ownBlock = some k → k ≠ g := fun k e e2 => HQ6.out.vg HI.out (by rw [hvi k e, e2])
        have hwB : ∀ k, (Value.slice sa LL scap).ownBlock = some k → k ≠ w.heap.size := fun k e e2 => by have := HOLD.out k (hvi k e); omega
        have hbx7 := HBX6.out.keep hk7 (fun e => hwB _ e rfl)
        have hgw7 := HQ6.out.whole.keep hk7 (fun e => hg7 _ e rfl)
        obtain ⟨a', cap', hv', _⟩ := hsg.shape
        rw [List.length_append, List.length_singleton, HLL.out] at hv'
        have HSG := Lib.hid hsg; have HK7 := Lib.hid hk7; have HN7 := Lib.hid hn7; have HVI := Lib.hid hvi; have HBX7 := Lib.hid hbx7; have HGW7 := Lib.hid hgw7; have HV' := Lib.hid hv'
        have cv7 : w7.cell? ⟨g, 9 + i * 5 + 4, none⟩ = some (.slice sa LL scap) := (hgw7.cell _).trans ((HQ6.out.c.f i HI.out 4 (by omega)).trans (congrArg some HSV.out))
        have cf7 := hgw7.free (9 + i * 5 + 4)
        clear hsg hk7 hn7 hvi hg7 hwB hbx7 hgw7 hv'
        refine hK.out _ _ (fun _ => ⟨cv7, HBX7.out.cell 0, HBX7.out.cell 1, HBX7.out.cell 2, HBX7.out.cell 3, HBX7.out.cell 4⟩) (fun hHeld => ?_)
        clear hK K hHeld
        rw [HV'.out]
        (try simp only [Act.put, List.setIfInBounds_toArray, List.set_cons_zero, List.set_cons_succ])
        (repeat (refine wpSchL_yes (v := ?_) rfl (fun _ _ _ h => h) (by rfl) ?_ ?_; rotate_left; (next => (intro w hSw; (try dsimp only at hSw); obtain ⟨hS0, hS1, hS2, hS3, hS4, hS5⟩ := hSw; go_simp; (try with_reducible rfl))); (try simp only [Act.put, List.setIfInBounds_toArray, List.set_cons_zero, List.set_cons_succ])))
        refine wpSchL_one (wpOneL_call rfl (by rfl) (fun K hK => ?_))
        go_simp
        rw [← HV'.out]
        refine hK.out _ _ (fun h => absurd h (by decide)) (fun hHeld => ?_)
        clear hK K hHeld
        refine wpSchL_nil ?_
        (try simp only [Act.put, List.setIfInBounds_toArray, List.set_cons_zero, List.set_cons_succ])
        go_wp2
        go_end0
        refine ⟨⟨_, rfl⟩, _, _, ⟨(FQw.segs HQ6.out HI.out (v' := v') (f := takeF x s now) (b := true) (R := fun k => k = g ∨ (v i).ownBlock = some k) (HGW7.out.put (9 + i * 5 + 4) v') ((HK7.out.mono (fun k e => .inr (HVI.out k e))).setCell (p := ⟨g, 9 + i * 5 + 4, none⟩) (.inl (.inl rfl)) v') (fun k e => e) ?_ ?_ ?_).seen (mid_take H.out.ok HI.out HSS.out), HOKT.out, ks_take H.out.ok H.out.ks HI.out HSS.out⟩, ?_, ?_⟩
        · refine HQ6.out.c.set HI.out (k := 4) (by omega) rfl (fun j hj hne => ?_)
          unfold midQ
          dsimp only
          rw [upF_at, upF_at]
          match j, hj with
          | 0, _ => rfl
          | 1, _ => rfl
          | 2, _ => rfl
          | 3, _ => rfl
          | 4, _ => exact absurd rfl hne
        · have : (takeF x s now).q = (x.F i).q ++ [⟨(i : Int), yf, yl, yt, ya⟩] := by rw [← HPRE.out.1]; exact congrArg (fun z => (preF x s now).q ++ [z]) HYE.out
          rw [this]
          exact HSG.out.keep ((Keep.refl (fun k => k = g) w7).setCell (p := ⟨g, 9 + i * 5 + 4, none⟩) (.inl rfl) v') (fun k e e2 => by
            rcases HN7.out k e with h | h
            · exact HQ6.out.vg HI.out (by rw [HVI.out k h, e2])
            · have := HQ6.out.whole.lt; omega)
        · intro k e
          exact (HN7.out k e).imp (HVI.out k) id
        · exact ((HK6.out.mono (fun k e => .inl e)).trans (HK7.out.mono (fun k e => .inr (HVI.out k e)))).setCell (p := ⟨g, 9 + i * 5 + 4, none⟩) (.inl (.inl rfl)) v'
        · intro j k hj e
          by_cases e1 : j = i
          · subst e1
            rw [upF_at] at e
            rcases HN7.out k e with h | h
            · exact .inl (HVI.out k h)
            · have := HK6.out.size; exact .inr (by omega)
          · rw [upF_ne _ _ e1] at e; exact .inl e
      · have hz : (P == 0) = false := by simpa using hp0
        have hp1 : (x.F i).p ≠ 0 := fun e => hp0 (HP.out.symm.trans e)
        have HQ4 := Lib.hid (HQ2.out.seen (mid_no (s := s) (now := now) H.out.ok HI.out HSS.out hp1)); have HK4 := HK2; have HBX4 := HBX2
        clear hp0 hp1 HQ2 HK2 HBX2
        go_wp2_with fail
        obtain ⟨w4, hw4⟩ : ∃ w4, w4 = w2 := ⟨_, rfl⟩
        rw [← hw4] at HQ4 HK4 HBX4 ⊢
        clear hw4
        -- the segment goes in
        obtain ⟨sa, scap, hsv, _⟩ := (HQ4.out.q i HI.out).shape
        have hmq : ((midQ x s now i).F i).q = (x.F i).q := by unfold midQ; dsimp only; rw [upF_at]; exact HPRE.out.1
        rw [hmq] at hsv
        have cv := HQ4.out.seg HI.out
        rw [hsv] at cv
        have hSq := HQ4.out.q i HI.out
        rw [hmq, hsv] at hSq
        have HSQ := Lib.hid hSq; have HSV := Lib.hid hsv
        have hlen : (x.F i).q.length ≤ 100000 := by have := lenQ_le (x := x) HI.out; have := H.out.ok.len; omega
        have HLEN := Lib.hid hlen
        generalize hLL : (x.F i).q.length = LL at *
        have HLL := Lib.hid hLL
        have b0 := HBX4.out.cell 0; have b1 := HBX4.out.cell 1; have b2 := HBX4.out.cell 2; have b3 := HBX4.out.cell 3; have b4 := HBX4.out.cell 4
        simp only [List.getElem?_toArray, List.getElem?_cons_zero, List.getElem?_cons_succ] at b0 b1 b2 b3 b4
        clear hsv hSq hmq hlen hLL
        refine wp_region_late (fun W => W.cell? ⟨g, 9 + i * 5 + 4, none⟩ = some (.slice sa LL scap) ∧ W.cell? ⟨w.heap.size, 0, none⟩ = some (.int .i64 (i : Int)) ∧ W.cell? ⟨w.heap.size, 1, none⟩ = some (.int .u64 yf) ∧ W.cell? ⟨w.heap.size, 2, none⟩ = some (.int .i64 yl) ∧ W.cell? ⟨w.heap.size, 3, none⟩ = some (.int .u64 yt) ∧ W.cell? ⟨w.heap.size, 4, none⟩ = some (.bool ya)) [10] (.yes 0 (.yes 1 (.yes 2 (.yes 3 (.yes 4 (.yes 5 (.one 6 (.one 7 (.yes 8 (.yes 9 (.one 10 .nil))))))))))) (by kernel_rfl) (by kernel_rfl) (by kernel_rfl) (by kernel_rfl) ⟨cv, b0, b1, b2, b3, b4⟩ ?_
        have HQ5 := Lib.hid (HQ4.out.kept (Keep.refl _ w4).drew); have HK5 := Lib.hid HK4.out.drew; have HSQ5 : Hid (SgAt w4.drew _ _) := Lib.hid (HSQ.out.kept (Keep.refl _ w4).drew); have HBX5 := Lib.hid (HBX4.out.keep (Keep.refl (fun _ => False) w4).drew id)
        clear cv b0 b1 b2 b3 b4 HQ4 HK4 HBX4 HSQ
        generalize w4.drew = w5 at *
        (repeat (refine wpSchL_yes (v := ?_) rfl (fun _ _ _ h => h) (by rfl) ?_ ?_; rotate_left; (next => (intro w hSw; (try dsimp only at hSw); obtain ⟨hS0, hS1, hS2, hS3, hS4, hS5⟩ := hSw; go_simp; (try with_reducible rfl))); (try simp only [Act.put, List.setIfInBounds_toArray, List.set_cons_zero, List.set_cons_succ])))
        refine wpSchL_one (wpOneL_call rfl (by rfl) (fun K hK => ?_))
        go_simp
        have kz : Keep (fun _ => False) w5 (w5.alloc (.cells #[.int .i64 (i : Int), .int .u64 yf, .int .i64 yl, .int .u64 yt, .bool ya] 34)) := (Keep.refl _ _).alloc _
        have hnw := Whole.new w5 34 #[.int .i64 (i : Int), .int .u64 yf, .int .i64 yl, .int .u64 yt, .bool ya]
        have HQ6 := Lib.hid (HQ5.out.kept kz); have HK6 := Lib.hid (HK5.out.trans (kz.mono (fun _ h => h.elim))); have HSQ6 := Lib.hid (HSQ5.out.kept kz); have HBX6 := Lib.hid (HBX5.out.keep kz id); have HNW := Lib.hid hnw
        have HLT6 : Hid (w.heap.size ≤ w5.heap.size) := Lib.hid HK5.out.size
        clear HQ5 HK5 HSQ5 HBX5 kz hnw
        refine hK.out _ _ (fun _ => ⟨(HQ6.out.seg HI.out).trans (by rw [HSV.out]), HBX6.out.cell 0, HBX6.out.cell 1, HBX6.out.cell 2, HBX6.out.cell 3, HBX6.out.cell 4⟩) (fun hHeld => ?_)
        clear hK K hHeld
        (try simp only [Act.put, List.setIfInBounds_toArray, List.set_cons_zero, List.set_cons_succ])
        generalize hB6 : w5.heap.size = B6 at *
        generalize w5.alloc _ = w6 at *
        clear hB6
        refine wpSchL_one (wpOneL_call rfl (by rfl) (fun K hK => ?_))
        refine oper_append_sg (.tmp 67) (.tmp 69) 42 rfl i0 Try.underlying42 HINF.out HZ0.out HZ1.out HZ2.out (.slice sa LL scap) (x.F i).q rfl HSQ6.out (by rw [HLL.out]; exact HLEN.out) ⟨B6, 0, none⟩ 1 ⟨(i : Int), yf, yl, yt, ya⟩ rfl (fun j u hu => by
          have := HNW.out.cell j
          rw [List.getElem?_toArray] at this
          rw [Addr.add_lit, Nat.zero_add]
          exact this.trans hu) ?_
        intro v' w7 hsg hk7 hn7
        have hvi : ∀ k, (Value.slice sa LL scap).ownBlock = some k → (v i).ownBlock = some k := fun k e => by rw [HSV.out]; exact e
        have hg7 : ∀ k, (Value.slice sa LL scap).ownBlock = some k → k ≠ g := fun k e e2 => HQ6.out.vg HI.out (by rw [hvi k e, e2])
        have hwB : ∀ k, (Value.slice sa LL scap).ownBlock = some k → k ≠ w.heap.size := fun k e e2 => by have := HOLD.out k (hvi k e); omega
        have hbx7 := HBX6.out.keep hk7 (fun e => hwB _ e rfl)
        have hgw7 := HQ6.out.whole.keep hk7 (fun e => hg7 _ e rfl)
        obtain ⟨a', cap', hv', _⟩ := hsg.shape
        rw [List.length_append, List.length_singleton, HLL.out] at hv'
        have HSG := Lib.hid hsg; have HK7 := Lib.hid hk7; have HN7 := Lib.hid hn7; have HVI := Lib.hid hvi; have HBX7 := Lib.hid hbx7; have HGW7 := Lib.hid hgw7; have HV' := Lib.hid hv'
        have cv7 : w7.cell? ⟨g, 9 + i * 5 + 4, none⟩ = some (.slice sa LL scap) := (hgw7.cell _).trans ((HQ6.out.c.f i HI.out 4 (by omega)).trans (congrArg some HSV.out))
        have cf7 := hgw7.free (9 + i * 5 + 4)
        clear hsg hk7 hn7 hvi hg7 hwB hbx7 hgw7 hv'
        refine hK.out _ _ (fun _ => ⟨cv7, HBX7.out.cell 0, HBX7.out.cell 1, HBX7.out.cell 2, HBX7.out.cell 3, HBX7.out.cell 4⟩) (fun hHeld => ?_)
        clear hK K hHeld
        rw [HV'.out]
        (try simp only [Act.put, List.setIfInBounds_toArray, List.set_cons_zero, List.set_cons_succ])
        (repeat (refine wpSchL_yes (v := ?_) rfl (fun _ _ _ h => h) (by rfl) ?_ ?_; rotate_left; (next => (intro w hSw; (try dsimp only at hSw); obtain ⟨hS0, hS1, hS2, hS3, hS4, hS5⟩ := hSw; go_simp; (try with_reducible rfl))); (try simp only [Act.put, List.setIfInBounds_toArray, List.set_cons_zero, List.set_cons_succ])))
        refine wpSchL_one (wpOneL_call rfl (by rfl) (fun K hK => ?_))
        go_simp
        rw [← HV'.out]
        refine hK.out _ _ (fun h => absurd h (by decide)) (fun hHeld => ?_)
        clear hK K hHeld
        refine wpSchL_nil ?_
        (try simp only [Act.put, List.setIfInBounds_toArray, List.set_cons_zero, List.set_cons_succ])
        go_wp2
        go_end0
        refine ⟨⟨_, rfl⟩, _, _, ⟨(FQw.segs HQ6.out HI.out (v' := v') (f := takeF x s now) (b := true) (R := fun k => k = g ∨ (v i).ownBlock = some k) (HGW7.out.put (9 + i * 5 + 4) v') ((HK7.out.mono (fun k e => .inr (HVI.out k e))).setCell (p := ⟨g, 9 + i * 5 + 4, none⟩) (.inl (.inl rfl)) v') (fun k e => e) ?_ ?_ ?_).seen (mid_take H.out.ok HI.out HSS.out), HOKT.out, ks_take H.out.ok H.out.ks HI.out HSS.out⟩, ?_, ?_⟩
        · refine HQ6.out.c.set HI.out (k := 4) (by omega) rfl (fun j hj hne => ?_)
          unfold midQ
          dsimp only
          rw [upF_at, upF_at]
          match j, hj with
          | 0, _ => rfl
          | 1, _ => rfl
          | 2, _ => rfl
          | 3, _ => rfl
          | 4, _ => exact absurd rfl hne
        · have : (takeF x s now).q = (x.F i).q ++ [⟨(i : Int), yf, yl, yt, ya⟩] := by rw [← HPRE.out.1]; exact congrArg (fun z => (preF x s now).q ++ [z]) HYE.out
          rw [this]
          exact HSG.out.keep ((Keep.refl (fun k => k = g) w7).setCell (p := ⟨g, 9 + i * 5 + 4, none⟩) (.inl rfl) v') (fun k e e2 => by
            rcases HN7.out k e with h | h
            · exact HQ6.out.vg HI.out (by rw [HVI.out k h, e2])
            · have := HQ6.out.whole.lt; omega)
        · intro k e
          exact (HN7.out k e).imp (HVI.out k) id
        · exact ((HK6.out.mono (fun k e => .inl e)).trans (HK7.out.mono (fun k e => .inr (HVI.out k e)))).setCell (p := ⟨g, 9 + i * 5 + 4, none⟩) (.inl (.inl rfl)) v'
        · intro j k hj e
          by_cases e1 : j = i
          · subst e1
            rw [upF_at] at e
            rcases HN7.out k e with h | h
            · exact .inl (HVI.out k h)
            · have := HK6.out.size; exact .inr (by omega)
          · rw [upF_ne _ _ e1] at e; exact .inl e
  | true =>
    rw [ht] at ct
    have HT0 := Lib.hid ht
    clear ht
    obtain ⟨b, hb⟩ : ∃ b, (decide (placeK x ks i = 0) && decide (addS (x.F i).u 40000000 ≤ now)) = b := ⟨_, rfl⟩
    have HB := Lib.hid hb
    clear hb
    have b0 := HBX0.out.cell 0
    simp only [List.getElem?_toArray, List.getElem?_cons_zero, List.getElem?_cons_succ] at b0
    go_wp2_with fail
    clear b0
    refine (HQ0.out.rested H.out.ok.ls HI.out HUN.out.2 HUN.out.1 40000000 now ⟨by decide, by decide⟩ HB.out).mono ?_
    rintro e w1 ⟨rfl, k1⟩
    have HQ9 := Lib.hid (HQ0.out.kept k1); have HK9 := Lib.hid (HK0.out.trans (k1.mono (fun _ h => h.elim))); have HBX9 := Lib.hid (HBX0.out.keep k1 id)
    have hprf : preF x s now = if b = true then { x.F i with c := max (x.F i).c x.c.q } else x.F i := by
      unfold preF
      rw [show s.s.toNat = i by rw [HSS.out]; rfl, if_pos HT0.out, ← HB.out, placeK_is H.out.ok H.out.ks HI.out, if_pos HT0.out]
      simp only [Bool.and_eq_true, decide_eq_true_eq]
    have HPRF := Lib.hid hprf
    clear k1 HQ0 HK0 HBX0 hprf ct cc f0 f1 cf
    cases b with
    | false =>
      have HQ1 := Lib.hid (HQ9.out.seen (y := preQ x s now i) (by
        have := pre_three (s := s) (now := now) (f := x.F i) (b := x.T i) H.out.ok HI.out HSS.out (by rw [HPRF.out]; rfl) (by rw [HPRF.out]; rfl) (by rw [HPRF.out]; rfl) (by rw [HPRF.out]; rfl) HT0.out
        rwa [upF_self, upF_self] at this))
      have HK1 := HK9; have HBX1 := HBX9
      clear HQ9 HK9 HBX9
      have b0 := HBX1.out.cell 0
      simp only [List.getElem?_toArray, List.getElem?_cons_zero, List.getElem?_cons_succ] at b0
      go_wp2_with fail
      refine (HQ1.out.place HLS.out HI.out (by rw [show ((preQ x s now i).F i).n = (x.F i).n by unfold preQ; dsimp only; rw [upF_at]; exact HPRE.out.2.1]; exact HUN.out.2) HPL.out).mono ?_
      rintro e w2 ⟨rfl, k2⟩
      have HQ2 := Lib.hid (HQ1.out.kept k2); have HK2 := Lib.hid (HK1.out.trans (k2.mono (fun _ h => h.elim))); have HBX2 := Lib.hid (HBX1.out.keep k2 id)
      clear k2 HQ1 HK1 HBX1 b0
      by_cases hp0 : P = 0
      · subst hp0
        have HP0 : Hid ((x.F i).p = 0) := Lib.hid HP.out
        have c3 := HQ2.out.since HI.out
        have f3 := HQ2.out.whole.free (9 + i * 5 + 3)
        have HQ3 := Lib.hid (HQ2.out.set HI.out (k := 3) (by omega) (u := .int .u64 0) (f := { preF x s now with u := 0 }) (b := true) rfl (fun j hj hne => by
          unfold preQ
          dsimp only
          rw [upF_at, upF_at]
          match j, hj with
          | 0, _ => rfl
          | 1, _ => rfl
          | 2, _ => rfl
          | 3, _ => exact absurd rfl hne
          | 4, _ => rfl) (by unfold preQ; dsimp only; rw [upF_at]))
        have HK3 := Lib.hid (HK2.out.setCell (p := ⟨g, 9 + i * 5 + 3, none⟩) (.inl rfl) (.int .u64 0))
        have HBX3 := Lib.hid (HBX2.out.keep ((Keep.refl (fun k => k = g) w2).setCell (p := ⟨g, 9 + i * 5 + 3, none⟩) (.inl rfl) (.int .u64 0)) (fun e => by have := HLG.out; omega))
        clear HQ2 HK2 HBX2
        go_wp2_with fail
        have b0 := HBX3.out.cell 0
        simp only [List.getElem?_toArray, List.getElem?_cons_zero, List.getElem?_cons_succ] at b0
        refine wp_region_sch (fun W => W.cell? ⟨w.heap.size, 0, none⟩ = some (.int .i64 (i : Int)) ∧ True) [(true, 0), (true, 1), (true, 2), (true, 3), (true, 4), (false, 5)] (by kernel_rfl) (by kernel_rfl) (by kernel_rfl) (by kernel_rfl) ⟨b0, trivial⟩ ?_
        have HQd := Lib.hid (HQ3.out.kept (Keep.refl _ _).drew); have HKd := Lib.hid HK3.out.drew; have HBd := Lib.hid (HBX3.out.keep (Keep.refl (fun _ => False) _).drew id)
        clear HQ3 HK3 HBX3 b0 c3 f3
        generalize World.drew _ = w3 at *
        (repeat (refine wpSch_yes (v := ?_) rfl (fun _ _ _ h => h) (by rfl) ?_ ?_; rotate_left; (next => (intro w hSw; (try dsimp only at hSw); obtain ⟨hS1, hS2⟩ := hSw; go_simp; (try with_reducible rfl))); (try simp only [Act.put, List.setIfInBounds_toArray, List.set_cons_zero, List.set_cons_succ])))
        refine wpSch_call rfl (by rfl) (fun K hK => ?_); go_simp
        refine (lppush_any g 49 _ x.N x.O (i : Int) true w3 (HQd.out.ls HLS.out)).mono ?_
        rintro e w4 ⟨rfl, h4⟩
        rw [pushV_no HI.out (HOUT.out HP0.out).1 (HOUT.out HP0.out).2]
        obtain ⟨cs4, hq4, hk4⟩ := HQd.out.lists h4
        have HQ4 := Lib.hid (hq4.seen (mid_yes (s := s) (now := now) H.out.ok HI.out HSS.out HP0.out (by unfold pushN; rw [pushV_no HI.out (HOUT.out HP0.out).1 (HOUT.out HP0.out).2]; exact if_pos ⟨rfl, rfl⟩) (by unfold pushO; exact if_neg (fun e => by cases e.2))))
        have HK4 := Lib.hid (HKd.out.trans hk4); have HBX4 := Lib.hid (HBd.out.keep hk4 (fun e => by have := HLG.out; omega))
        clear h4 hq4 hk4 HQd HKd
        refine hK.out _ _ ⟨HBX4.out.cell 0, trivial⟩ (fun hHeld => ?_)
        clear hK K hHeld HBd
        (try simp only [Act.put, List.setIfInBounds_toArray, List.set_cons_zero, List.set_cons_succ])
        refine wpSch_nil ?_
        go_wp2_with fail
        -- the segment goes in
        obtain ⟨sa, scap, hsv, _⟩ := (HQ4.out.q i HI.out).shape
        have hmq : ((midQ x s now i).F i).q = (x.F i).q := by unfold midQ; dsimp only; rw [upF_at]; exact HPRE.out.1
        rw [hmq] at hsv
        have cv := HQ4.out.seg HI.out
        rw [hsv] at cv
        have hSq := HQ4.out.q i HI.out
        rw [hmq, hsv] at hSq
        have HSQ := Lib.hid hSq; have HSV := Lib.hid hsv
        have hlen : (x.F i).q.length ≤ 100000 := by have := lenQ_le (x := x) HI.out; have := H.out.ok.len; omega
        have HLEN := Lib.hid hlen
        generalize hLL : (x.F i).q.length = LL at *
        have HLL := Lib.hid hLL
        have b0 := HBX4.out.cell 0; have b1 := HBX4.out.cell 1; have b2 := HBX4.out.cell 2; have b3 := HBX4.out.cell 3; have b4 := HBX4.out.cell 4
        simp only [List.getElem?_toArray, List.getElem?_cons_zero, List.getElem?_cons_succ] at b0 b1 b2 b3 b4
        clear hsv hSq hmq hlen hLL
        refine wp_region_late (fun W => W.cell? ⟨g, 9 + i * 5 + 4, none⟩ = some (.slice sa LL scap) ∧ W.cell? ⟨w.heap.size, 0, none⟩ = some (.int .i64 (i : Int)) ∧ W.cell? ⟨w.heap.size, 1, none⟩ = some (.int .u64 yf) ∧ W.cell? ⟨w.heap.size, 2, none⟩ = some (.int .i64 yl) ∧ W.cell? ⟨w.heap.size, 3, none⟩ = some (.int .u64 yt) ∧ W.cell? ⟨w.heap.size, 4, none⟩ = some (.bool ya)) [10] (.yes 0 (.yes 1 (.yes 2 (.yes 3 (.yes 4 (.yes 5 (.one 6 (.one 7 (.yes 8 (.yes 9 (.one 10 .nil))))))))))) (by kernel_rfl) (by kernel_rfl) (by kernel_rfl) (by kernel_rfl) ⟨cv, b0, b1, b2, b3, b4⟩ ?_
        have HQ5 := Lib.hid (HQ4.out.kept (Keep.refl _ w4).drew); have HK5 := Lib.hid HK4.out.drew; have HSQ5 : Hid (SgAt w4.drew _ _) := Lib.hid (HSQ.out.kept (Keep.refl _ w4).drew); have HBX5 := Lib.hid (HBX4.out.keep (Keep.refl (fun _ => False) w4).drew id)
        clear cv b0 b1 b2 b3 b4 HQ4 HK4 HBX4 HSQ
        generalize w4.drew = w5 at *
        (repeat (refine wpSchL_yes (v := ?_) rfl (fun _ _ _ h => h) (by rfl) ?_ ?_; rotate_left; (next => (intro w hSw; (try dsimp only at hSw); obtain ⟨hS0, hS1, hS2, hS3, hS4, hS5⟩ := hSw; go_simp; (try with_reducible rfl))); (try simp only [Act.put, List.setIfInBounds_toArray, List.set_cons_zero, List.set_cons_succ])))
        refine wpSchL_one (wpOneL_call rfl (by rfl) (fun K hK => ?_))
        go_simp
        have kz : Keep (fun _ => False) w5 (w5.alloc (.cells #[.int .i64 (i : Int), .int .u64 yf, .int .i64 yl, .int .u64 yt, .bool ya] 34)) := (Keep.refl _ _).alloc _
        have hnw := Whole.new w5 34 #[.int .i64 (i : Int), .int .u64 yf, .int .i64 yl, .int .u64 yt, .bool ya]
        have HQ6 := Lib.hid (HQ5.out.kept kz); have HK6 := Lib.hid (HK5.out.trans (kz.mono (fun _ h => h.elim))); have HSQ6 := Lib.hid (HSQ5.out.kept kz); have HBX6 := Lib.hid (HBX5.out.keep kz id); have HNW := Lib.hid hnw
        have HLT6 : Hid (w.heap.size ≤ w5.heap.size) := Lib.hid HK5.out.size
        clear HQ5 HK5 HSQ5 HBX5 kz hnw
        refine hK.out _ _ (fun _ => ⟨(HQ6.out.seg HI.out).trans (by rw [HSV.out]), HBX6.out.cell 0, HBX6.out.cell 1, HBX6.out.cell 2, HBX6.out.cell 3, HBX6.out.cell 4⟩) (fun hHeld => ?_)
        clear hK K hHeld
        (try simp only [Act.put, List.setIfInBounds_toArray, List.set_cons_zero, List.set_cons_succ])
        generalize hB6 : w5.heap.size = B6 at *
        generalize w5.alloc _ = w6 at *
        clear hB6
        refine wpSchL_one (wpOneL_call rfl (by rfl) (fun K hK => ?_))
        refine oper_append_sg (.tmp 67) (.tmp 69) 42 rfl i0 Try.underlying42 HINF.out HZ0.out HZ1.out HZ2.out (.slice sa LL scap) (x.F i).q rfl HSQ6.out (by rw [HLL.out]; exact HLEN.out) ⟨B6, 0, none⟩ 1 ⟨(i : Int), yf, yl, yt, ya⟩ rfl (fun j u hu => by
          have := HNW.out.cell j
          rw [List.getElem?_toArray] at this
          rw [Addr.add_lit, Nat.zero_add]
          exact this.trans hu) ?_
        intro v' w7 hsg hk7 hn7
        have hvi : ∀ k, (Value.slice sa LL scap).ownBlock = some k → (v i).ownBlock = some k := fun k e => by rw [HSV.out]; exact e
        have hg7 : ∀ k, (Value.slice sa LL scap).ownBlock = some k → k ≠ g := fun k e e2 => HQ6.out.vg HI.out (by rw [hvi k e, e2])
        have hwB : ∀ k, (Value.slice sa LL scap).ownBlock = some k → k ≠ w.heap.size := fun k e e2 => by have := HOLD.out k (hvi k e); omega
        have hbx7 := HBX6.out.keep hk7 (fun e => hwB _ e rfl)
        have hgw7 := HQ6.out.whole.keep hk7 (fun e => hg7 _ e rfl)
        obtain ⟨a', cap', hv', _⟩ := hsg.shape
        rw [List.length_append, List.length_singleton, HLL.out] at hv'
        have HSG := Lib.hid hsg; have HK7 := Lib.hid hk7; have HN7 := Lib.hid hn7; have HVI := Lib.hid hvi; have HBX7 := Lib.hid hbx7; have HGW7 := Lib.hid hgw7; have HV' := Lib.hid hv'
        have cv7 : w7.cell? ⟨g, 9 + i * 5 + 4, none⟩ = some (.slice sa LL scap) := (hgw7.cell _).trans ((HQ6.out.c.f i HI.out 4 (by omega)).trans (congrArg some HSV.out))
        have cf7 := hgw7.free (9 + i * 5 + 4)
        clear hsg hk7 hn7 hvi hg7 hwB hbx7 hgw7 hv'
        refine hK.out _ _ (fun _ => ⟨cv7, HBX7.out.cell 0, HBX7.out.cell 1, HBX7.out.cell 2, HBX7.out.cell 3, HBX7.out.cell 4⟩) (fun hHeld => ?_)
        clear hK K hHeld
        rw [HV'.out]
        (try simp only [Act.put, List.setIfInBounds_toArray, List.set_cons_zero, List.set_cons_succ])
        (repeat (refine wpSchL_yes (v := ?_) rfl (fun _ _ _ h => h) (by rfl) ?_ ?_; rotate_left; (next => (intro w hSw; (try dsimp only at hSw); obtain ⟨hS0, hS1, hS2, hS3, hS4, hS5⟩ := hSw; go_simp; (try with_reducible rfl))); (try simp only [Act.put, List.setIfInBounds_toArray, List.set_cons_zero, List.set_cons_succ])))
        refine wpSchL_one (wpOneL_call rfl (by rfl) (fun K hK => ?_))
        go_simp
        rw [← HV'.out]
        refine hK.out _ _ (fun h => absurd h (by decide)) (fun hHeld => ?_)
        clear hK K hHeld
        refine wpSchL_nil ?_
        (try simp only [Act.put, List.setIfInBounds_toArray, List.set_cons_zero, List.set_cons_succ])
        go_wp2
        go_end0
        refine ⟨⟨_, rfl⟩, _, _, ⟨(FQw.segs HQ6.out HI.out (v' := v') (f := takeF x s now) (b := true) (R := fun k => k = g ∨ (v i).ownBlock = some k) (HGW7.out.put (9 + i * 5 + 4) v') ((HK7.out.mono (fun k e => .inr (HVI.out k e))).setCell (p := ⟨g, 9 + i * 5 + 4, none⟩) (.inl (.inl rfl)) v') (fun k e => e) ?_ ?_ ?_).seen (mid_take H.out.ok HI.out HSS.out), HOKT.out, ks_take H.out.ok H.out.ks HI.out HSS.out⟩, ?_, ?_⟩
        · refine HQ6.out.c.set HI.out (k := 4) (by omega) rfl (fun j hj hne => ?_)
          unfold midQ
          dsimp only
          rw [upF_at, upF_at]
          match j, hj with
          | 0, _ => rfl
          | 1, _ => rfl
          | 2, _ => rfl
          | 3, _ => rfl
          | 4, _ => exact absurd rfl hne
        · have : (takeF x s now).q = (x.F i).q ++ [⟨(i : Int), yf, yl, yt, ya⟩] := by rw [← HPRE.out.1]; exact congrArg (fun z => (preF x s now).q ++ [z]) HYE.out
          rw [this]
          exact HSG.out.keep ((Keep.refl (fun k => k = g) w7).setCell (p := ⟨g, 9 + i * 5 + 4, none⟩) (.inl rfl) v') (fun k e e2 => by
            rcases HN7.out k e with h | h
            · exact HQ6.out.vg HI.out (by rw [HVI.out k h, e2])
            · have := HQ6.out.whole.lt; omega)
        · intro k e
          exact (HN7.out k e).imp (HVI.out k) id
        · exact ((HK6.out.mono (fun k e => .inl e)).trans (HK7.out.mono (fun k e => .inr (HVI.out k e)))).setCell (p := ⟨g, 9 + i * 5 + 4, none⟩) (.inl (.inl rfl)) v'
        · intro j k hj e
          by_cases e1 : j = i
          · subst e1
            rw [upF_at] at e
            rcases HN7.out k e with h | h
            · exact .inl (HVI.out k h)
            · have := HK6.out.size; exact .inr (by omega)
          · rw [upF_ne _ _ e1] at e; exact .inl e
      · have hz : (P == 0) = false := by simpa using hp0
        have hp1 : (x.F i).p ≠ 0 := fun e => hp0 (HP.out.symm.trans e)
        have HQ4 := Lib.hid (HQ2.out.seen (mid_no (s := s) (now := now) H.out.ok HI.out HSS.out hp1)); have HK4 := HK2; have HBX4 := HBX2
        clear hp0 hp1 HQ2 HK2 HBX2
        go_wp2_with fail
        obtain ⟨w4, hw4⟩ : ∃ w4, w4 = w2 := ⟨_, rfl⟩
        rw [← hw4] at HQ4 HK4 HBX4 ⊢
        clear hw4
        -- the segment goes in
        obtain ⟨sa, scap, hsv, _⟩ := (HQ4.out.q i HI.out).shape
        have hmq : ((midQ x s now i).F i).q = (x.F i).q := by unfold midQ; dsimp only; rw [upF_at]; exact HPRE.out.1
        rw [hmq] at hsv
        have cv := HQ4.out.seg HI.out
        rw [hsv] at cv
        have hSq := HQ4.out.q i HI.out
        rw [hmq, hsv] at hSq
        have HSQ := Lib.hid hSq; have HSV := Lib.hid hsv
        have hlen : (x.F i).q.length ≤ 100000 := by have := lenQ_le (x := x) HI.out; have := H.out.ok.len; omega
        have HLEN := Lib.hid hlen
        generalize hLL : (x.F i).q.length = LL at *
        have HLL := Lib.hid hLL
        have b0 := HBX4.out.cell 0; have b1 := HBX4.out.cell 1; have b2 := HBX4.out.cell 2; have b3 := HBX4.out.cell 3; have b4 := HBX4.out.cell 4
        simp only [List.getElem?_toArray, List.getElem?_cons_zero, List.getElem?_cons_succ] at b0 b1 b2 b3 b4
        clear hsv hSq hmq hlen hLL
        refine wp_region_late (fun W => W.cell? ⟨g, 9 + i * 5 + 4, none⟩ = some (.slice sa LL scap) ∧ W.cell? ⟨w.heap.size, 0, none⟩ = some (.int .i64 (i : Int)) ∧ W.cell? ⟨w.heap.size, 1, none⟩ = some (.int .u64 yf) ∧ W.cell? ⟨w.heap.size, 2, none⟩ = some (.int .i64 yl) ∧ W.cell? ⟨w.heap.size, 3, none⟩ = some (.int .u64 yt) ∧ W.cell? ⟨w.heap.size, 4, none⟩ = some (.bool ya)) [10] (.yes 0 (.yes 1 (.yes 2 (.yes 3 (.yes 4 (.yes 5 (.one 6 (.one 7 (.yes 8 (.yes 9 (.one 10 .nil))))))))))) (by kernel_rfl) (by kernel_rfl) (by kernel_rfl) (by kernel_rfl) ⟨cv, b0, b1, b2, b3, b4⟩ ?_
        have HQ5 := Lib.hid (HQ4.out.kept (Keep.refl _ w4).drew); have HK5 := Lib.hid HK4.out.drew; have HSQ5 : Hid (SgAt w4.drew _ _) := Lib.hid (HSQ.out.kept (Keep.refl _ w4).drew); have HBX5 := Lib.hid (HBX4.out.keep (Keep.refl (fun _ => False) w4).drew id)
        clear cv b0 b1 b2 b3 b4 HQ4 HK4 HBX4 HSQ
        generalize w4.drew = w5 at *
        (repeat (refine wpSchL_yes (v := ?_) rfl (fun _ _ _ h => h) (by rfl) ?_ ?_; rotate_left; (next => (intro w hSw; (try dsimp only at hSw); obtain ⟨hS0, hS1, hS2, hS3, hS4, hS5⟩ := hSw; go_simp; (try with_reducible rfl))); (try simp only [Act.put, List.setIfInBounds_toArray, List.set_cons_zero, List.set_cons_succ])))
        refine wpSchL_one (wpOneL_call rfl (by rfl) (fun K hK => ?_))
        go_simp
        have kz : Keep (fun _ => False) w5 (w5.alloc (.cells #[.int .i64 (i : Int), .int .u64 yf, .int .i64 yl, .int .u64 yt, .bool ya] 34)) := (Keep.refl _ _).alloc _
        have hnw := Whole.new w5 34 #[.int .i64 (i : Int), .int .u64 yf, .int .i64 yl, .int .u64 yt, .bool ya]
        have HQ6 := Lib.hid (HQ5.out.kept kz); have HK6 := Lib.hid (HK5.out.trans (kz.mono (fun _ h => h.elim))); have HSQ6 := Lib.hid (HSQ5.out.kept kz); have HBX6 := Lib.hid (HBX5.out.keep kz id); have HNW := Lib.hid hnw
        have HLT6 : Hid (w.heap.size ≤ w5.heap.size) := Lib.hid HK5.out.size
        clear HQ5 HK5 HSQ5 HBX5 kz hnw
        refine hK.out _ _ (fun _ => ⟨(HQ6.out.seg HI.out).trans (by rw [HSV.out]), HBX6.out.cell 0, HBX6.out.cell 1, HBX6.out.cell 2, HBX6.out.cell 3, HBX6.out.cell 4⟩) (fun hHeld => ?_)
        clear hK K hHeld
        (try simp only [Act.put, List.setIfInBounds_toArray, List.set_cons_zero, List.set_cons_succ])
        generalize hB6 : w5.heap.size = B6 at *
        generalize w5.alloc _ = w6 at *
        clear hB6
        refine wpSchL_one (wpOneL_call rfl (by rfl) (fun K hK => ?_))
        refine oper_append_sg (.tmp 67) (.tmp 69) 42 rfl i0 Try.underlying42 HINF.out HZ0.out HZ1.out HZ2.out (.slice sa LL scap) (x.F i).q rfl HSQ6.out (by rw [HLL.out]; exact HLEN.out) ⟨B6, 0, none⟩ 1 ⟨(i : Int), yf, yl, yt, ya⟩ rfl (fun j u hu => by
          have := HNW.out.cell j
          rw [List.getElem?_toArray] at this
          rw [Addr.add_lit, Nat.zero_add]
          exact this.trans hu) ?_
        intro v' w7 hsg hk7 hn7
        have hvi : ∀ k, (Value.slice sa LL scap).ownBlock = some k → (v i).ownBlock = some k := fun k e => by rw [HSV.out]; exact e
        have hg7 : ∀ k, (Value.slice sa LL scap).ownBlock = some k → k ≠ g := fun k e e2 => HQ6.out.vg HI.out (by rw [hvi k e, e2])
        have hwB : ∀ k, (Value.slice sa LL scap).ownBlock = some k → k ≠ w.heap.size := fun k e e2 => by have := HOLD.out k (hvi k e); omega
        have hbx7 := HBX6.out.keep hk7 (fun e => hwB _ e rfl)
        have hgw7 := HQ6.out.whole.keep hk7 (fun e => hg7 _ e rfl)
        obtain ⟨a', cap', hv', _⟩ := hsg.shape
        rw [List.length_append, List.length_singleton, HLL.out] at hv'
        have HSG := Lib.hid hsg; have HK7 := Lib.hid hk7; have HN7 := Lib.hid hn7; have HVI := Lib.hid hvi; have HBX7 := Lib.hid hbx7; have HGW7 := Lib.hid hgw7; have HV' := Lib.hid hv'
        have cv7 : w7.cell? ⟨g, 9 + i * 5 + 4, none⟩ = some (.slice sa LL scap) := (hgw7.cell _).trans ((HQ6.out.c.f i HI.out 4 (by omega)).trans (congrArg some HSV.out))
        have cf7 := hgw7.free (9 + i * 5 + 4)
        clear hsg hk7 hn7 hvi hg7 hwB hbx7 hgw7 hv'
        refine hK.out _ _ (fun _ => ⟨cv7, HBX7.out.cell 0, HBX7.out.cell 1, HBX7.out.cell 2, HBX7.out.cell 3, HBX7.out.cell 4⟩) (fun hHeld => ?_)
        clear hK K hHeld
        rw [HV'.out]
        (try simp only [Act.put, List.setIfInBounds_toArray, List.set_cons_zero, List.set_cons_succ])
        (repeat (refine wpSchL_yes (v := ?_) rfl (fun _ _ _ h => h) (by rfl) ?_ ?_; rotate_left; (next => (intro w hSw; (try dsimp only at hSw); obtain ⟨hS0, hS1, hS2, hS3, hS4, hS5⟩ := hSw; go_simp; (try with_reducible rfl))); (try simp only [Act.put, List.setIfInBounds_toArray, List.set_cons_zero, List.set_cons_succ])))
        refine wpSchL_one (wpOneL_call rfl (by rfl) (fun K hK => ?_))
        go_simp
        rw [← HV'.out]
        refine hK.out _ _ (fun h => absurd h (by decide)) (fun hHeld => ?_)
        clear hK K hHeld
        refine wpSchL_nil ?_
        (try simp only [Act.put, List.setIfInBounds_toArray, List.set_cons_zero, List.set_cons_succ])
        go_wp2
        go_end0
        refine ⟨⟨_, rfl⟩, _, _, ⟨(FQw.segs HQ6.out HI.out (v' := v') (f := takeF x s now) (b := true) (R := fun k => k = g ∨ (v i).ownBlock = some k) (HGW7.out.put (9 + i * 5 + 4) v') ((HK7.out.mono (fun k e => .inr (HVI.out k e))).setCell (p := ⟨g, 9 + i * 5 + 4, none⟩) (.inl (.inl rfl)) v') (fun k e => e) ?_ ?_ ?_).seen (mid_take H.out.ok HI.out HSS.out), HOKT.out, ks_take H.out.ok H.out.ks HI.out HSS.out⟩, ?_, ?_⟩
        · refine HQ6.out.c.set HI.out (k := 4) (by omega) rfl (fun j hj hne => ?_)
          unfold midQ
          dsimp only
          rw [upF_at, upF_at]
          match j, hj with
          | 0, _ => rfl
          | 1, _ => rfl
          | 2, _ => rfl
          | 3, _ => rfl
          | 4, _ => exact absurd rfl hne
        · have : (takeF x s now).q = (x.F i).q ++ [⟨(i : Int), yf, yl, yt, ya⟩] := by rw [← HPRE.out.1]; exact congrArg (fun z => (preF x s now).q ++ [z]) HYE.out
          rw [this]
          exact HSG.out.keep ((Keep.refl (fun k => k = g) w7).setCell (p := ⟨g, 9 + i * 5 + 4, none⟩) (.inl rfl) v') (fun k e e2 => by
            rcases HN7.out k e with h | h
            · exact HQ6.out.vg HI.out (by rw [HVI.out k h, e2])
            · have := HQ6.out.whole.lt; omega)
        · intro k e
          exact (HN7.out k e).imp (HVI.out k) id
        · exact ((HK6.out.mono (fun k e => .inl e)).trans (HK7.out.mono (fun k e => .inr (HVI.out k e)))).setCell (p := ⟨g, 9 + i * 5 + 4, none⟩) (.inl (.inl rfl)) v'
        · intro j k hj e
          by_cases e1 : j = i
          · subst e1
            rw [upF_at] at e
            rcases HN7.out k e with h | h
            · exact .inl (HVI.out k h)
            · have := HK6.out.size; exact .inr (by omega)
          · rw [upF_ne _ _ e1] at e; exact .inl e
    | true =>
      obtain ⟨cA, hcA⟩ : ∃ c, (x.F i).c = c := ⟨_, rfl⟩
      obtain ⟨cB, hcB⟩ : ∃ c, x.c.q = c := ⟨_, rfl⟩
      have cc9 := HQ9.out.credit HI.out
      have cq9 := HQ9.out.cf (j := 0) (by omega)
      have ff9 := HQ9.out.whole.free (9 + i * 5 + 1)
      rw [hcA] at cc9
      replace cq9 : w1.cell? ⟨g, 0, none⟩ = some (.int .i64 cB) := cq9.trans (by rw [← hcB]; rfl)
      have HCA := Lib.hid hcA; have HCB := Lib.hid hcB
      clear hcA hcB
      go_wp2_with fail
      refine wp_region_late (fun W => W.cell? ⟨g, 9 + i * 5 + 1, none⟩ = some (.int .i64 cA) ∧ W.cell? ⟨g, 0, none⟩ = some (.int .i64 cB)) [13] (.yes 0 (.yes 1 (.yes 2 (.yes 3 (.yes 4 (.yes 5 (.yes 6 (.yes 7 (.yes 8 (.yes 9 (.yes 10 (.yes 11 (.yes 12 (.one 13 .nil)))))))))))))) (by kernel_rfl) (by kernel_rfl) (by kernel_rfl) (by kernel_rfl) ⟨cc9, cq9⟩ ?_
      have HQ8 := Lib.hid (HQ9.out.kept (Keep.refl _ w1).drew); have HK8 := Lib.hid HK9.out.drew; have HBX8 := Lib.hid (HBX9.out.keep (Keep.refl (fun _ => False) w1).drew id)
      replace cc9 : w1.drew.cell? ⟨g, 9 + i * 5 + 1, none⟩ = some (.int .i64 cA) := cc9
      replace ff9 := HQ8.out.whole.free (9 + i * 5 + 1)
      clear cq9 HQ9 HK9 HBX9
      generalize w1.drew = w8 at *
      (repeat (refine wpSchL_yes (v := ?_) rfl (fun _ _ _ h => h) (by rfl) ?_ ?_; rotate_left; (next => (intro w hSw; (try dsimp only at hSw); obtain ⟨hS0, hS1⟩ := hSw; go_simp; (try with_reducible rfl))); (try simp only [Act.put, List.setIfInBounds_toArray, List.set_cons_zero, List.set_cons_succ])))
      rw [show (if cA < cB then cB else cA) = max cA cB by split <;> omega]
      refine wpSchL_one (wpOneL_call rfl (by rfl) (fun K hK => ?_))
      go_simp
      refine hK.out _ _ (fun h => absurd h (by decide)) (fun hHeld => ?_)
      clear hK K hHeld
      refine wpSchL_nil ?_
      have hq2 := HQ8.out.set HI.out (k := 1) (by omega) (u := .int .i64 (max cA cB)) (f := preF x s now) (b := x.T i) (by rw [HPRF.out, ← HCA.out, ← HCB.out]; rfl) (fun j hj hne => by
        rw [HPRF.out]
        match j, hj with
        | 0, _ => rfl
        | 1, _ => exact absurd rfl hne
        | 2, _ => rfl
        | 3, _ => rfl
        | 4, _ => rfl) (by rw [HPRF.out]; rfl)
      have HQ1 := Lib.hid (hq2.seen (y := preQ x s now i) (pre_three H.out.ok HI.out HSS.out rfl rfl rfl rfl HT0.out))
      have hkp : Keep (fun k => k = g) w8 (w8.setCell ⟨g, 9 + i * 5 + 1, none⟩ (.int .i64 (max cA cB))) := (Keep.refl (fun k => k = g) _).setCell (p := ⟨g, 9 + i * 5 + 1, none⟩) (.inl rfl) _
      have HK1 := Lib.hid (HK8.out.trans hkp)
      have HBX1 := Lib.hid (HBX8.out.keep hkp (fun e => by have := HLG.out; omega))
      clear hq2 hkp HQ8 HK8 HBX8 cc9 ff9
      generalize hw9 : w8.setCell ⟨g, 9 + i * 5 + 1, none⟩ (.int .i64 (max cA cB)) = w9 at *
      clear hw9
      have b0 := HBX1.out.cell 0
      simp only [List.getElem?_toArray, List.getElem?_cons_zero, List.getElem?_cons_succ] at b0
      go_wp2_with fail
      refine (HQ1.out.place HLS.out HI.out (by rw [show ((preQ x s now i).F i).n = (x.F i).n by unfold preQ; dsimp only; rw [upF_at]; exact HPRE.out.2.1]; exact HUN.out.2) HPL.out).mono ?_
      rintro e w2 ⟨rfl, k2⟩
      have HQ2 := Lib.hid (HQ1.out.kept k2); have HK2 := Lib.hid (HK1.out.trans (k2.mono (fun _ h => h.elim))); have HBX2 := Lib.hid (HBX1.out.keep k2 id)
      clear k2 HQ1 HK1 HBX1 b0
      by_cases hp0 : P = 0
      · subst hp0
        have HP0 : Hid ((x.F i).p = 0) := Lib.hid HP.out
        have c3 := HQ2.out.since HI.out
        have f3 := HQ2.out.whole.free (9 + i * 5 + 3)
        have HQ3 := Lib.hid (HQ2.out.set HI.out (k := 3) (by omega) (u := .int .u64 0) (f := { preF x s now with u := 0 }) (b := true) rfl (fun j hj hne => by
          unfold preQ
          dsimp only
          rw [upF_at, upF_at]
          match j, hj with
          | 0, _ => rfl
          | 1, _ => rfl
          | 2, _ => rfl
          | 3, _ => exact absurd rfl hne
          | 4, _ => rfl) (by unfold preQ; dsimp only; rw [upF_at]))
        have HK3 := Lib.hid (HK2.out.setCell (p := ⟨g, 9 + i * 5 + 3, none⟩) (.inl rfl) (.int .u64 0))
        have HBX3 := Lib.hid (HBX2.out.keep ((Keep.refl (fun k => k = g) w2).setCell (p := ⟨g, 9 + i * 5 + 3, none⟩) (.inl rfl) (.int .u64 0)) (fun e => by have := HLG.out; omega))
        clear HQ2 HK2 HBX2
        go_wp2_with fail
        have b0 := HBX3.out.cell 0
        simp only [List.getElem?_toArray, List.getElem?_cons_zero, List.getElem?_cons_succ] at b0
        refine wp_region_sch (fun W => W.cell? ⟨w.heap.size, 0, none⟩ = some (.int .i64 (i : Int)) ∧ True) [(true, 0), (true, 1), (true, 2), (true, 3), (true, 4), (false, 5)] (by kernel_rfl) (by kernel_rfl) (by kernel_rfl) (by kernel_rfl) ⟨b0, trivial⟩ ?_
        have HQd := Lib.hid (HQ3.out.kept (Keep.refl _ _).drew); have HKd := Lib.hid HK3.out.drew; have HBd := Lib.hid (HBX3.out.keep (Keep.refl (fun _ => False) _).drew id)
        clear HQ3 HK3 HBX3 b0 c3 f3
        generalize World.drew _ = w3 at *
        (repeat (refine wpSch_yes (v := ?_) rfl (fun _ _ _ h => h) (by rfl) ?_ ?_; rotate_left; (next => (intro w hSw; (try dsimp only at hSw); obtain ⟨hS1, hS2⟩ := hSw; go_simp; (try with_reducible rfl))); (try simp only [Act.put, List.setIfInBounds_toArray, List.set_cons_zero, List.set_cons_succ])))
        refine wpSch_call rfl (by rfl) (fun K hK => ?_); go_simp
        refine (lppush_any g 49 _ x.N x.O (i : Int) true w3 (HQd.out.ls HLS.out)).mono ?_
        rintro e w4 ⟨rfl, h4⟩
        rw [pushV_no HI.out (HOUT.out HP0.out).1 (HOUT.out HP0.out).2]
        obtain ⟨cs4, hq4, hk4⟩ := HQd.out.lists h4
        have HQ4 := Lib.hid (hq4.seen (mid_yes (s := s) (now := now) H.out.ok HI.out HSS.out HP0.out (by unfold pushN; rw [pushV_no HI.out (HOUT.out HP0.out).1 (HOUT.out HP0.out).2]; exact if_pos ⟨rfl, rfl⟩) (by unfold pushO; exact if_neg (fun e => by cases e.2))))
        have HK4 := Lib.hid (HKd.out.trans hk4); have HBX4 := Lib.hid (HBd.out.keep hk4 (fun e => by have := HLG.out; omega))
        clear h4 hq4 hk4 HQd HKd
        refine hK.out _ _ ⟨HBX4.out.cell 0, trivial⟩ (fun hHeld => ?_)
        clear hK K hHeld HBd
        (try simp only [Act.put, List.setIfInBounds_toArray, List.set_cons_zero, List.set_cons_succ])
        refine wpSch_nil ?_
        go_wp2_with fail
        -- the segment goes in
        obtain ⟨sa, scap, hsv, _⟩ := (HQ4.out.q i HI.out).shape
        have hmq : ((midQ x s now i).F i).q = (x.F i).q := by unfold midQ; dsimp only; rw [upF_at]; exact HPRE.out.1
        rw [hmq] at hsv
        have cv := HQ4.out.seg HI.out
        rw [hsv] at cv
        have hSq := HQ4.out.q i HI.out
        rw [hmq, hsv] at hSq
        have HSQ := Lib.hid hSq; have HSV := Lib.hid hsv
        have hlen : (x.F i).q.length ≤ 100000 := by have := lenQ_le (x := x) HI.out; have := H.out.ok.len; omega
        have HLEN := Lib.hid hlen
        generalize hLL : (x.F i).q.length = LL at *
        have HLL := Lib.hid hLL
        have b0 := HBX4.out.cell 0; have b1 := HBX4.out.cell 1; have b2 := HBX4.out.cell 2; have b3 := HBX4.out.cell 3; have b4 := HBX4.out.cell 4
        simp only [List.getElem?_toArray, List.getElem?_cons_zero, List.getElem?_cons_succ] at b0 b1 b2 b3 b4
        clear hsv hSq hmq hlen hLL
        refine wp_region_late (fun W => W.cell? ⟨g, 9 + i * 5 + 4, none⟩ = some (.slice sa LL scap) ∧ W.cell? ⟨w.heap.size, 0, none⟩ = some (.int .i64 (i : Int)) ∧ W.cell? ⟨w.heap.size, 1, none⟩ = some (.int .u64 yf) ∧ W.cell? ⟨w.heap.size, 2, none⟩ = some (.int .i64 yl) ∧ W.cell? ⟨w.heap.size, 3, none⟩ = some (.int .u64 yt) ∧ W.cell? ⟨w.heap.size, 4, none⟩ = some (.bool ya)) [10] (.yes 0 (.yes 1 (.yes 2 (.yes 3 (.yes 4 (.yes 5 (.one 6 (.one 7 (.yes 8 (.yes 9 (.one 10 .nil))))))))))) (by kernel_rfl) (by kernel_rfl) (by kernel_rfl) (by kernel_rfl) ⟨cv, b0, b1, b2, b3, b4⟩ ?_
        have HQ5 := Lib.hid (HQ4.out.kept (Keep.refl _ w4).drew); have HK5 := Lib.hid HK4.out.drew; have HSQ5 : Hid (SgAt w4.drew _ _) := Lib.hid (HSQ.out.kept (Keep.refl _ w4).drew); have HBX5 := Lib.hid (HBX4.out.keep (Keep.refl (fun _ => False) w4).drew id)
        clear cv b0 b1 b2 b3 b4 HQ4 HK4 HBX4 HSQ
        generalize w4.drew = w5 at *
        (repeat (refine wpSchL_yes (v := ?_) rfl (fun _ _ _ h => h) (by rfl) ?_ ?_; rotate_left; (next => (intro w hSw; (try dsimp only at hSw); obtain ⟨hS0, hS1, hS2, hS3, hS4, hS5⟩ := hSw; go_simp; (try with_reducible rfl))); (try simp only [Act.put, List.setIfInBounds_toArray, List.set_cons_zero, List.set_cons_succ])))
        refine wpSchL_one (wpOneL_call rfl (by rfl) (fun K hK => ?_))
        go_simp
        have kz : Keep (fun _ => False) w5 (w5.alloc (.cells #[.int .i64 (i : Int), .int .u64 yf, .int .i64 yl, .int .u64 yt, .bool ya] 34)) := (Keep.refl _ _).alloc _
        have hnw := Whole.new w5 34 #[.int .i64 (i : Int), .int .u64 yf, .int .i64 yl, .int .u64 yt, .bool ya]
        have HQ6 := Lib.hid (HQ5.out.kept kz); have HK6 := Lib.hid (HK5.out.trans (kz.mono (fun _ h => h.elim))); have HSQ6 := Lib.hid (HSQ5.out.kept kz); have HBX6 := Lib.hid (HBX5.out.keep kz id); have HNW := Lib.hid hnw
        have HLT6 : Hid (w.heap.size ≤ w5.heap.size) := Lib.hid HK5.out.size
        clear HQ5 HK5 HSQ5 HBX5 kz hnw
        refine hK.out _ _ (fun _ => ⟨(HQ6.out.seg HI.out).trans (by rw [HSV.out]), HBX6.out.cell 0, HBX6.out.cell 1, HBX6.out.cell 2, HBX6.out.cell 3, HBX6.out.cell 4⟩) (fun hHeld => ?_)
        clear hK K hHeld
        (try simp only [Act.put, List.setIfInBounds_toArray, List.set_cons_zero, List.set_cons_succ])
        generalize hB6 : w5.heap.size = B6 at *
        generalize w5.alloc _ = w6 at *
        clear hB6
        refine wpSchL_one (wpOneL_call rfl (by rfl) (fun K hK => ?_))
        refine oper_append_sg (.tmp 67) (.tmp 69) 42 rfl i0 Try.underlying42 HINF.out HZ0.out HZ1.out HZ2.out (.slice sa LL scap) (x.F i).q rfl HSQ6.out (by rw [HLL.out]; exact HLEN.out) ⟨B6, 0, none⟩ 1 ⟨(i : Int), yf, yl, yt, ya⟩ rfl (fun j u hu => by
          have := HNW.out.cell j
          rw [List.getElem?_toArray] at this
          rw [Addr.add_lit, Nat.zero_add]
          exact this.trans hu) ?_
        intro v' w7 hsg hk7 hn7
        have hvi : ∀ k, (Value.slice sa LL scap).ownBlock = some k → (v i).ownBlock = some k := fun k e => by rw [HSV.out]; exact e
        have hg7 : ∀ k, (Value.slice sa LL scap).ownBlock = some k → k ≠ g := fun k e e2 => HQ6.out.vg HI.out (by rw [hvi k e, e2])
        have hwB : ∀ k, (Value.slice sa LL scap).ownBlock = some k → k ≠ w.heap.size := fun k e e2 => by have := HOLD.out k (hvi k e); omega
        have hbx7 := HBX6.out.keep hk7 (fun e => hwB _ e rfl)
        have hgw7 := HQ6.out.whole.keep hk7 (fun e => hg7 _ e rfl)
        obtain ⟨a', cap', hv', _⟩ := hsg.shape
        rw [List.length_append, List.length_singleton, HLL.out] at hv'
        have HSG := Lib.hid hsg; have HK7 := Lib.hid hk7; have HN7 := Lib.hid hn7; have HVI := Lib.hid hvi; have HBX7 := Lib.hid hbx7; have HGW7 := Lib.hid hgw7; have HV' := Lib.hid hv'
        have cv7 : w7.cell? ⟨g, 9 + i * 5 + 4, none⟩ = some (.slice sa LL scap) := (hgw7.cell _).trans ((HQ6.out.c.f i HI.out 4 (by omega)).trans (congrArg some HSV.out))
        have cf7 := hgw7.free (9 + i * 5 + 4)
        clear hsg hk7 hn7 hvi hg7 hwB hbx7 hgw7 hv'
        refine hK.out _ _ (fun _ => ⟨cv7, HBX7.out.cell 0, HBX7.out.cell 1, HBX7.out.cell 2, HBX7.out.cell 3, HBX7.out.cell 4⟩) (fun hHeld => ?_)
        clear hK K hHeld
        rw [HV'.out]
        (try simp only [Act.put, List.setIfInBounds_toArray, List.set_cons_zero, List.set_cons_succ])
        (repeat (refine wpSchL_yes (v := ?_) rfl (fun _ _ _ h => h) (by rfl) ?_ ?_; rotate_left; (next => (intro w hSw; (try dsimp only at hSw); obtain ⟨hS0, hS1, hS2, hS3, hS4, hS5⟩ := hSw; go_simp; (try with_reducible rfl))); (try simp only [Act.put, List.setIfInBounds_toArray, List.set_cons_zero, List.set_cons_succ])))
        refine wpSchL_one (wpOneL_call rfl (by rfl) (fun K hK => ?_))
        go_simp
        rw [← HV'.out]
        refine hK.out _ _ (fun h => absurd h (by decide)) (fun hHeld => ?_)
        clear hK K hHeld
        refine wpSchL_nil ?_
        (try simp only [Act.put, List.setIfInBounds_toArray, List.set_cons_zero, List.set_cons_succ])
        go_wp2
        go_end0
        refine ⟨⟨_, rfl⟩, _, _, ⟨(FQw.segs HQ6.out HI.out (v' := v') (f := takeF x s now) (b := true) (R := fun k => k = g ∨ (v i).ownBlock = some k) (HGW7.out.put (9 + i * 5 + 4) v') ((HK7.out.mono (fun k e => .inr (HVI.out k e))).setCell (p := ⟨g, 9 + i * 5 + 4, none⟩) (.inl (.inl rfl)) v') (fun k e => e) ?_ ?_ ?_).seen (mid_take H.out.ok HI.out HSS.out), HOKT.out, ks_take H.out.ok H.out.ks HI.out HSS.out⟩, ?_, ?_⟩
        · refine HQ6.out.c.set HI.out (k := 4) (by omega) rfl (fun j hj hne => ?_)
          unfold midQ
          dsimp only
          rw [upF_at, upF_at]
          match j, hj with
          | 0, _ => rfl
          | 1, _ => rfl
          | 2, _ => rfl
          | 3, _ => rfl
          | 4, _ => exact absurd rfl hne
        · have : (takeF x s now).q = (x.F i).q ++ [⟨(i : Int), yf, yl, yt, ya⟩] := by rw [← HPRE.out.1]; exact congrArg (fun z => (preF x s now).q ++ [z]) HYE.out
          rw [this]
          exact HSG.out.keep ((Keep.refl (fun k => k = g) w7).setCell (p := ⟨g, 9 + i * 5 + 4, none⟩) (.inl rfl) v') (fun k e e2 => by
            rcases HN7.out k e with h | h
            · exact HQ6.out.vg HI.out (by rw [HVI.out k h, e2])
            · have := HQ6.out.whole.lt; omega)
        · intro k e
          exact (HN7.out k e).imp (HVI.out k) id
        · exact ((HK6.out.mono (fun k e => .inl e)).trans (HK7.out.mono (fun k e => .inr (HVI.out k e)))).setCell (p := ⟨g, 9 + i * 5 + 4, none⟩) (.inl (.inl rfl)) v'
        · intro j k hj e
          by_cases e1 : j = i
          · subst e1
            rw [upF_at] at e
            rcases HN7.out k e with h | h
            · exact .inl (HVI.out k h)
            · have := HK6.out.size; exact .inr (by omega)
          · rw [upF_ne _ _ e1] at e; exact .inl e
      · have hz : (P == 0) = false := by simpa using hp0
        have hp1 : (x.F i).p ≠ 0 := fun e => hp0 (HP.out.symm.trans e)
        have HQ4 := Lib.hid (HQ2.out.seen (mid_no (s := s) (now := now) H.out.ok HI.out HSS.out hp1)); have HK4 := HK2; have HBX4 := HBX2
        clear hp0 hp1 HQ2 HK2 HBX2
        go_wp2_with fail
        obtain ⟨w4, hw4⟩ : ∃ w4, w4 = w2 := ⟨_, rfl⟩
        rw [← hw4] at HQ4 HK4 HBX4 ⊢
        clear hw4
        -- the segment goes in
        obtain ⟨sa, scap, hsv, _⟩ := (HQ4.out.q i HI.out).shape
        have hmq : ((midQ x s now i).F i).q = (x.F i).q := by unfold midQ; dsimp only; rw [upF_at]; exact HPRE.out.1
        rw [hmq] at hsv
        have cv := HQ4.out.seg HI.out
        rw [hsv] at cv
        have hSq := HQ4.out.q i HI.out
        rw [hmq, hsv] at hSq
        have HSQ := Lib.hid hSq; have HSV := Lib.hid hsv
        have hlen : (x.F i).q.length ≤ 100000 := by have := lenQ_le (x := x) HI.out; have := H.out.ok.len; omega
        have HLEN := Lib.hid hlen
        generalize hLL : (x.F i).q.length = LL at *
        have HLL := Lib.hid hLL
        have b0 := HBX4.out.cell 0; have b1 := HBX4.out.cell 1; have b2 := HBX4.out.cell 2; have b3 := HBX4.out.cell 3; have b4 := HBX4.out.cell 4
        simp only [List.getElem?_toArray, List.getElem?_cons_zero, List.getElem?_cons_succ] at b0 b1 b2 b3 b4
        clear hsv hSq hmq hlen hLL
        refine wp_region_late (fun W => W.cell? ⟨g, 9 + i * 5 + 4, none⟩ = some (.slice sa LL scap) ∧ W.cell? ⟨w.heap.size, 0, none⟩ = some (.int .i64 (i : Int)) ∧ W.cell? ⟨w.heap.size, 1, none⟩ = some (.int .u64 yf) ∧ W.cell? ⟨w.heap.size, 2, none⟩ = some (.int .i64 yl) ∧ W.cell? ⟨w.heap.size, 3, none⟩ = some (.int .u64 yt) ∧ W.cell? ⟨w.heap.size, 4, none⟩ = some (.bool ya)) [10] (.yes 0 (.yes 1 (.yes 2 (.yes 3 (.yes 4 (.yes 5 (.one 6 (.one 7 (.yes 8 (.yes 9 (.one 10 .nil))))))))))) (by kernel_rfl) (by kernel_rfl) (by kernel_rfl) (by kernel_rfl) ⟨cv, b0, b1, b2, b3, b4⟩ ?_
        have HQ5 := Lib.hid (HQ4.out.kept (Keep.refl _ w4).drew); have HK5 := Lib.hid HK4.out.drew; have HSQ5 : Hid (SgAt w4.drew _ _) := Lib.hid (HSQ.out.kept (Keep.refl _ w4).drew); have HBX5 := Lib.hid (HBX4.out.keep (Keep.refl (fun _ => False) w4).drew id)
        clear cv b0 b1 b2 b3 b4 HQ4 HK4 HBX4 HSQ
        generalize w4.drew = w5 at *
        (repeat (refine wpSchL_yes (v := ?_) rfl (fun _ _ _ h => h) (by rfl) ?_ ?_; rotate_left; (next => (intro w hSw; (try dsimp only at hSw); obtain ⟨hS0, hS1, hS2, hS3, hS4, hS5⟩ := hSw; go_simp; (try with_reducible rfl))); (try simp only [Act.put, List.setIfInBounds_toArray, List.set_cons_zero, List.set_cons_succ])))
        refine wpSchL_one (wpOneL_call rfl (by rfl) (fun K hK => ?_))
        go_simp
        have kz : Keep (fun _ => False) w5 (w5.alloc (.cells #[.int .i64 (i : Int), .int .u64 yf, .int .i64 yl, .int .u64 yt, .bool ya] 34)) := (Keep.refl _ _).alloc _
        have hnw := Whole.new w5 34 #[.int .i64 (i : Int), .int .u64 yf, .int .i64 yl, .int .u64 yt, .bool ya]
        have HQ6 := Lib.hid (HQ5.out.kept kz); have HK6 := Lib.hid (HK5.out.trans (kz.mono (fun _ h => h.elim))); have HSQ6 := Lib.hid (HSQ5.out.kept kz); have HBX6 := Lib.hid (HBX5.out.keep kz id); have HNW := Lib.hid hnw
        have HLT6 : Hid (w.heap.size ≤ w5.heap.size) := Lib.hid HK5.out.size
        clear HQ5 HK5 HSQ5 HBX5 kz hnw
        refine hK.out _ _ (fun _ => ⟨(HQ6.out.seg HI.out).trans (by rw [HSV.out]), HBX6.out.cell 0, HBX6.out.cell 1, HBX6.out.cell 2, HBX6.out.cell 3, HBX6.out.cell 4⟩) (fun hHeld => ?_)
        clear hK K hHeld
        (try simp only [Act.put, List.setIfInBounds_toArray, List.set_cons_zero, List.set_cons_succ])
        generalize hB6 : w5.heap.size = B6 at *
        generalize w5.alloc _ = w6 at *
        clear hB6
        refine wpSchL_one (wpOneL_call rfl (by rfl) (fun K hK => ?_))
        refine oper_append_sg (.tmp 67) (.tmp 69) 42 rfl i0 Try.underlying42 HINF.out HZ0.out HZ1.out HZ2.out (.slice sa LL scap) (x.F i).q rfl HSQ6.out (by rw [HLL.out]; exact HLEN.out) ⟨B6, 0, none⟩ 1 ⟨(i : Int), yf, yl, yt, ya⟩ rfl (fun j u hu => by
          have := HNW.out.cell j
          rw [List.getElem?_toArray] at this
          rw [Addr.add_lit, Nat.zero_add]
          exact this.trans hu) ?_
        intro v' w7 hsg hk7 hn7
        have hvi : ∀ k, (Value.slice sa LL scap).ownBlock = some k → (v i).ownBlock = some k := fun k e => by rw [HSV.out]; exact e
        have hg7 : ∀ k, (Value.slice sa LL scap).ownBlock = some k → k ≠ g := fun k e e2 => HQ6.out.vg HI.out (by rw [hvi k e, e2])
        have hwB : ∀ k, (Value.slice sa LL scap).ownBlock = some k → k ≠ w.heap.size := fun k e e2 => by have := HOLD.out k (hvi k e); omega
        have hbx7 := HBX6.out.keep hk7 (fun e => hwB _ e rfl)
        have hgw7 := HQ6.out.whole.keep hk7 (fun e => hg7 _ e rfl)
        obtain ⟨a', cap', hv', _⟩ := hsg.shape
        rw [List.length_append, List.length_singleton, HLL.out] at hv'
        have HSG := Lib.hid hsg; have HK7 := Lib.hid hk7; have HN7 := Lib.hid hn7; have HVI := Lib.hid hvi; have HBX7 := Lib.hid hbx7; have HGW7 := Lib.hid hgw7; have HV' := Lib.hid hv'
        have cv7 : w7.cell? ⟨g, 9 + i * 5 + 4, none⟩ = some (.slice sa LL scap) := (hgw7.cell _).trans ((HQ6.out.c.f i HI.out 4 (by omega)).trans (congrArg some HSV.out))
        have cf7 := hgw7.free (9 + i * 5 + 4)
        clear hsg hk7 hn7 hvi hg7 hwB hbx7 hgw7 hv'
        refine hK.out _ _ (fun _ => ⟨cv7, HBX7.out.cell 0, HBX7.out.cell 1, HBX7.out.cell 2, HBX7.out.cell 3, HBX7.out.cell 4⟩) (fun hHeld => ?_)
        clear hK K hHeld
        rw [HV'.out]
        (try simp only [Act.put, List.setIfInBounds_toArray, List.set_cons_zero, List.set_cons_succ])
        (repeat (refine wpSchL_yes (v := ?_) rfl (fun _ _ _ h => h) (by rfl) ?_ ?_; rotate_left; (next => (intro w hSw; (try dsimp only at hSw); obtain ⟨hS0, hS1, hS2, hS3, hS4, hS5⟩ := hSw; go_simp; (try with_reducible rfl))); (try simp only [Act.put, List.setIfInBounds_toArray, List.set_cons_zero, List.set_cons_succ])))
        refine wpSchL_one (wpOneL_call rfl (by rfl) (fun K hK => ?_))
        go_simp
        rw [← HV'.out]
        refine hK.out _ _ (fun h => absurd h (by decide)) (fun hHeld => ?_)
        clear hK K hHeld
        refine wpSchL_nil ?_
        (try simp only [Act.put, List.setIfInBounds_toArray, List.set_cons_zero, List.set_cons_succ])
        go_wp2
        go_end0
        refine ⟨⟨_, rfl⟩, _, _, ⟨(FQw.segs HQ6.out HI.out (v' := v') (f := takeF x s now) (b := true) (R := fun k => k = g ∨ (v i).ownBlock = some k) (HGW7.out.put (9 + i * 5 + 4) v') ((HK7.out.mono (fun k e => .inr (HVI.out k e))).setCell (p := ⟨g, 9 + i * 5 + 4, none⟩) (.inl (.inl rfl)) v') (fun k e => e) ?_ ?_ ?_).seen (mid_take H.out.ok HI.out HSS.out), HOKT.out, ks_take H.out.ok H.out.ks HI.out HSS.out⟩, ?_, ?_⟩
        · refine HQ6.out.c.set HI.out (k := 4) (by omega) rfl (fun j hj hne => ?_)
          unfold midQ
          dsimp only
          rw [upF_at, upF_at]
          match j, hj with
          | 0, _ => rfl
          | 1, _ => rfl
          | 2, _ => rfl
          | 3, _ => rfl
          | 4, _ => exact absurd rfl hne
        · have : (takeF x s now).q = (x.F i).q ++ [⟨(i : Int), yf, yl, yt, ya⟩] := by rw [← HPRE.out.1]; exact congrArg (fun z => (preF x s now).q ++ [z]) HYE.out
          rw [this]
          exact HSG.out.keep ((Keep.refl (fun k => k = g) w7).setCell (p := ⟨g, 9 + i * 5 + 4, none⟩) (.inl rfl) v') (fun k e e2 => by
            rcases HN7.out k e with h | h
            · exact HQ6.out.vg HI.out (by rw [HVI.out k h, e2])
            · have := HQ6.out.whole.lt; omega)
        · intro k e
          exact (HN7.out k e).imp (HVI.out k) id
        · exact ((HK6.out.mono (fun k e => .inl e)).trans (HK7.out.mono (fun k e => .inr (HVI.out k e)))).setCell (p := ⟨g, 9 + i * 5 + 4, none⟩) (.inl (.inl rfl)) v'
        · intro j k hj e
          by_cases e1 : j = i
          · subst e1
            rw [upF_at] at e
            rcases HN7.out k e with h | h
            · exact .inl (HVI.out k h)
            · have := HK6.out.size; exact .inr (by omega)
          · rw [upF_ne _ _ e1] at e; exact .inl e
end
end Go.Proofs.Ytnljjdfajmjdjaa
