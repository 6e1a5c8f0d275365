/-
  What rising hands back tells the nodes of a tree by rising keys, till it is told to stop. Conditions: the tree lies in memory.
-/
import Derived.Test.YtfbbmpmgceghfaaRbAsk
import Derived.RangeFuncNested
import Derived.RangeFuncBound
import Derived.RangeFuncCalls
import Derived.RangeFuncLeaves
import Derived.Shelf.Abstract
import Derived.Shelf.RegionOpen
import Derived.OwnWalkIn
import Derived.TacticsInMore
import Derived.LoopNIn
import Derived.LoopIn
import Derived.Sort.QuietIn
namespace Go.Proofs.Ytfbbmpmgceghfaa
open Go.RowKit Go.Shelf
set_option maxRecDepth 100000
set_option linter.unusedSimpArgs false

theorem wide_fn (f : FuncId) : Fence.wide.fn f = True := rfl
attribute [local go_sem] Oper.semAt_some wide_fn

theorem hd_drop {L : List (Nat × Key)} {k : Nat} {x : Nat × Key} (h : L[k]? = some x) : hd (L.drop k) = x.1 ∧ L.drop k = x :: L.drop (k + 1) ∧ L.take (k + 1) = L.take k ++ [x] := by
  obtain ⟨hk, rfl⟩ := List.getElem?_eq_some_iff.1 h
  have e := List.drop_eq_getElem_cons hk
  exact ⟨by rw [e]; rfl, e, List.take_succ_eq_append_getElem hk⟩
theorem take_at {α : Type} {L : List α} {k : Nat} {x : α} (h : L[k]? = some x) : L.take (k + 1) = L.take k ++ [x] := by
  obtain ⟨hk, rfl⟩ := List.getElem?_eq_some_iff.1 h
  exact List.take_succ_eq_append_getElem hk
theorem attach_at {α : Type} {L : List α} {k : Nat} (h : k < L.length) : ∃ y : {x // x ∈ L}, L.attach[k]? = some y ∧ L[k]? = some y.1 := by
  have hk : k < L.attach.length := by simpa using h
  refine ⟨L.attach[k], List.getElem?_eq_getElem hk, ?_⟩
  rw [List.getElem?_eq_getElem h]
  simp
theorem split_at : ∀ {A B L : List (Nat × Key)} {y : Nat × Key} {k : Nat} {x : Nat × Key}, L = A ++ y :: B → (L.map (·.1)).Nodup → L[k]? = some x → x.1 = y.1 → B = L.drop (k + 1)
  | [], B, L, y, k, x, e, hn, hk, hxy => by
    subst e
    cases k with
    | zero => rfl
    | succ k =>
      simp at hk
      simp only [List.nil_append, List.map_cons, List.nodup_cons] at hn
      exact absurd (by rw [← hxy]; exact List.mem_map.2 ⟨x, List.mem_of_getElem? hk, rfl⟩) hn.1
  | a :: A, B, L, y, k, x, e, hn, hk, hxy => by
    subst e
    simp only [List.cons_append, List.map_cons, List.nodup_cons] at hn
    cases k with
    | zero =>
      simp at hk
      subst hk
      exact absurd (by rw [hxy]; simp) hn.1
    | succ k =>
      simp only [List.cons_append, List.getElem?_cons_succ] at hk
      simp only [List.cons_append, List.drop_succ_cons]
      exact split_at rfl hn.2 hk hxy
/-- What stands behind a node. -/
theorem RepB.nextAt {m : Nat → Nd} {n tp : Nat} {z : Z} {t : T} {L : List (Nat × Key)} (h : RepB m n tp z t L) {k : Nat} {x : Nat × Key} (hk : L[k]? = some x) :
    ∃ z' kx c l r, RepB m n tp z' (.nd x.1 kx c l r) L ∧ r.its ++ z'.zr = L.drop (k + 1) := by
  obtain ⟨t', ht'⟩ := h.top
  have e : L = t'.its := by rw [← ht'.rep.its]; simp [Z.zl, Z.zr]
  obtain ⟨z', kx, c, l, r, hl⟩ := ht'.locate (i := x.1) (by rw [← e]; exact List.mem_map.2 ⟨x, List.mem_of_getElem? hk, rfl⟩)
  refine ⟨z', kx, c, l, r, hl, ?_⟩
  exact split_at (A := z'.zl ++ l.its) (y := (x.1, kx)) (by rw [← hl.rep.its]; simp [T.its]) ht'.rep.nodup hk rfl

/-- The blocks below n₀, and one more, are as they were. -/
def KpB (n₀ Bt : Nat) (A B : World) : Prop := Below n₀ A B ∧ B.heap[Bt]? = A.heap[Bt]?
theorem KpB.refl (n₀ Bt : Nat) (A : World) : KpB n₀ Bt A A := ⟨Below.refl _ _, rfl⟩
theorem KpB.trans {n₀ Bt : Nat} {A B C : World} (h : KpB n₀ Bt A B) (h' : KpB n₀ Bt B C) : KpB n₀ Bt A C := ⟨h.1.trans h'.1, h'.2.trans h.2⟩
theorem KpB.drewN {n₀ Bt : Nat} {A B : World} (h : KpB n₀ Bt A B) (k : Nat) : KpB n₀ Bt A (B.drewN k) := ⟨h.1.trans ⟨rfl, rfl, rfl, Nat.le_refl _, fun _ _ => rfl⟩, h.2⟩
theorem keep_of_below {n₀ : Nat} {A B : World} (h : Below n₀ A B) : Keep (fun k => n₀ ≤ k) A B := ⟨h.os, h.tape, h.output, h.size, fun k _ hs => h.block k (by omega)⟩
theorem TreeIn.below {w w' : World} {S : Nat → Prop} {g ga b cap n tp n₀ : Nat} {m : Nat → Nd} {L : List (Nat × Key)} {s : St} {Sa : Nat → Prop} (h : TreeIn w S g ga b cap n tp m L s Sa) (hb : Below n₀ w w') (hS : ∀ k, S k → k < n₀) : TreeIn w' S g ga b cap n tp m L s Sa :=
  have hk := keep_of_below hb
  ⟨h.tr.keep hk (fun h' => by have := hS g ((h.foot g).2 (.inl (.inl rfl))); omega) (fun h' => by have := hS b ((h.foot b).2 (.inl (.inr rfl))); omega), h.rep, h.sorted, h.ar.keep hk (fun k hk h' => by have := hS k ((h.foot k).2 (.inr hk)); omega), h.len, h.ids, h.cnt, h.ng, h.nb, h.foot⟩
theorem TreeIn.drewN {w : World} {S : Nat → Prop} {g ga b cap n tp : Nat} {m : Nat → Nd} {L : List (Nat × Key)} {s : St} {Sa : Nat → Prop} (h : TreeIn w S g ga b cap n tp m L s Sa) (k : Nat) : TreeIn (w.drewN k) S g ga b cap n tp m L s Sa :=
  ⟨h.tr.drewN k, h.rep, h.sorted, h.ar.keep (R := fun _ => False) ((Keep.refl _ _).drewN k) (fun _ _ h => h), h.len, h.ids, h.cnt, h.ng, h.nb, h.foot⟩
theorem TreeIn.at {w : World} {S : Nat → Prop} {g ga b cap n tp : Nat} {m : Nat → Nd} {L : List (Nat × Key)} {s : St} {Sa : Nat → Prop} (h : TreeIn w S g ga b cap n tp m L s Sa) : TreeAt w S g s.N (L.map (·.2)) := ⟨ga, b, cap, n, tp, m, L, s, Sa, h, rfl, rfl⟩

set_option maxRecDepth 100000 in
set_option maxHeartbeats 4000000 in
theorem rise1_in (n : Nat) (hn : 1 ≤ n) (l Bt n₀ : Nat) {S : Nat → Prop} {g ga b cap n' tp : Nat} {m : Nat → Nd} {L : List (Nat × Key)} {s : St} {Sa : Nat → Prop} (hS : ∀ k, S k → k < n₀) (J Jx : List {x : Nat × Key // x ∈ L} → World → Prop)
    (W : World) (hJd : ∀ pre W1 k, J pre W1 → J pre (W1.drewN k))
    (hY : ∀ pre x W1, J pre W1 → pre.length < L.length → YieldAt Fence.wide (n - 1) Try.prog l #[.int .i64 (x.1.1 : Int)] W1 fun e W' =>
      (e = .returned (.bool true) ∧ J (pre ++ [x]) W' ∧ KpB n₀ Bt W1 W') ∨ (e = .returned (.bool false) ∧ Jx (pre ++ [x]) W'))
    (hT : TreeIn W S g ga b cap n' tp m L s Sa) (hB : Boxed W Bt 23 (.pointer (some ⟨g, 0, none⟩))) (h0 : J [] W) :
    CallsIn Fence.wide n Try.prog 46 #[.func (.yield l) #[] #[], .pointer (some ⟨Bt, 0, none⟩)] W fun e W' => (∃ v, e = .returned v) ∧
      ((∃ ys, ys = L.attach ∧ J ys W') ∨ (∃ pre, pre <+: L.attach ∧ Jx pre W')) := by
  obtain ⟨t0, hrep⟩ := hT.rep
  obtain ⟨hnle, hlN, hN⟩ := hT.n_le
  have eL : L = t0.its := by rw [← hrep.rep.its]; simp [Z.zl, Z.zr]
  have HTP : Hid (tp = t0.root) := Lib.hid hrep.rep.up
  have HL0 : Hid (hd t0.its = hd (L.drop 0)) := Lib.hid (by rw [← eL]; rfl)
  have HREP := Lib.hid hrep
  have HT := Lib.hid hT
  have cb := hB.cell
  have c2 := hT.tr.st.cell 2
  have HLEAST := Lib.hid (fun w' (t' : Tr w' g b cap (.pointer (some ⟨ga, 0, none⟩)) n' tp m) => least_any w' t' HREP.out.rep)
  rw [← HTP.out] at HLEAST
  clear hrep hT eL
  refine callsIn_of_wp Try.func46 rfl trivial ?_ rfl
  simp only [Try.ntmps46, List.size_toArray, List.length_cons, List.length_nil, Nat.reduceAdd, Nat.reduceSub, Array.replicate_succ, Array.replicate_zero, List.push_toArray, List.append_toArray, List.nil_append, List.cons_append]
  gi_wp2
  gi_quiet ((gi_at_call 33; exact CallsIn.quiet_of_same (callsIn_wide.2 (HLEAST.out _ (HT.out.tr.drewN _)))))
  rw [HL0.out]
  have HT1 := Lib.hid (HT.out.drewN nq)
  have HK1 : Hid (KpB n₀ Bt W (W.drewN nq)) := Lib.hid ((KpB.refl n₀ Bt W).drewN nq)
  have HJ1 := Lib.hid (hJd _ _ nq h0)
  have HB1 := Lib.hid (show Boxed (W.drewN nq) Bt 23 (.pointer (some ⟨g, 0, none⟩)) from hB)
  have HLN : Hid ((L.map (·.2)).length = L.length) := Lib.hid (List.length_map _)
  clear cb c2 HLEAST HTP HL0 hB h0 HT
  generalize W.drewN nq = W1 at *
  have cb := HB1.out.cell
  have HLEN := Lib.hid (tlen_any W1 HT1.out.at)
  rw [HLN.out] at HLEN
  gi_wp2_with (gi_at_call 15; refine (callsIn_wide.2 HLEN.out).mono ?_; rintro e W2 ⟨rfl, k2, hw2⟩; have HW2 := Lib.hid hw2; clear hw2)
  gi_loopw [3, 12] (fun a3 a12 wr => ∃ k : Nat, k ≤ L.length ∧ a12 = .int .i64 k ∧ a3 = .int .i64 (hd (L.drop k) : Int) ∧ J (L.attach.take k) wr ∧ KpB n₀ Bt W1 wr)
    (fun _ i _ => L.length - (intOf i).toNat)
  case atStart => exact ⟨0, Nat.zero_le _, rfl, rfl, by rw [HW2.out]; exact hJd _ _ _ HJ1.out, by rw [HW2.out]; exact (KpB.refl _ _ _).drewN _⟩
  case round =>
    obtain ⟨k, hk, rfl, rfl, hJs, hK⟩ := hrel
    have HK := Lib.hid hK; have HJs := Lib.hid hJs
    clear hK hJs cb HLEN
    by_cases hlt : k < L.length
    · obtain ⟨y, hay, hx⟩ := attach_at hlt
      obtain ⟨x, hxy⟩ : ∃ x, x = y.1 := ⟨_, rfl⟩
      rw [← hxy] at hx
      obtain ⟨hd1, hd2, hd3⟩ := hd_drop hx
      obtain ⟨z', kx, c, l', r, hpos, hnext⟩ := HREP.out.nextAt hx
      have hx0 := (HREP.out.keyAt x (List.mem_of_getElem? hx)).2.1
      have hx' : ((x.1 : Int) == 0) = false := by rw [beq_eq_false_iff_ne]; omega
      obtain ⟨fn, tmps, assign, body, hy, hR⟩ := hY (L.attach.take k) y wr HJs.out (by simp; omega)
      rw [← hxy] at hy
      have HNEXT := Lib.hid (fun w' (t' : Tr w' g b cap (.pointer (some ⟨ga, 0, none⟩)) n' tp m) => next_any w' t' hpos.rep)
      rw [hnext] at HNEXT
      have HTK : Hid (L.attach.take k ++ [y] = L.attach.take (k + 1)) := Lib.hid (take_at hay).symm
      have HPRE : Hid (L.attach.take (k + 1) <+: L.attach) := Lib.hid (List.take_prefix _ _)
      have hki : (k : Int) < (L.length : Int) := by omega
      have HR := Lib.hid hR
      rw [hd1]
      clear hpos hnext hx hd1 hd2 hd3 hR hxy hay
      gi_wp2
      refine HR.out.mono ?_
      rintro e W3 (⟨rfl, hJ3, hk3⟩ | ⟨rfl, hJx3⟩)
      · have HK3 := Lib.hid (HK.out.trans hk3)
        rw [HTK.out] at hJ3
        have HJ3 := Lib.hid hJ3
        have HT3 := Lib.hid (HT1.out.below HK3.out.1 hS)
        have cb : W3.cell? ⟨Bt, 0, none⟩ = some (.pointer (some ⟨g, 0, none⟩)) := (World.cell?_of_block HK3.out.2).trans HB1.out.cell
        clear hJ3 hk3
        gi_wp2_with (gi_at_call 34; refine (callsIn_wide.2 (HNEXT.out _ HT3.out.tr)).mono ?_; rintro e W4 ⟨rfl, k4, hw4⟩; have HW4 := Lib.hid hw4; clear hw4)
        go_roundw
        case rel => exact ⟨k + 1, by omega, by go_num, rfl, by rw [HW4.out]; exact hJd _ _ _ HJ3.out, by rw [HW4.out]; exact HK3.out.drewN _⟩
        case measure => simp [intOf]; omega
      · rw [HTK.out] at hJx3
        gi_wp2
        refine bodyPost_ret (results_none rfl _ _ _) rfl ?_
        exact ⟨⟨_, rfl⟩, .inr ⟨_, HPRE.out, hJx3⟩⟩
    · obtain rfl : k = L.length := by omega
      have hJL : J L.attach wr := by have := HJs.out; rwa [List.take_of_length_le (by simp)] at this
      gi_wp2
      go_end0
      exact ⟨⟨_, rfl⟩, .inl ⟨_, rfl, hJL⟩⟩

theorem rise_stops (n : Nat) (hn : 1 ≤ n) (Bt n₀ : Nat) {S : Nat → Prop} {g ga b cap n' tp : Nat} {m : Nat → Nd} {L : List (Nat × Key)} {s : St} {Sa : Nat → Prop} (w : World) (hS : ∀ k, S k → k < n₀) (hn₀ : n₀ ≤ w.heap.size)
    (hT : TreeIn w S g ga b cap n' tp m L s Sa) (hB : Boxed w Bt 23 (.pointer (some ⟨g, 0, none⟩))) :
    SeqStopsK Fence.wide n Try.prog 46 #[.pointer (some ⟨Bt, 0, none⟩)] (fun x : {x : Nat × Key // x ∈ L} => #[Value.int .i64 (x.1.1 : Int)]) (KpB n₀ Bt) (fun ys => ys = L.attach) (fun pre => pre <+: L.attach) L.length w := fun l J Jx W hW hJ _ hY h0 => by
  have hB' : Boxed W Bt 23 (.pointer (some ⟨g, 0, none⟩)) := (hW.block Bt hB.lt).trans hB
  exact rise1_in n hn l Bt n₀ hS J Jx W (fun pre W1 k h => hJ pre W1 _ none h ⟨rfl, rfl, rfl, Nat.le_refl _, fun _ _ _ => rfl⟩ (fun r e => by cases e)) hY (hT.below (hW.mono hn₀) hS) hB' h0
end Go.Proofs.Ytfbbmpmgceghfaa
