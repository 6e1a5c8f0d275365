/-
  What rising hands back tells the nodes of a tree by rising keys, till it is told to stop. Conditions: the tree lies in memory.
  A range over a function whose own body ranges over another function, and whose rounds turn what they have laid themselves (an append): what it asks of a round, and the law for the caller. No program is spoken of. Conditions: none.
-/
import Derived.Test.YtnljjdfajmjdjaaJ14
import Derived.Test.YtnljjdfajmjdjaaJ15
import Derived.RangeFuncNested
import Derived.RangeFuncBound
import Derived.RangeFuncCalls
import Derived.RangeFuncLeaves
import Derived.Shelf.Abstract
import Derived.Shelf.RegionOpen
import Derived.OwnWalkIn
import Derived.TacticsInMore
import Derived.LoopNIn
import Derived.LoopIn
import Derived.Sort.QuietIn
namespace Go.Proofs.Ytnljjdfajmjdjaa
open Go.RowKit Go.Shelf
set_option maxRecDepth 100000
set_option linter.unusedSimpArgs false

theorem wide_fn (f : FuncId) : Fence.wide.fn f = True := rfl
attribute [local go_sem] Oper.semAt_some wide_fn

theorem hd_drop {L : List (Nat × Key)} {k : Nat} {x : Nat × Key} (h : L[k]? = some x) : hd (L.drop k) = x.1 ∧ L.drop k = x :: L.drop (k + 1) ∧ L.take (k + 1) = L.take k ++ [x] := by
  obtain ⟨hk, rfl⟩ := List.getElem?_eq_some_iff.1 h
  have e := List.drop_eq_getElem_cons hk
  exact ⟨by rw [e]; rfl, e, List.take_succ_eq_append_getElem hk⟩
theorem take_at {α : Type} {L : List α} {k : Nat} {x : α} (h : L[k]? = some x) : L.take (k + 1) = L.take k ++ [x] := by
  obtain ⟨hk, rfl⟩ := List.getElem?_eq_some_iff.1 h
  exact List.take_succ_eq_append_getElem hk
theorem attach_at {α : Type} {L : List α} {k : Nat} (h : k < L.length) : ∃ y : {x // x ∈ L}, L.attach[k]? = some y ∧ L[k]? = some y.1 := by
  have hk : k < L.attach.length := by simpa using h
  refine ⟨L.attach[k], List.getElem?_eq_getElem hk, ?_⟩
  rw [List.getElem?_eq_getElem h]
  simp
theorem split_at : ∀ {A B L : List (Nat × Key)} {y : Nat × Key} {k : Nat} {x : Nat × Key}, L = A ++ y :: B → (L.map (·.1)).Nodup → L[k]? = some x → x.1 = y.1 → B = L.drop (k + 1)
  | [], B, L, y, k, x, e, hn, hk, hxy => by
    subst e
    cases k with
    | zero => rfl
    | succ k =>
      simp at hk
      simp only [List.nil_append, List.map_cons, List.nodup_cons] at hn
      exact absurd (by rw [← hxy]; exact List.mem_map.2 ⟨x, List.mem_of_getElem? hk, rfl⟩) hn.1
  | a :: A, B, L, y, k, x, e, hn, hk, hxy => by
    subst e
    simp only [List.cons_append, List.map_cons, List.nodup_cons] at hn
    cases k with
    | zero =>
      simp at hk
      subst hk
      exact absurd (by rw [hxy]; simp) hn.1
    | succ k =>
      simp only [List.cons_append, List.getElem?_cons_succ] at hk
      simp only [List.cons_append, List.drop_succ_cons]
      exact split_at rfl hn.2 hk hxy
/-- What stands behind a node. -/
theorem RepB.nextAt {m : Nat → Nd} {n tp : Nat} {z : Z} {t : T} {L : List (Nat × Key)} (h : RepB m n tp z t L) {k : Nat} {x : Nat × Key} (hk : L[k]? = some x) :
    ∃ z' kx c l r, RepB m n tp z' (.nd x.1 kx c l r) L ∧ r.its ++ z'.zr = L.drop (k + 1) := by
  obtain ⟨t', ht'⟩ := h.top
  have e : L = t'.its := by rw [← ht'.rep.its]; simp [Z.zl, Z.zr]
  obtain ⟨z', kx, c, l, r, hl⟩ := ht'.locate (i := x.1) (by rw [← e]; exact List.mem_map.2 ⟨x, List.mem_of_getElem? hk, rfl⟩)
  refine ⟨z', kx, c, l, r, hl, ?_⟩
  exact split_at (A := z'.zl ++ l.its) (y := (x.1, kx)) (by rw [← hl.rep.its]; simp [T.its]) ht'.rep.nodup hk rfl

/-- The blocks below n₀, and one more, are as they were. -/
def KpB (n₀ Bt : Nat) (A B : World) : Prop := Below n₀ A B ∧ B.heap[Bt]? = A.heap[Bt]?
theorem KpB.refl (n₀ Bt : Nat) (A : World) : KpB n₀ Bt A A := ⟨Below.refl _ _, rfl⟩
theorem KpB.trans {n₀ Bt : Nat} {A B C : World} (h : KpB n₀ Bt A B) (h' : KpB n₀ Bt B C) : KpB n₀ Bt A C := ⟨h.1.trans h'.1, h'.2.trans h.2⟩
theorem KpB.drewN {n₀ Bt : Nat} {A B : World} (h : KpB n₀ Bt A B) (k : Nat) : KpB n₀ Bt A (B.drewN k) := ⟨h.1.trans ⟨rfl, rfl, rfl, Nat.le_refl _, fun _ _ => rfl⟩, h.2⟩
theorem keep_of_below {n₀ : Nat} {A B : World} (h : Below n₀ A B) : Keep (fun k => n₀ ≤ k) A B := ⟨h.os, h.tape, h.output, h.size, fun k _ hs => h.block k (by omega)⟩
theorem TreeIn.below {w w' : World} {S : Nat → Prop} {g ga b cap n tp n₀ : Nat} {m : Nat → Nd} {L : List (Nat × Key)} {s : St} {Sa : Nat → Prop} (h : TreeIn w S g ga b cap n tp m L s Sa) (hb : Below n₀ w w') (hS : ∀ k, S k → k < n₀) : TreeIn w' S g ga b cap n tp m L s Sa :=
  have hk := keep_of_below hb
  ⟨h.tr.keep hk (fun h' => by have := hS g ((h.foot g).2 (.inl (.inl rfl))); omega) (fun h' => by have := hS b ((h.foot b).2 (.inl (.inr rfl))); omega), h.rep, h.sorted, h.ar.keep hk (fun k hk h' => by have := hS k ((h.foot k).2 (.inr hk)); omega), h.len, h.ids, h.cnt, h.ng, h.nb, h.foot⟩
theorem TreeIn.drewN {w : World} {S : Nat → Prop} {g ga b cap n tp : Nat} {m : Nat → Nd} {L : List (Nat × Key)} {s : St} {Sa : Nat → Prop} (h : TreeIn w S g ga b cap n tp m L s Sa) (k : Nat) : TreeIn (w.drewN k) S g ga b cap n tp m L s Sa :=
  ⟨h.tr.drewN k, h.rep, h.sorted, h.ar.keep (R := fun _ => False) ((Keep.refl _ _).drewN k) (fun _ _ h => h), h.len, h.ids, h.cnt, h.ng, h.nb, h.foot⟩
theorem TreeIn.at {w : World} {S : Nat → Prop} {g ga b cap n tp : Nat} {m : Nat → Nd} {L : List (Nat × Key)} {s : St} {Sa : Nat → Prop} (h : TreeIn w S g ga b cap n tp m L s Sa) : TreeAt w S g s.N (L.map (·.2)) := ⟨ga, b, cap, n, tp, m, L, s, Sa, h, rfl, rfl⟩

set_option maxRecDepth 100000 in
set_option maxHeartbeats 4000000 in
theorem rise1_in (n : Nat) (hn : 1 ≤ n) (l Bt n₀ : Nat) {S : Nat → Prop} {g ga b cap n' tp : Nat} {m : Nat → Nd} {L : List (Nat × Key)} {s : St} {Sa : Nat → Prop} (hS : ∀ k, S k → k < n₀) (J Jx : List {x : Nat × Key // x ∈ L} → World → Prop)
    (W : World) (hJd : ∀ pre W1 k, J pre W1 → J pre (W1.drewN k))
    (hY : ∀ pre x W1, J pre W1 → pre.length < L.length → YieldAt Fence.wide (n - 1) Try.prog l #[.int .i64 (x.1.1 : Int)] W1 fun e W' =>
      (e = .returned (.bool true) ∧ J (pre ++ [x]) W' ∧ KpB n₀ Bt W1 W') ∨ (e = .returned (.bool false) ∧ Jx (pre ++ [x]) W'))
    (hT : TreeIn W S g ga b cap n' tp m L s Sa) (hB : Boxed W Bt 81 (.pointer (some ⟨g, 0, none⟩))) (h0 : J [] W) :
    CallsIn Fence.wide n Try.prog 93 #[.func (.yield l) #[] #[], .pointer (some ⟨Bt, 0, none⟩)] W fun e W' => (∃ v, e = .returned v) ∧
      ((∃ ys, ys = L.attach ∧ J ys W') ∨ (∃ pre, pre <+: L.attach ∧ Jx pre W')) := by
  obtain ⟨t0, hrep⟩ := hT.rep
  obtain ⟨hnle, hlN, hN⟩ := hT.n_le
  have eL : L = t0.its := by rw [← hrep.rep.its]; simp [Z.zl, Z.zr]
  have HTP : Hid (tp = t0.root) := Lib.hid hrep.rep.up
  have HL0 : Hid (hd t0.its = hd (L.drop 0)) := Lib.hid (by rw [← eL]; rfl)
  have HREP := Lib.hid hrep
  have HT := Lib.hid hT
  have cb := hB.cell
  have c2 := hT.tr.st.cell 2
  have HLEAST := Lib.hid (fun w' (t' : Tr w' g b cap (.pointer (some ⟨ga, 0, none⟩)) n' tp m) => least_any w' t' HREP.out.rep)
  rw [← HTP.out] at HLEAST
  clear hrep hT eL
  refine callsIn_of_wp Try.func93 rfl trivial ?_ rfl
  simp only [Try.ntmps93, List.size_toArray, List.length_cons, List.length_nil, Nat.reduceAdd, Nat.reduceSub, Array.replicate_succ, Array.replicate_zero, List.push_toArray, List.append_toArray, List.nil_append, List.cons_append]
  gi_wp2
  gi_quiet ((gi_at_call 74; exact CallsIn.quiet_of_same (callsIn_wide.2 (HLEAST.out _ (HT.out.tr.drewN _)))))
  rw [HL0.out]
  have HT1 := Lib.hid (HT.out.drewN nq)
  have HK1 : Hid (KpB n₀ Bt W (W.drewN nq)) := Lib.hid ((KpB.refl n₀ Bt W).drewN nq)
  have HJ1 := Lib.hid (hJd _ _ nq h0)
  have HB1 := Lib.hid (show Boxed (W.drewN nq) Bt 81 (.pointer (some ⟨g, 0, none⟩)) from hB)
  have HLN : Hid ((L.map (·.2)).length = L.length) := Lib.hid (List.length_map _)
  clear cb c2 HLEAST HTP HL0 hB h0 HT
  generalize W.drewN nq = W1 at *
  have cb := HB1.out.cell
  have HLEN := Lib.hid (tlen_any W1 HT1.out.at)
  rw [HLN.out] at HLEN
  gi_wp2_with (gi_at_call 94; refine (callsIn_wide.2 HLEN.out).mono ?_; rintro e W2 ⟨rfl, k2, hw2⟩; have HW2 := Lib.hid hw2; clear hw2)
  gi_loopw [3, 12] (fun a3 a12 wr => ∃ k : Nat, k ≤ L.length ∧ a12 = .int .i64 k ∧ a3 = .int .i64 (hd (L.drop k) : Int) ∧ J (L.attach.take k) wr ∧ KpB n₀ Bt W1 wr)
    (fun _ i _ => L.length - (intOf i).toNat)
  case atStart => exact ⟨0, Nat.zero_le _, rfl, rfl, by rw [HW2.out]; exact hJd _ _ _ HJ1.out, by rw [HW2.out]; exact (KpB.refl _ _ _).drewN _⟩
  case round =>
    obtain ⟨k, hk, rfl, rfl, hJs, hK⟩ := hrel
    have HK := Lib.hid hK; have HJs := Lib.hid hJs
    clear hK hJs cb HLEN
    by_cases hlt : k < L.length
    · obtain ⟨y, hay, hx⟩ := attach_at hlt
      obtain ⟨x, hxy⟩ : ∃ x, x = y.1 := ⟨_, rfl⟩
      rw [← hxy] at hx
      obtain ⟨hd1, hd2, hd3⟩ := hd_drop hx
      obtain ⟨z', kx, c, l', r, hpos, hnext⟩ := HREP.out.nextAt hx
      have hx0 := (HREP.out.keyAt x (List.mem_of_getElem? hx)).2.1
      have hx' : ((x.1 : Int) == 0) = false := by rw [beq_eq_false_iff_ne]; omega
      obtain ⟨fn, tmps, assign, body, hy, hR⟩ := hY (L.attach.take k) y wr HJs.out (by simp; omega)
      rw [← hxy] at hy
      have HNEXT := Lib.hid (fun w' (t' : Tr w' g b cap (.pointer (some ⟨ga, 0, none⟩)) n' tp m) => next_any w' t' hpos.rep)
      rw [hnext] at HNEXT
      have HTK : Hid (L.attach.take k ++ [y] = L.attach.take (k + 1)) := Lib.hid (take_at hay).symm
      have HPRE : Hid (L.attach.take (k + 1) <+: L.attach) := Lib.hid (List.take_prefix _ _)
      have hki : (k : Int) < (L.length : Int) := by omega
      have HR := Lib.hid hR
      rw [hd1]
      clear hpos hnext hx hd1 hd2 hd3 hR hxy hay
      gi_wp2
      refine HR.out.mono ?_
      rintro e W3 (⟨rfl, hJ3, hk3⟩ | ⟨rfl, hJx3⟩)
      · have HK3 := Lib.hid (HK.out.trans hk3)
        rw [HTK.out] at hJ3
        have HJ3 := Lib.hid hJ3
        have HT3 := Lib.hid (HT1.out.below HK3.out.1 hS)
        have cb : W3.cell? ⟨Bt, 0, none⟩ = some (.pointer (some ⟨g, 0, none⟩)) := (World.cell?_of_block HK3.out.2).trans HB1.out.cell
        clear hJ3 hk3
        gi_wp2_with (gi_at_call 77; refine (callsIn_wide.2 (HNEXT.out _ HT3.out.tr)).mono ?_; rintro e W4 ⟨rfl, k4, hw4⟩; have HW4 := Lib.hid hw4; clear hw4)
        go_roundw
        case rel => exact ⟨k + 1, by omega, by go_num, rfl, by rw [HW4.out]; exact hJd _ _ _ HJ3.out, by rw [HW4.out]; exact HK3.out.drewN _⟩
        case measure => simp [intOf]; omega
      · rw [HTK.out] at hJx3
        gi_wp2
        refine bodyPost_ret (results_none rfl _ _ _) rfl ?_
        exact ⟨⟨_, rfl⟩, .inr ⟨_, HPRE.out, hJx3⟩⟩
    · obtain rfl : k = L.length := by omega
      have hJL : J L.attach wr := by have := HJs.out; rwa [List.take_of_length_le (by simp)] at this
      gi_wp2
      go_end0
      exact ⟨⟨_, rfl⟩, .inl ⟨_, rfl, hJL⟩⟩

theorem rise_stops (n : Nat) (hn : 1 ≤ n) (Bt n₀ : Nat) {S : Nat → Prop} {g ga b cap n' tp : Nat} {m : Nat → Nd} {L : List (Nat × Key)} {s : St} {Sa : Nat → Prop} (w : World) (hS : ∀ k, S k → k < n₀) (hn₀ : n₀ ≤ w.heap.size)
    (hT : TreeIn w S g ga b cap n' tp m L s Sa) (hB : Boxed w Bt 81 (.pointer (some ⟨g, 0, none⟩))) :
    SeqStopsK Fence.wide n Try.prog 93 #[.pointer (some ⟨Bt, 0, none⟩)] (fun x : {x : Nat × Key // x ∈ L} => #[Value.int .i64 (x.1.1 : Int)]) (KpB n₀ Bt) (fun ys => ys = L.attach) (fun pre => pre <+: L.attach) L.length w := fun l J Jx W hW hJ _ hY h0 => by
  have hB' : Boxed W Bt 81 (.pointer (some ⟨g, 0, none⟩)) := (hW.block Bt hB.lt).trans hB
  exact rise1_in n hn l Bt n₀ hS J Jx W (fun pre W1 k h => hJ pre W1 _ none h ⟨rfl, rfl, rfl, Nat.le_refl _, fun _ _ _ => rfl⟩ (fun r e => by cases e)) hY (hT.below (hW.mono hn₀) hS) hB' h0
end Go.Proofs.Ytnljjdfajmjdjaa
namespace Go.Proofs.Ytnljjdfajmjdjaa
open Go.RowKit Go.Shelf
set_option maxRecDepth 100000
variable {F : Fence} {n : Nat} {P : Program}

/-- No block of cells has turned but those of R. -/
def KeepC (R : Nat → Prop) (W W' : World) : Prop := ∀ k o, W.heap[k]? = some o → o.isCells = true → ¬ R k → W'.heap[k]? = some o
theorem Keep.c {R : Nat → Prop} {W W' : World} (h : Keep R W W') : KeepC R W W' := fun k _ hk _ hr => (h.block k (Array.getElem?_eq_some_iff.1 hk).1 hr).trans hk
theorem KeepC.whole {R : Nat → Prop} {W W' : World} (h : KeepC R W W') {g : Nat} {t : TypeId} {cs : Array Value} (hw : Whole W g t cs) (hr : ¬ R g) : Whole W' g t cs := h g _ hw rfl hr
/-- What a round says to such an iterator, which began where the heap had B blocks. -/
def RoundsC {α : Type} (c : Nat) (F : Fence) (m : Nat) (P : Program) (l : Nat) (encs : α → Array Value) (R : Nat → Prop) (N B : Nat) (J Jx : List α → World → Prop) : Prop :=
  ∀ pre x W, J pre W → pre.length < N → B + c ≤ W.heap.size → YieldAt F m P l (encs x) W fun e W' => KeepsFrom B W W' ∧ KeepC R W W' ∧
    ((e = .returned (.bool true) ∧ J (pre ++ [x]) W' ∧ Keep R W W') ∨ (e = .returned (.bool false) ∧ Jx (pre ++ [x]) W'))
/-- What such an iterator does: all of S, in order, or a part, of Sp; the first c blocks that it lays are its own. -/
def GivesC {α : Type} (c : Nat) (F : Fence) (m : Nat) (P : Program) (g : Nat) (lb : Array Value) (encs : α → Array Value) (R : Nat → Prop) (S Sp : List α → Prop) (N : Nat) (w : World) : Prop :=
  ∀ (l : Nat) (J Jx : List α → World → Prop) (W : World), Below w.heap.size w W → OwnFrom W.heap.size J → OwnFrom W.heap.size Jx → RoundsC c F (m - 1) P l encs (fun k => R k ∨ W.heap.size + c ≤ k) N W.heap.size J Jx → J [] W →
    CallsIn F m P g (#[.func (.yield l) #[] #[]] ++ lb) W fun e W' => (∃ v, e = .returned v) ∧ ((∃ xs, S xs ∧ J xs W') ∨ (∃ pre, Sp pre ∧ Jx pre W'))
/-- What a round's body leaves. -/
def ownPostC {α : Type} (B : Nat) (Kp : World → World → Prop) (I : List α → World → Prop) (Ix : Code → List α → World → Prop) (xs : List α) (W : World) : Exit → Act → World → Prop
  | .normal, _, W' => KeepsFrom B W W' ∧ Kp W W' ∧ I xs W'
  | .ret, _, W' => KeepsFrom B W W' ∧ Kp W W' ∧ Ix .ret xs W'
  | .exit id, _, W' => KeepsFrom B W W' ∧ Kp W W' ∧ Ix (.exit id) xs W'
  | .goto t, _, W' => KeepsFrom B W W' ∧ Kp W W' ∧ Ix (.goto t) xs W'
  | .panic _, _, _ => False
  | .outgrown, _, _ => False

theorem range_lawC {α : Type} {c : Nat} {g : Operand} {ps : Array Tmp} {assign body : Code} {Q : Exit → Act → World → Prop} {a : Act} {w : World}
    (hro : F.round = none) (h1 : 1 ≤ n) {gf : Nat} {lb : Array Value} (hg : a.eval g = .func (.func gf) #[] lb) (hFg : F.fn gf) (eg : ∀ args w, (callFunc gf args).run P w = .ok (.enter gf args) w)
    {encs : α → Array Value} {R : Nat → Prop} {S Sp : List α → Prop} {N : Nat} {w0 : World} (hseq : GivesC c F (n - 1) P gf lb encs R S Sp N w0) (hb0 : Below w0.heap.size w0 w) (hps : ∀ x, (encs x).size = ps.size)
    (I : List α → World → Prop) (Ix : Code → List α → World → Prop) (hI : OwnFrom w.heap.size I) (hIx : ∀ co, OwnFrom w.heap.size (Ix co)) (h0 : I [] w) (a₁ : α → Act)
    (hassign : ∀ (l : Nat) (x : α) (W : World) (K : Act → World → Prop), K (a₁ x) W →
      assign.wpIn (F.inRound l) (n - 1 - 1) P (Exit.then K (fun _ _ _ => False)) { tmps := (ps.zip (encs x)).foldl (fun t (p, v) => t.setIfInBounds p v) a.tmps, defers := [] } W)
    (hbody : ∀ (l : Nat) (pre : List α) (x : α) (W : World), I pre W → pre.length < N → w.heap.size + 2 + c ≤ W.heap.size → body.wpIn (F.inRound l) (n - 1 - 1) P (ownPostC w.heap.size (Keep (fun k => R k ∨ w.heap.size + 2 + c ≤ k)) I Ix (pre ++ [x]) W) (a₁ x) W)
    (hdone : ∀ (D : Nat) (xs : List α) (W : World), w.heap.size ≤ D → S xs → I xs W → W.heap[D]? = some (.deferred (some [])) → Q .normal { a with defers := { target := .collected D, args := #[] } :: a.defers } W)
    (hstop : ∀ (D : Nat) (co : Code) (pre : List α) (W : World), w.heap.size ≤ D → Sp pre → Ix co pre W → W.heap[D]? = some (.deferred (some [])) → co.wpIn F n P Q { a with defers := { target := .collected D, args := #[] } :: a.defers } W) :
    (Code.rangeFunc g ps assign body).wpIn F n P Q a w := by
  refine wpIn_rangeFunc fun fn hfn => ?_
  rw [hro]
  obtain ⟨rc, hrc⟩ : ∃ rc : LoopState → Option Code → Obj, rc = fun st pe => .loop { state := st, pending := pe, fn, tmps := a.tmps, params := ps, assign, body, defers := w.heap.size } := ⟨_, rfl⟩
  obtain ⟨d, hd⟩ : ∃ d, d = w.heap.size := ⟨_, rfl⟩
  obtain ⟨l, hl⟩ : ∃ l, l = d + 1 := ⟨_, rfl⟩
  obtain ⟨W1, hW1⟩ : ∃ W1, W1 = (w.alloc (.deferred (some []))).alloc (rc .ready none) := ⟨_, rfl⟩
  have hs1 : W1.heap.size = d + 2 := by rw [hW1, hd]; simp
  have hL1 : W1.heap[l]? = some (rc .ready none) := by
    have := World.alloc_heap_new (w.alloc (.deferred (some []))) (rc .ready none)
    rw [World.size_alloc] at this
    rw [hW1, hl, hd]; exact this
  have hD1 : W1.heap[d]? = some (.deferred (some [])) := by
    rw [hW1, hd]; exact (Below.heap_alloc _ _ _ (by simp)).trans (World.alloc_heap_new w _)
  have hI1 : I [] W1 := by rw [hW1]; exact hI.alloc _ (hI.alloc _ h0)
  have hb1 : Below w0.heap.size w0 W1 := by
    rw [hW1]; exact hb0.trans ((((Below.refl _ w).alloc (Nat.le_refl _) _).alloc (by simp) _).mono hb0.size)
  have hcall := hseq l
    (fun pre W => I pre W ∧ W.heap[l]? = some (rc .ready none) ∧ W.heap[d]? = some (.deferred (some [])))
    (fun pre W => ∃ co, Ix co pre W ∧ W.heap[l]? = some (rc .done (some co)) ∧ W.heap[d]? = some (.deferred (some [])))
    W1 hb1
    (fun s A B row hs hgr hr => ⟨hI s A B row hs.1 hgr (fun r e => ⟨by have := (hr r e).1; omega, (hr r e).2⟩), grown_far hgr hr (by omega) hs.2.1, grown_far hgr hr (by omega) hs.2.2⟩)
    (fun s A B row hs hgr hr => by
      obtain ⟨co, hc, hcl, hcd⟩ := hs
      exact ⟨co, hIx co s A B row hc hgr (fun r e => ⟨by have := (hr r e).1; omega, (hr r e).2⟩), grown_far hgr hr (by omega) hcl, grown_far hgr hr (by omega) hcd⟩)
    (by
      rintro pre x W ⟨hi, hlp, hdf⟩ hlen hroom
      have hlt : l < W.heap.size := (Array.getElem?_eq_some_iff.1 hlp).1
      have hlp' := hlp
      rw [hrc] at hlp'
      obtain ⟨ob, hob⟩ : ∃ ob : Obj, ob = rc .busy none := ⟨_, rfl⟩
      have hob' := hob
      rw [hrc] at hob'
      have hbr : (Instr.beginRound l).run P W = .ok () (W.putObj l ob) := by rw [hob']; exact run_beginRound hlp' rfl
      refine ⟨fn, _, assign, body, run_yield (P := P) (args := encs x) hlp' (hps x), roundIn_of_wpIn hfn (hassign _ x W _ ⟨_, hbr, ?_⟩)⟩
      have hbz : (W.putObj l ob).heap[l]? = some ob := World.putObj_heap_same hlt
      have hbd : (W.putObj l ob).heap[d]? = some (.deferred (some [])) := (World.putObj_heap_other (by omega)).trans hdf
      have hnc : ob.isCells = false := by rw [hob']; rfl
      refine wpIn_mono (hbody _ pre x _ (hI.putObj _ hi (by omega) hlp (by rw [hrc]; rfl)) hlen (by simp [World.putObj]; omega)) ?_
      have fin : ∀ (jump : Option Code) (W3 : World), KeepsFrom w.heap.size (W.putObj l ob) W3 → ∃ o3 : Obj, o3 = rc (if jump.isNone then .ready else .done) jump ∧
          (Instr.endRound l jump).run P W3 = .ok (.bool jump.isNone) (W3.putObj l o3) ∧ W3.heap[l]? = some ob ∧ (W3.putObj l o3).heap[l]? = some o3 ∧ (W3.putObj l o3).heap[d]? = some (.deferred (some [])) ∧ KeepsFrom W1.heap.size W (W3.putObj l o3) := fun jump W3 hk3 => by
        have hl3 := hk3.same l ob (by omega) hbz hnc
        have hd3 := hk3.same d _ (by omega) hbd rfl
        have hl3' := hl3
        rw [hob'] at hl3'
        refine ⟨_, rfl, ?_, hl3, World.putObj_heap_same (Array.getElem?_eq_some_iff.1 hl3).1, (World.putObj_heap_other (by omega)).trans hd3, ?_, fun k o hk hko ho => ?_⟩
        · rw [hrc]; exact run_endRound (P := P) jump hl3'
        · have := hk3.size
          simpa [World.putObj] using this
        · exact (World.putObj_heap_other (by omega)).trans (hk3.same k o (by omega) ((World.putObj_heap_other (by omega)).trans hko) ho)
      have hmono : ∀ k, (fun k => R k ∨ w.heap.size + 2 + c ≤ k) k → (fun k => R k ∨ W1.heap.size + c ≤ k) k := fun k h => h.imp id (fun h => by omega)
      have hkc : ∀ (o3 : Obj) (W3 : World), Keep (fun k => R k ∨ w.heap.size + 2 + c ≤ k) (W.putObj l ob) W3 → KeepC (fun k => R k ∨ W1.heap.size + c ≤ k) W (W3.putObj l o3) := fun o3 W3 h k o hk hko hr => by
        have hkl : k ≠ l := fun e => by subst e; rw [hlp] at hk; cases hk; rw [hrc] at hko; cases hko
        rw [World.putObj_heap_other hkl, h.block k (by have := (Array.getElem?_eq_some_iff.1 hk).1; simpa [World.putObj] using this) (fun h => hr (hmono k h)), World.putObj_heap_other hkl]
        exact hk
      rintro e a3 W3 hp
      cases e with
      | normal =>
        obtain ⟨hk3, hkp3, hi3⟩ := hp
        obtain ⟨o3, ho3, hr3, hl3, hl4, hd4, hk4⟩ := fin none W3 hk3
        refine ⟨_, _, hr3, hk4, hkc _ _ hkp3, .inl ⟨rfl, ⟨hI.putObj _ hi3 (by omega) hl3 hnc, by rw [hl4, ho3]; rfl, hd4⟩, ?_⟩⟩
        rw [show o3 = rc .ready none from ho3]
        exact (keep_back hlp hkp3).mono hmono
      | ret =>
        obtain ⟨hk3, hkp3, hi3⟩ := hp
        obtain ⟨o3, ho3, hr3, hl3, hl4, hd4, hk4⟩ := fin (some .ret) W3 hk3
        exact ⟨_, _, hr3, hk4, hkc _ _ hkp3, .inr ⟨rfl, .ret, (hIx _).putObj _ hi3 (by omega) hl3 hnc, by rw [hl4, ho3]; rfl, hd4⟩⟩
      | exit id =>
        obtain ⟨hk3, hkp3, hi3⟩ := hp
        obtain ⟨o3, ho3, hr3, hl3, hl4, hd4, hk4⟩ := fin (some (.exit id)) W3 hk3
        exact ⟨_, _, hr3, hk4, hkc _ _ hkp3, .inr ⟨rfl, .exit id, (hIx _).putObj _ hi3 (by omega) hl3 hnc, by rw [hl4, ho3]; rfl, hd4⟩⟩
      | goto t =>
        obtain ⟨hk3, hkp3, hi3⟩ := hp
        obtain ⟨o3, ho3, hr3, hl3, hl4, hd4, hk4⟩ := fin (some (.goto t)) W3 hk3
        exact ⟨_, _, hr3, hk4, hkc _ _ hkp3, .inr ⟨rfl, .goto t, (hIx _).putObj _ hi3 (by omega) hl3 hnc, by rw [hl4, ho3]; rfl, hd4⟩⟩
      | panic ch => exact hp.elim
      | outgrown => exact hp.elim)
    ⟨hI1, hL1, hD1⟩
  have hend : ∀ (st : LoopState) (pe : Option Code) (W2 : World), st ≠ .busy → W2.heap[l]? = some (rc st pe) → ∃ o4 : Obj, (Instr.endLoop l).run P W2 = .ok pe (W2.putObj l o4) := fun st pe W2 hst h => by
    rw [hrc] at h
    exact ⟨_, run_endLoop (P := P) h hst⟩
  have hent : (Instr.enterLoop fn a.tmps ps assign body none).run P w = .ok (l, [{ target := .collected d, args := #[] }]) W1 := by
    rw [hW1, hl, hd, hrc]; exact run_enterLoop_outer _ _ _ _ _
  refine ⟨l, [{ target := .collected d, args := #[] }], W1, { target := .fn (.func gf) lb, args := #[.func (.yield l) #[] #[]] }, W1, gf, #[.func (.yield l) #[] #[]] ++ lb, W1, hent, ?_, ?_, ?_, fun _ => h1, ?_⟩
  · clear hcall hend hseq
    simp only [resolve, hg]
    simp [go_sem]
  · intro f' hf'; simp [Target.leads] at hf'; subst hf'; exact hFg
  · clear hcall hend hseq
    simp [invoke, go_sem, eg]
  · refine CallsIn.mono hcall ?_
    rintro e W2 ⟨⟨v, rfl⟩, (⟨xs, hS, hi, hlp, hdf⟩ | ⟨pre, hSp, co, hi, hlp, hdf⟩)⟩
    · obtain ⟨o4, h4⟩ := hend .ready none W2 (by simp) hlp
      exact ⟨none, _, h4, hdone d xs _ (by omega) hS (hI.putObj _ hi (by omega) hlp (by rw [hrc]; rfl)) ((World.putObj_heap_other (by omega)).trans hdf)⟩
    · obtain ⟨o4, h4⟩ := hend .done (some co) W2 (by simp) hlp
      exact ⟨some co, _, h4, hstop d co pre _ (by omega) hSp ((hIx co).putObj _ hi (by omega) hlp (by rw [hrc]; rfl)) ((World.putObj_heap_other (by omega)).trans hdf)⟩
theorem range_lawB {α : Type} {c : Nat} {g : Operand} {ps : Array Tmp} {assign body : Code} {Q : Exit → Act → World → Prop} {a : Act} {w : World}
    (hro : F.round = none) (h1 : 1 ≤ n) {gf : Nat} {lb : Array Value} (hg : a.eval g = .func (.func gf) #[] lb) (hFg : F.fn gf) (eg : ∀ args w, (callFunc gf args).run P w = .ok (.enter gf args) w)
    {encs : α → Array Value} {R : Nat → Prop} {S Sp : List α → Prop} {N : Nat} {w0 : World} (hseq : GivesC c F (n - 1) P gf lb encs R S Sp N w0) (hb0 : Below w0.heap.size w0 w) (hps : ∀ x, (encs x).size = ps.size)
    (I : List α → World → Prop) (Ix : Code → List α → World → Prop) (hI : OwnFrom w.heap.size I) (hIx : ∀ co, OwnFrom w.heap.size (Ix co)) (h0 : I [] w) (a₁ : α → Nat → Act) (mk : α → Obj)
    (hassign : ∀ (l : Nat) (x : α) (W : World) (K : Act → World → Prop), K (a₁ x W.heap.size) (W.alloc (mk x)) →
      assign.wpIn (F.inRound l) (n - 1 - 1) P (Exit.then K (fun _ _ _ => False)) { tmps := (ps.zip (encs x)).foldl (fun t (p, v) => t.setIfInBounds p v) a.tmps, defers := [] } W)
    (hbody : ∀ (l : Nat) (pre : List α) (x : α) (W : World) (B : Nat), I pre W → W.heap[B]? = some (mk x) → w.heap.size ≤ B → pre.length < N → w.heap.size + 2 + c ≤ W.heap.size → body.wpIn (F.inRound l) (n - 1 - 1) P (ownPostC w.heap.size (Keep (fun k => R k ∨ w.heap.size + 2 + c ≤ k)) I Ix (pre ++ [x]) W) (a₁ x B) W)
    (hdone : ∀ (D : Nat) (xs : List α) (W : World), w.heap.size ≤ D → S xs → I xs W → W.heap[D]? = some (.deferred (some [])) → Q .normal { a with defers := { target := .collected D, args := #[] } :: a.defers } W)
    (hstop : ∀ (D : Nat) (co : Code) (pre : List α) (W : World), w.heap.size ≤ D → Sp pre → Ix co pre W → W.heap[D]? = some (.deferred (some [])) → co.wpIn F n P Q { a with defers := { target := .collected D, args := #[] } :: a.defers } W) :
    (Code.rangeFunc g ps assign body).wpIn F n P Q a w := by
  refine wpIn_rangeFunc fun fn hfn => ?_
  rw [hro]
  obtain ⟨rc, hrc⟩ : ∃ rc : LoopState → Option Code → Obj, rc = fun st pe => .loop { state := st, pending := pe, fn, tmps := a.tmps, params := ps, assign, body, defers := w.heap.size } := ⟨_, rfl⟩
  obtain ⟨d, hd⟩ : ∃ d, d = w.heap.size := ⟨_, rfl⟩
  obtain ⟨l, hl⟩ : ∃ l, l = d + 1 := ⟨_, rfl⟩
  obtain ⟨W1, hW1⟩ : ∃ W1, W1 = (w.alloc (.deferred (some []))).alloc (rc .ready none) := ⟨_, rfl⟩
  have hs1 : W1.heap.size = d + 2 := by rw [hW1, hd]; simp
  have hL1 : W1.heap[l]? = some (rc .ready none) := by
    have := World.alloc_heap_new (w.alloc (.deferred (some []))) (rc .ready none)
    rw [World.size_alloc] at this
    rw [hW1, hl, hd]; exact this
  have hD1 : W1.heap[d]? = some (.deferred (some [])) := by
    rw [hW1, hd]; exact (Below.heap_alloc _ _ _ (by simp)).trans (World.alloc_heap_new w _)
  have hI1 : I [] W1 := by rw [hW1]; exact hI.alloc _ (hI.alloc _ h0)
  have hb1 : Below w0.heap.size w0 W1 := by
    rw [hW1]; exact hb0.trans ((((Below.refl _ w).alloc (Nat.le_refl _) _).alloc (by simp) _).mono hb0.size)
  have hcall := hseq l
    (fun pre W => I pre W ∧ W.heap[l]? = some (rc .ready none) ∧ W.heap[d]? = some (.deferred (some [])))
    (fun pre W => ∃ co, Ix co pre W ∧ W.heap[l]? = some (rc .done (some co)) ∧ W.heap[d]? = some (.deferred (some [])))
    W1 hb1
    (fun s A B row hs hgr hr => ⟨hI s A B row hs.1 hgr (fun r e => ⟨by have := (hr r e).1; omega, (hr r e).2⟩), grown_far hgr hr (by omega) hs.2.1, grown_far hgr hr (by omega) hs.2.2⟩)
    (fun s A B row hs hgr hr => by
      obtain ⟨co, hc, hcl, hcd⟩ := hs
      exact ⟨co, hIx co s A B row hc hgr (fun r e => ⟨by have := (hr r e).1; omega, (hr r e).2⟩), grown_far hgr hr (by omega) hcl, grown_far hgr hr (by omega) hcd⟩)
    (by
      rintro pre x W0 ⟨hi0, hlp0, hdf0⟩ hlen hroom0
      have hlt0 : l < W0.heap.size := (Array.getElem?_eq_some_iff.1 hlp0).1
      have hlp0' := hlp0
      rw [hrc] at hlp0'
      obtain ⟨W, hW⟩ : ∃ W, W = W0.alloc (mk x) := ⟨_, rfl⟩
      have kW : Keep (fun _ => False) W0 W := by rw [hW]; exact (Keep.refl _ _).alloc _
      have hi : I pre W := by rw [hW]; exact hI.alloc _ hi0
      have hlp : W.heap[l]? = some (rc .ready none) := (kW.block l hlt0 id).trans hlp0
      have hdf : W.heap[d]? = some (.deferred (some [])) := (kW.block d (by omega) id).trans hdf0
      have hB : W.heap[W0.heap.size]? = some (mk x) := by rw [hW]; exact World.alloc_heap_new _ _
      have hlt : l < W.heap.size := (Array.getElem?_eq_some_iff.1 hlp).1
      have hroom : W1.heap.size + c ≤ W.heap.size := Nat.le_trans hroom0 kW.size
      have hlp' := hlp
      rw [hrc] at hlp'
      obtain ⟨ob, hob⟩ : ∃ ob : Obj, ob = rc .busy none := ⟨_, rfl⟩
      have hob' := hob
      rw [hrc] at hob'
      have hbr : (Instr.beginRound l).run P W = .ok () (W.putObj l ob) := by rw [hob']; exact run_beginRound hlp' rfl
      refine ⟨fn, _, assign, body, run_yield (P := P) (args := encs x) hlp0' (hps x), roundIn_of_wpIn hfn (hassign _ x W0 _ ?_)⟩
      rw [← hW]
      refine ⟨_, hbr, ?_⟩
      have hbz : (W.putObj l ob).heap[l]? = some ob := World.putObj_heap_same hlt
      have hbd : (W.putObj l ob).heap[d]? = some (.deferred (some [])) := (World.putObj_heap_other (by omega)).trans hdf
      have hnc : ob.isCells = false := by rw [hob']; rfl
      refine wpIn_mono (hbody _ pre x _ W0.heap.size (hI.putObj _ hi (by omega) hlp (by rw [hrc]; rfl)) ((World.putObj_heap_other (by omega)).trans hB) (by omega) hlen (by simp [World.putObj]; omega)) ?_
      have fin : ∀ (jump : Option Code) (W3 : World), KeepsFrom w.heap.size (W.putObj l ob) W3 → ∃ o3 : Obj, o3 = rc (if jump.isNone then .ready else .done) jump ∧
          (Instr.endRound l jump).run P W3 = .ok (.bool jump.isNone) (W3.putObj l o3) ∧ W3.heap[l]? = some ob ∧ (W3.putObj l o3).heap[l]? = some o3 ∧ (W3.putObj l o3).heap[d]? = some (.deferred (some [])) ∧ KeepsFrom W1.heap.size W0 (W3.putObj l o3) := fun jump W3 hk3 => by
        have hl3 := hk3.same l ob (by omega) hbz hnc
        have hd3 := hk3.same d _ (by omega) hbd rfl
        have hl3' := hl3
        rw [hob'] at hl3'
        refine ⟨_, rfl, ?_, hl3, World.putObj_heap_same (Array.getElem?_eq_some_iff.1 hl3).1, (World.putObj_heap_other (by omega)).trans hd3, ?_, fun k o hk hko ho => ?_⟩
        · rw [hrc]; exact run_endRound (P := P) jump hl3'
        · have := hk3.size
          have := kW.size
          simp [World.putObj] at *
          omega
        · have hko' : W.heap[k]? = some o := (kW.block k (Array.getElem?_eq_some_iff.1 hko).1 id).trans hko
          exact (World.putObj_heap_other (by omega)).trans (hk3.same k o (by omega) ((World.putObj_heap_other (by omega)).trans hko') ho)
      have hmono : ∀ k, (fun k => R k ∨ w.heap.size + 2 + c ≤ k) k → (fun k => R k ∨ W1.heap.size + c ≤ k) k := fun k h => h.imp id (fun h => by omega)
      have hkc : ∀ (o3 : Obj) (W3 : World), Keep (fun k => R k ∨ w.heap.size + 2 + c ≤ k) (W.putObj l ob) W3 → KeepC (fun k => R k ∨ W1.heap.size + c ≤ k) W0 (W3.putObj l o3) := fun o3 W3 h k o hk0 hko hr => by
        have hk : W.heap[k]? = some o := (kW.block k (Array.getElem?_eq_some_iff.1 hk0).1 id).trans hk0
        have hkl : k ≠ l := fun e => by subst e; rw [hlp] at hk; cases hk; rw [hrc] at hko; cases hko
        rw [World.putObj_heap_other hkl, h.block k (by have := (Array.getElem?_eq_some_iff.1 hk).1; simpa [World.putObj] using this) (fun h => hr (hmono k h)), World.putObj_heap_other hkl]
        exact hk
      rintro e a3 W3 hp
      cases e with
      | normal =>
        obtain ⟨hk3, hkp3, hi3⟩ := hp
        obtain ⟨o3, ho3, hr3, hl3, hl4, hd4, hk4⟩ := fin none W3 hk3
        refine ⟨_, _, hr3, hk4, hkc _ _ hkp3, .inl ⟨rfl, ⟨hI.putObj _ hi3 (by omega) hl3 hnc, by rw [hl4, ho3]; rfl, hd4⟩, ?_⟩⟩
        rw [show o3 = rc .ready none from ho3]
        exact (kW.mono (fun _ h => h.elim)).trans ((keep_back hlp hkp3).mono hmono)
      | ret =>
        obtain ⟨hk3, hkp3, hi3⟩ := hp
        obtain ⟨o3, ho3, hr3, hl3, hl4, hd4, hk4⟩ := fin (some .ret) W3 hk3
        exact ⟨_, _, hr3, hk4, hkc _ _ hkp3, .inr ⟨rfl, .ret, (hIx _).putObj _ hi3 (by omega) hl3 hnc, by rw [hl4, ho3]; rfl, hd4⟩⟩
      | exit id =>
        obtain ⟨hk3, hkp3, hi3⟩ := hp
        obtain ⟨o3, ho3, hr3, hl3, hl4, hd4, hk4⟩ := fin (some (.exit id)) W3 hk3
        exact ⟨_, _, hr3, hk4, hkc _ _ hkp3, .inr ⟨rfl, .exit id, (hIx _).putObj _ hi3 (by omega) hl3 hnc, by rw [hl4, ho3]; rfl, hd4⟩⟩
      | goto t =>
        obtain ⟨hk3, hkp3, hi3⟩ := hp
        obtain ⟨o3, ho3, hr3, hl3, hl4, hd4, hk4⟩ := fin (some (.goto t)) W3 hk3
        exact ⟨_, _, hr3, hk4, hkc _ _ hkp3, .inr ⟨rfl, .goto t, (hIx _).putObj _ hi3 (by omega) hl3 hnc, by rw [hl4, ho3]; rfl, hd4⟩⟩
      | panic ch => exact hp.elim
      | outgrown => exact hp.elim)
    ⟨hI1, hL1, hD1⟩
  have hend : ∀ (st : LoopState) (pe : Option Code) (W2 : World), st ≠ .busy → W2.heap[l]? = some (rc st pe) → ∃ o4 : Obj, (Instr.endLoop l).run P W2 = .ok pe (W2.putObj l o4) := fun st pe W2 hst h => by
    rw [hrc] at h
    exact ⟨_, run_endLoop (P := P) h hst⟩
  have hent : (Instr.enterLoop fn a.tmps ps assign body none).run P w = .ok (l, [{ target := .collected d, args := #[] }]) W1 := by
    rw [hW1, hl, hd, hrc]; exact run_enterLoop_outer _ _ _ _ _
  refine ⟨l, [{ target := .collected d, args := #[] }], W1, { target := .fn (.func gf) lb, args := #[.func (.yield l) #[] #[]] }, W1, gf, #[.func (.yield l) #[] #[]] ++ lb, W1, hent, ?_, ?_, ?_, fun _ => h1, ?_⟩
  · clear hcall hend hseq
    simp only [resolve, hg]
    simp [go_sem]
  · intro f' hf'; simp [Target.leads] at hf'; subst hf'; exact hFg
  · clear hcall hend hseq
    simp [invoke, go_sem, eg]
  · refine CallsIn.mono hcall ?_
    rintro e W2 ⟨⟨v, rfl⟩, (⟨xs, hS, hi, hlp, hdf⟩ | ⟨pre, hSp, co, hi, hlp, hdf⟩)⟩
    · obtain ⟨o4, h4⟩ := hend .ready none W2 (by simp) hlp
      exact ⟨none, _, h4, hdone d xs _ (by omega) hS (hI.putObj _ hi (by omega) hlp (by rw [hrc]; rfl)) ((World.putObj_heap_other (by omega)).trans hdf)⟩
    · obtain ⟨o4, h4⟩ := hend .done (some co) W2 (by simp) hlp
      exact ⟨some co, _, h4, hstop d co pre _ (by omega) hSp ((hIx co).putObj _ hi (by omega) hlp (by rw [hrc]; rfl)) ((World.putObj_heap_other (by omega)).trans hdf)⟩
end Go.Proofs.Ytnljjdfajmjdjaa
