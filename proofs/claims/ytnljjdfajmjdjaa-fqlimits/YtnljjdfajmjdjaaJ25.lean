/-
  A region that draws its order, within a round of a range over a function: walked in one order (Sched), as outside of it. No program is spoken of. Conditions: those of each theorem.
  A region that draws its order, within a round of a range over a function, one call of which is the yield of another round: walked in one order; behind the late operations nothing more is asked of the world. No program is spoken of. Conditions: those of each theorem.
  The function that (*rbtree.Tree).All hands back, ranged over by a loop: it tells the keys, rising. Conditions: the tree lies in memory; the rounds leave what the function reads.
-/
import Derived.Test.YtnljjdfajmjdjaaJ09
import Derived.Test.YtnljjdfajmjdjaaJ21
import Derived.Test.YtnljjdfajmjdjaaJ24
import Derived.Test.YtnljjdfajmjdjaaJ16
import Derived.OrdersIn
import Derived.TacticsIn
import Derived.RangeFuncCalls
namespace Go.Proofs.Ytnljjdfajmjdjaa

section
variable {P : Program} {Q : Exit → Act → World → Prop} {l n : Nat}
theorem rowsIn_round {row : String} {args : Array Value} {w : World} {R : Value → World → Prop} (h : Rows P row args w R) : RowsIn (Fence.wide.inRound l) n P row args w R :=
  fun c cs _ => let ⟨v, w', r, s⟩ := h c cs; ⟨v, w', r, stepsIn_wide.2 s⟩
theorem uponIn_round {o : Oper} {a : Act} {K : Act → World → Prop} {r : Result Next} (h : o.upon P a K Q r) : o.uponIn (Fence.wide.inRound l) n P a K Q r := by
  cases r with
  | ok x w' =>
    cases x <;> simp only [Oper.upon, Oper.uponIn] at h ⊢ <;> first
      | exact h
      | exact ⟨fun e => by simp [Fence.wide] at e, CallsIn.inRound l (callsIn_wide.2 h)⟩
      | exact ⟨fun e => by simp [Fence.wide] at e, rowsIn_round h⟩
  | halt x w' => cases x <;> simp only [Oper.upon, Oper.uponIn] at h ⊢ <;> exact h
theorem wpOpIn_round {ops : Array Oper} (hL : ¬ LetsOut Q) (hd : ∀ (i : Nat) (o : Oper), ops[i]? = some o → ∀ c, o.op ≠ .defer c) {i : Nat} {K : Act → World → Prop} {a : Act} {w : World} (h : wpOp P ops Q i K a w) : wpOpIn (Fence.wide.inRound l) n P ops Q i K a w := by
  unfold wpOp at h
  unfold wpOpIn
  cases ho : ops[i]? with
  | none => simpa [ho] using h
  | some o =>
    simp only [ho] at h ⊢
    split
    · next hw =>
      simp only [hw, if_true] at h
      rcases h with h | h
      · refine ⟨fun _ _ => trivial, ?_⟩
        rw [show (Fence.wide.inRound l).round = some l from rfl, Oper.semAt_some l _ _ (hd i o ho)]
        exact uponIn_round h
      · exact absurd h.2 hL
    · next hw =>
      simp only [hw, if_false, Bool.false_eq_true] at h
      exact ⟨fun _ _ => trivial, h⟩
theorem wpAnyIn_round {ops : Array Oper} {md : Region.Mode} (hL : ¬ LetsOut Q) (hd : ∀ (i : Nat) (o : Oper), ops[i]? = some o → ∀ c, o.op ≠ .defer c) : ∀ (fuel : Nat) (listed : Array Bool) (a : Act) (w : World), wpAny P md ops Q fuel listed a w → wpAnyIn (Fence.wide.inRound l) n P md ops Q fuel listed a w
  | 0, _, _, _, h => h
  | fuel + 1, _, _, _, h => ⟨h.1, fun i hi => wpOpIn_round hL hd (wpOp_mono (fun a' w' h' => wpAnyIn_round hL hd fuel _ a' w' h') (h.2 i hi))⟩
def noDefer (ops : List Oper) : Bool := ops.all fun o => match o.op with | .defer _ => false | _ => true
theorem noDefer_of {ops : List Oper} (h : noDefer ops = true) (i : Nat) (o : Oper) (ho : ops.toArray[i]? = some o) (c : Call) : o.op ≠ .defer c := fun e => by
  have hm : o ∈ ops := by
    have : ops[i]? = some o := by simpa using ho
    exact List.mem_of_getElem? this
  have := List.all_eq_true.1 h o hm
  rw [e] at this
  cases this
/-- The beginning. -/
theorem wpIn_region_sch {ops : List Oper} (S : World → Prop) (sch : List (Bool × Nat)) {id : Nat} {a : Act} {w : World} (hm : P.follows .mixedOrders = true) (hs : Region.noSelect ops.toArray = true) (hl : Nat.ble sch.length ops.toArray.size = true)
    (hc : schOK ops sch (Array.replicate ops.toArray.size false) = true) (hnd : noDefer ops = true) (hL : ¬ LetsOut Q) (hS : S w.drew) (h : wpSch P ops Q S sch a w.drew) : (Code.region id ops.toArray true).wpIn (Fence.wide.inRound l) n P Q a w :=
  wpIn_region_any hm (wpAnyIn_round hL (noDefer_of hnd) _ _ _ _ (wpAny_of_held _ _ _ _ (wpAnyH_of_sch hs sch _ _ _ _ (Nat.le_of_ble_eq_true hl) hc hS h)))
end
end Go.Proofs.Ytnljjdfajmjdjaa
namespace Go.Proofs.Ytnljjdfajmjdjaa

section
variable {P : Program} {ops : List Oper} {Q : Exit → Act → World → Prop} {S : World → Prop} {late : List Nat} {n' l : Nat}

def wpAnyY (n l : Nat) (P : Program) (ops : List Oper) (Q : Exit → Act → World → Prop) (S : World → Prop) (late : List Nat) : Nat → Array Bool → Act → World → Prop
  | 0, listed, a, w => Region.ready .any ops.toArray listed = [] ∧ Q .normal a w
  | fuel + 1, listed, a, w => (Region.ready .any ops.toArray listed = [] → Q .normal a w) ∧
      ∀ i ∈ Region.ready .any ops.toArray listed, if late.contains i = true then wpOpIn (Fence.wide.inRound l) n P ops.toArray Q i (fun a' w' => wpAnyY n l P ops Q S late fuel (listed.setIfInBounds i true) a' w') a w
        else wpOp P ops.toArray Q i (fun a' w' => S w' ∧ wpAnyY n l P ops Q S late fuel (listed.setIfInBounds i true) a' w') a w

theorem wpAnyIn_of_Y (hL : ¬ LetsOut Q) (hd : ∀ (i : Nat) (o : Oper), ops.toArray[i]? = some o → ∀ c, o.op ≠ .defer c) : ∀ (fuel : Nat) (listed : Array Bool) (a : Act) (w : World), wpAnyY n' l P ops Q S late fuel listed a w → wpAnyIn (Fence.wide.inRound l) n' P .any ops.toArray Q fuel listed a w
  | 0, _, _, _, h => h
  | fuel + 1, _, _, _, h => ⟨h.1, fun i hi => by
    have h2 := h.2 i hi
    split at h2
    · exact wpOpIn_mono (fun a' w' h' => wpAnyIn_of_Y hL hd fuel _ a' w' h') h2
    · exact wpOpIn_round hL hd (wpOp_mono (fun a' w' h' => wpAnyIn_of_Y hL hd fuel _ a' w' h'.2) h2)⟩

theorem wpAnyY_first {i : Nat} {oi : Oper} {v : Value} (hi : ops.toArray[i]? = some oi) (hsel : ∀ (j : Nat) (o : Oper) cs b, ops.toArray[j]? = some o → o.op ≠ .select cs b)
    (hQ : ∀ c a w, Q (.panic c) (a.put oi.dst v) w → Q (.panic c) a w) {n : Nat} (hw : ∀ j ∈ late, waits ops i n j = true) (hli : late.contains i = false) :
    ∀ (fuel : Nat) (L : Array Bool) (a : Act) (w : World), Down ops L →
      (∀ j oj, ops.toArray[j]? = some oj → j ≠ i → L.getD j true = false → (∀ e ∈ oj.after, Region.binds .any e = true → e.on ≠ i) → oi.apart ops.toArray oj = true) →
      i ∈ Region.ready .any ops.toArray L → YieldsIf P ops.toArray S oi v a → S w →
      wpAnyY n' l P ops Q S late fuel (L.setIfInBounds i true) (a.put oi.dst v) w → wpAnyY n' l P ops Q S late (fuel + 1) L a w := by
  intro fuel
  induction fuel with
  | zero =>
    intro L a w _ _ hr hy hS H
    refine ⟨fun h => (by rw [h] at hr; cases hr), fun j hj => ?_⟩
    by_cases hji : j = i
    · subst hji; rw [if_neg (by rw [hli]; simp)]; exact hy.wpOp hi hS ⟨hS, H⟩
    · have h0 := ready_mono hj hji
      rw [H.1] at h0
      cases h0
  | succ fuel ih =>
    intro L a w hd hfree hr hy hS H
    refine ⟨fun h => (by rw [h] at hr; cases hr), fun j hj => ?_⟩
    by_cases hji : j = i
    · subst hji; rw [if_neg (by rw [hli]; simp)]; exact hy.wpOp hi hS ⟨hS, H⟩
    obtain ⟨hjun, oj, hoj, hall⟩ := mem_ready.1 hj
    have hun := not_listed hr
    have hnl : late.contains j = false := by
      cases hc : late.contains j with
      | false => rfl
      | true =>
        have := waits_down hd n j oj hoj hall (hw j (by simpa using hc))
        rw [hun] at this; cases this
    have hnot : ∀ e ∈ oj.after, Region.binds .any e = true → e.on ≠ i := fun e he hb heq => by
      have h1 := hall e he hb
      rw [heq, hun] at h1; cases h1
    have HJ := H.2 j (ready_mono hj hji)
    rw [if_neg (by rw [hnl]; simp)] at HJ ⊢
    have h2 := wpOp_putIf hoj (hfree j oj hoj hji hjun hnot) (fun cs b => hsel i oi cs b hi) (fun cs b => hsel j oj cs b hoj) hQ hy HJ
    refine wpOp_mono (fun a' w' h3 => ⟨h3.2.1, ih _ a' w' (hd.set hj) (fun k ok hk hki hun' hno => hfree k ok hk hki ?_ hno) (ready_mono hr (Ne.symm hji)) h3.1 h3.2.1 ?_⟩) h2
    · by_cases hjk : j = k
      · subst hjk; exact hjun
      · rwa [getD_set_ne true hjk] at hun'
    · rw [Array.setIfInBounds_comm _ _ hji]; exact h3.2.2


def schOKY (ops : List Oper) (late : List Nat) : List (Bool × Nat) → Array Bool → Bool
  | [], L => (Region.ready .any ops.toArray L).isEmpty
  | (true, i) :: r, L => early late L && (late.all fun j => waits ops i ops.length j) && !(late.contains i) && (Region.ready .any ops.toArray L).contains i && Region.free .any ops.toArray L i && schOKY ops late r (L.setIfInBounds i true)
  | (false, i) :: r, L => (Region.ready .any ops.toArray L == [i]) && late.contains i && schOKY ops late r (L.setIfInBounds i true)
def wpSchY (n l : Nat) (P : Program) (ops : List Oper) (Q : Exit → Act → World → Prop) (S : World → Prop) : List (Bool × Nat) → Act → World → Prop
  | [], a, w => Q .normal a w
  | (true, i) :: r, a, w => ∃ o v, nthOp ops i = some o ∧ (∀ c a w, Q (.panic c) (a.put o.dst v) w → Q (.panic c) a w) ∧ YieldsIf P ops.toArray S o v a ∧ wpSchY n l P ops Q S r (a.put o.dst v) w
  | (false, i) :: r, a, w => wpOpIn (Fence.wide.inRound l) n P ops.toArray Q i (fun a' w' => wpSchY n l P ops Q S r a' w') a w

theorem wpAnyY_of_sch (hs : Region.noSelect ops.toArray = true) : ∀ (s : List (Bool × Nat)) (fuel : Nat) (L : Array Bool) (a : Act) (w : World), s.length ≤ fuel → schOKY ops late s L = true → Down ops L → (early late L = true → S w) → wpSchY n' l P ops Q S s a w → wpAnyY n' l P ops Q S late fuel L a w
  | [], fuel, L, a, w, _, hc, _, _, h => by
    have hr : Region.ready .any ops.toArray L = [] := by simpa [schOKY] using hc
    cases fuel with
    | zero => exact ⟨hr, h⟩
    | succ n => exact ⟨fun _ => h, by rw [hr]; simp⟩
  | _ :: _, 0, _, _, _, hf, _, _, _, _ => by simp at hf
  | (true, i) :: r, fuel + 1, L, a, w, hf, hc, hd, hS, h => by
    obtain ⟨o, v, ho, hQ, hy, h⟩ := h
    simp only [schOKY, Bool.and_eq_true, Bool.not_eq_true'] at hc
    obtain ⟨⟨⟨⟨⟨c1, c2⟩, c6⟩, c3⟩, c4⟩, c5⟩ := hc
    have hr : i ∈ Region.ready .any ops.toArray L := by simpa using c3
    have hi : ops.toArray[i]? = some o := by rw [nthOp_get, ho]
    exact wpAnyY_first hi (Region.noSelect_spec hs) hQ (fun j hj => List.all_eq_true.1 c2 j hj) c6 fuel L a w hd (Region.free_spec hi c4) hr hy (hS c1)
      (wpAnyY_of_sch hs r fuel _ _ _ (by simp at hf; omega) c5 (hd.set hr) (fun _ => hS c1) h)
  | (false, i) :: r, fuel + 1, L, a, w, hf, hc, hd, hS, h => by
    simp only [schOKY, Bool.and_eq_true, beq_iff_eq] at hc
    refine ⟨fun h0 => (by rw [hc.1.1] at h0; cases h0), fun j hj => ?_⟩
    have hj0 := hj
    rw [hc.1.1, List.mem_singleton] at hj
    subst hj
    rw [if_pos hc.1.2]
    exact wpOpIn_mono (fun a w h => wpAnyY_of_sch hs r fuel _ _ _ (by simp at hf; omega) hc.2 (hd.set hj0) (fun he => by
      have := early_set hj0 he
      rw [hc.1.2] at this; cases this) h) h

/-- The beginning. -/
theorem wpIn_region_yield (S : World → Prop) (late : List Nat) (s : List (Bool × Nat)) {id : Nat} {a : Act} {w : World} (hm : P.follows .mixedOrders = true) (hs : Region.noSelect ops.toArray = true) (hl : Nat.ble s.length ops.toArray.size = true)
    (hc : schOKY ops late s (Array.replicate ops.toArray.size false) = true) (hnd : noDefer ops = true) (hL : ¬ LetsOut Q) (hS : S w.drew) (h : wpSchY n' l P ops Q S s a w.drew) : (Code.region id ops.toArray true).wpIn (Fence.wide.inRound l) n' P Q a w :=
  wpIn_region_any hm (wpAnyIn_of_Y (S := S) (late := late) hL (noDefer_of hnd) _ _ _ _ (wpAnyY_of_sch hs s _ _ _ _ (Nat.le_of_ble_eq_true hl) hc (Down.start _) (fun _ => hS) h))

theorem wpSchY_nil {a : Act} {w : World} (h : Q .normal a w) : wpSchY n' l P ops Q S [] a w := h
theorem wpSchY_yes {i : Nat} {r : List (Bool × Nat)} {a : Act} {w : World} {o : Oper} {v : Value} (ho : nthOp ops i = some o) (hQ : ∀ c a w, Q (.panic c) (a.put o.dst v) w → Q (.panic c) a w)
    (hw : Region.wanted o (yielded ops.toArray a.tmps) = true) (hy : ∀ w, S w → (execOp a.eval o).run P w = .ok (.value v) w) (h : wpSchY n' l P ops Q S r (a.put o.dst v) w) : wpSchY n' l P ops Q S ((true, i) :: r) a w :=
  ⟨o, v, ho, hQ, .inl ⟨hw, hy⟩, h⟩
/-- A call. -/
theorem wpSchY_call {i : Nat} {r : List (Bool × Nat)} {a : Act} {w : World} {o : Oper} (ho : nthOp ops i = some o) (hw : Region.wanted o (yielded ops.toArray a.tmps) = true)
    (h : ∀ K' : Act → World → Prop, (∀ a w, wpSchY n' l P ops Q S r a w → K' a w) → Oper.wpIn (Fence.wide.inRound l) n' P o a w K' Q) : wpSchY n' l P ops Q S ((false, i) :: r) a w :=
  wpOpIn_step (by rw [nthOp_get, ho]) (fun K' hK => by rw [if_pos hw]; exact h K' hK)
/-- A late operation that only yields. -/
theorem wpSchY_last {i : Nat} {r : List (Bool × Nat)} {a : Act} {w : World} {o : Oper} {v : Value} (hL : ¬ LetsOut Q) (hnd : noDefer ops = true) (ho : nthOp ops i = some o) (hw : Region.wanted o (yielded ops.toArray a.tmps) = true)
    (hy : (execOp a.eval o).run P w = .ok (.value v) w) (h : wpSchY n' l P ops Q S r (a.put o.dst v) w) : wpSchY n' l P ops Q S ((false, i) :: r) a w := by
  have ho' : ops.toArray[i]? = some o := by rw [nthOp_get, ho]
  exact wpOpIn_round hL (noDefer_of hnd) (YieldsIf.wpOp (S := fun w' => w' = w) ho' (.inl ⟨hw, fun w' e => by subst e; exact hy⟩) rfl h)
end
end Go.Proofs.Ytnljjdfajmjdjaa
namespace Go.Proofs.Ytnljjdfajmjdjaa
open Go.RowKit Go.Shelf
set_option maxRecDepth 100000
set_option linter.unusedSimpArgs false

attribute [local go_sem] Oper.semAt_some wide_fn

theorem Try.hmk (fn : Fn) (first cap : Array Value) (w : World) : (Instr.makeFunc fn first cap).run Try.prog w = .ok (.func fn first cap) w := rfl
theorem Try.hnk (fn : Fn) (first cap : Array Value) (w : World) : (binOp .eql 108 (.func fn first cap) .nilFunc).run Try.prog w = .ok (.bool false) w := by kernel_rfl
theorem tall_any (p : Option Addr) (w : World) : Calls Try.prog 62 #[.pointer p] w fun e w' => e = .returned (.func (.func 80) #[] #[.pointer (some ⟨w.heap.size, 0, none⟩)]) ∧ w' = w.alloc (.cells #[.pointer p] 81) := by
  have hmf := Try.hmk
  go_enter Try.func62, Try.ntmps62
  go_wp2
  go_ret
  exact ⟨rfl, rfl⟩
theorem riseK_in (n : Nat) (p : Option Addr) (w : World) :
    CallsIn Fence.wide n Try.prog 81 #[.pointer p] w fun e w' => e = .returned (.func (.func 93) #[] #[.pointer (some ⟨w.heap.size, 0, none⟩)]) ∧ w' = w.alloc (.cells #[.pointer p] 81) := by
  refine callsIn_wide.2 ?_
  have hmf := Try.hmk
  go_enter Try.func81, Try.ntmps81
  go_wp2
  go_ret
  exact ⟨rfl, rfl⟩
def keysOf {L : List (Nat × Key)} (pre : List {x : Nat × Key // x ∈ L}) : List Key := pre.map fun x => x.1.2
theorem keysOf_attach (L : List (Nat × Key)) : keysOf L.attach = L.map (·.2) := by
  have e : L.attach.map (fun x => x.1.2) = (L.attach.map Subtype.val).map (·.2) := by rw [List.map_map]; rfl
  unfold keysOf
  rw [e, List.attach_map_subtype_val]
theorem keysOf_app {L : List (Nat × Key)} (pre : List {x : Nat × Key // x ∈ L}) (x : {x : Nat × Key // x ∈ L}) : keysOf (pre ++ [x]) = keysOf pre ++ [x.1.2] := by simp [keysOf]
def encK (k : Key) : Array Value := #[kv k]
theorem keep_drewN {R : Nat → Prop} {W W' : World} (h : Keep R W.drew W') : Keep R W W' := ⟨h.os, h.tape, h.output, h.size, h.block⟩

set_option maxRecDepth 100000 in
set_option maxHeartbeats 4000000 in
theorem tall1_gives (n : Nat) (hn : 4 ≤ n) (R : Nat → Prop) (Bg n₀ : Nat) {S : Nat → Prop} {g ga b cap n' tp : Nat} {mm : Nat → Nd} {L : List (Nat × Key)} {s : St} {Sa : Nat → Prop} (w : World) (hT : TreeIn w S g ga b cap n' tp mm L s Sa) (hG : Boxed w Bg 81 (.pointer (some ⟨g, 0, none⟩)))
    (hS : ∀ k, S k → k < n₀) (hn₀ : n₀ ≤ w.heap.size) (hRS : ∀ k, R k → n₀ ≤ k) (hRg : ¬ R Bg) (hRn : ∀ k, w.heap.size ≤ k → ¬ R k) :
    GivesC 2 Fence.wide n Try.prog 80 #[.pointer (some ⟨Bg, 0, none⟩)] encK R (fun ys => ys = L.map (·.2)) (fun pre => ∃ k, k ≤ L.length ∧ pre = (L.map (·.2)).take k) L.length w := by
  intro l J Jx W hW hJ hJx hY h0
  have hBg : Bg < w.heap.size := hG.lt
  have hnW : n₀ ≤ W.heap.size := Nat.le_trans hn₀ hW.size
  have hTW := hT.below (hW.mono hn₀) hS
  have hGW : Boxed W Bg 81 (.pointer (some ⟨g, 0, none⟩)) := (hW.block Bg hBg).trans hG
  have hBgW : Bg < W.heap.size := hGW.lt
  have HR1 : Hid (∀ k, k < W.heap.size + 2 → W.heap.size ≤ k → ¬ (R k ∨ W.heap.size + 2 ≤ k)) := Lib.hid fun k h1 h2 h => h.elim (hRn k (Nat.le_trans hW.size h2)) (by omega)
  have HR2 : Hid (¬ (R Bg ∨ W.heap.size + 2 ≤ Bg)) := Lib.hid fun h => h.elim hRg (by omega)
  have HR3 : Hid (∀ k, (R k ∨ W.heap.size + 2 ≤ k) → n₀ ≤ k) := Lib.hid fun k h => h.elim (hRS k) (by omega)
  clear hT hG hW hRn hRg hRS
  obtain ⟨Rr, hRr⟩ : ∃ Rr : Nat → Prop, Rr = fun k => R k ∨ W.heap.size + 2 ≤ k := ⟨_, rfl⟩
  rw [← hRr] at hY
  have HR1 : Hid (∀ k, k < W.heap.size + 2 → W.heap.size ≤ k → ¬ Rr k) := Lib.hid (by rw [hRr]; exact HR1.out)
  have HR2 : Hid (¬ Rr Bg) := Lib.hid (by rw [hRr]; exact HR2.out)
  have HR3 : Hid (∀ k, Rr k → n₀ ≤ k) := Lib.hid (by rw [hRr]; exact HR3.out)
  clear hRr
  refine callsIn_of_wp_marks Try.func80 rfl trivial ?_ rfl
  have hnf := Try.hnk
  have hJ0 := Lib.hid hJ; have hJx0 := Lib.hid hJx
  have cg := (hGW.alloc (.cells #[.func (.yield l) #[] #[]] 108)).cell
  have HT := Lib.hid hTW; have HG := Lib.hid hGW; have HJ := Lib.hid h0; have HY := Lib.hid hY
  have hnR : n₀ ≤ W.heap.size := hnW
  clear hTW hGW h0 hY
  simp only [Try.ntmps80, List.size_toArray, List.length_cons, List.length_nil, Nat.reduceAdd, Nat.reduceSub, Array.replicate_succ, Array.replicate_zero, List.push_toArray, List.append_toArray, List.nil_append, List.cons_append]
  gi_wp2_with fail
  refine ⟨fun h => (by cases h), ?_⟩
  refine (riseK_in _ _ _).mono ?_
  rintro e w' ⟨rfl, rfl⟩
  clear hnf
  gi_wp2
  have bY := Boxed.new W 108 (.func (.yield l) #[] #[])
  have bT := Boxed.new (W.alloc (.cells #[.func (.yield l) #[] #[]] 108)) 81 (.pointer (some ⟨g, 0, none⟩))
  rw [World.size_alloc] at bT
  have hB0 : Below n₀ W ((W.alloc (.cells #[.func (.yield l) #[] #[]] 108)).alloc (.cells #[.pointer (some ⟨g, 0, none⟩)] 81)) := ((Below.refl _ W).alloc hnW _).alloc (by simp; omega) _
  have hK0 : Keep (fun _ => False) W ((W.alloc (.cells #[.func (.yield l) #[] #[]] 108)).alloc (.cells #[.pointer (some ⟨g, 0, none⟩)] 81)) := ((Keep.refl _ W).alloc _).alloc _
  obtain ⟨t0, hrep⟩ := HT.out.rep
  have HREP := Lib.hid hrep
  clear hrep
  refine wpIn_rangeFunc_ownG rfl (by omega) (gf := 93) (lb := #[.pointer (some ⟨W.heap.size + 1, 0, none⟩)]) rfl trivial (enters_of Try.func93 (by kernel_rfl) rfl)
    (rise_stops _ (by omega) (W.heap.size + 1) n₀ _ hS (by simp; omega) (HT.out.below hB0 hS) bT) (fun h k => h.trans k) (fun w l o o' hl h1 h2 h3 => ⟨belowK_b (w := W) hnW w l o o' (by simp at hl; omega) h1 h2 h3, World.putObj_heap_other (by simp at hl; omega)⟩) (Below.refl _ _) (fun _ => rfl)
    (fun pre W' => (J (keysOf pre) W' ∧ Boxed W' W.heap.size 108 (.func (.yield l) #[] #[]) ∧ Boxed W' Bg 81 (.pointer (some ⟨g, 0, none⟩)) ∧ Boxed W' (W.heap.size + 1) 81 (.pointer (some ⟨g, 0, none⟩))) ∧ Below n₀ W W')
    (fun c pre W' => Jx (keysOf pre) W' ∧ c = .ret)
    (OwnFrom.and (OwnFrom.and (OwnFrom.of (OwnFrom.up hJ (by simp; omega)) keysOf) (OwnFrom.and (Own.from (boxed_own _ _ (fun _ => _)) _) (OwnFrom.and (Own.from (boxed_own _ _ (fun _ => _)) _) (Own.from (boxed_own _ _ (fun _ => _)) _)))) (ownFrom_below hnW (by simp; omega)))
    (fun c => OwnFrom.and (OwnFrom.of (OwnFrom.up hJx (by simp; omega)) keysOf) (ownFrom_pure _ (fun _ => c = .ret)))
    ⟨⟨OwnFrom.kept hJ HJ.out hK0, bY.alloc _, (HG.out.alloc _).alloc _, bT⟩, hB0⟩
    (fun x => { tmps := #[.func (.yield l) #[] #[], .pointer (some ⟨Bg, 0, none⟩), .pointer (some ⟨W.heap.size, 0, none⟩), .int .i64 (x.1.1 : Int), .pointer (some ⟨g, 0, none⟩), .bool false, .bool false, .func (.yield l) #[] #[], .bool false, .bool false, .pointer (some ⟨g, 0, none⟩), .func (.func 93) #[] #[.pointer (some ⟨W.heap.size + 1, 0, none⟩)], .int .i64 (x.1.1 : Int), undef, undef, undef, undef, undef, undef, undef, undef, undef, undef, undef], defers := [] }) ?assign ?body ?done ?stop
  case assign =>
    intro l x W K hK
    gi_wp2
    exact hK
  case body =>
    rintro l' pre ⟨⟨i, k⟩, hxL⟩ Wr ⟨⟨hj, hbY, hbG, hbT⟩, hB⟩ hpl
    have hkl : (keysOf pre).length = pre.length := List.length_map _
    obtain ⟨q1, q2, q3⟩ := HREP.out.keyAt (i, k) hxL
    dsimp only at q1 q2 q3
    have hTW := HT.out.below hB hS
    obtain ⟨hcap1, hcap2⟩ := hTW.tr.capB
    have hii : (i : Int) < (n' : Int) := by omega
    obtain ⟨ka, kb⟩ := k
    have HKO := Lib.hid (keysOf_app pre ⟨(i, ⟨ka, kb⟩), hxL⟩)
    obtain ⟨fn, tmps, assign, body, hy', hR⟩ := HY.out (keysOf pre) ⟨ka, kb⟩ Wr.drew (OwnFrom.kept hJ0.out hj (Keep.refl _ _).drew) (by rw [hkl]; exact hpl) (show W.heap.size + 2 ≤ Wr.heap.size from hbT.lt)
    have HCELLS : Hid (∀ X, Keep (fun _ => False) Wr X → X.cell? ⟨W.heap.size, 0, none⟩ = some (.func (.yield l) #[] #[]) ∧ X.cell? ⟨Bg, 0, none⟩ = some (.pointer (some ⟨g, 0, none⟩)) ∧ X.cell? ⟨g, 1, none⟩ = some (.slice (some ⟨b, 0, none⟩) n' cap) ∧ X.cell? ⟨b, i * 6, none⟩ = some (.int .u64 ka) ∧ X.cell? ⟨b, i * 6 + 1, none⟩ = some (.int .u64 kb)) := Lib.hid (fun X hX => by
      have hTX := hTW.tr.keep hX id id
      refine ⟨(boxed_kept hbY hX id).cell, (boxed_kept hbG hX id).cell, hTX.st.cell 1, ?_, ?_⟩
      · rw [hTX.ka q3, q1]
      · rw [hTX.kb q3, q1])
    have HB := Lib.hid hB; have HBY := Lib.hid hbY; have HBG := Lib.hid hbG; have HBT := Lib.hid hbT
    dsimp only [encK, kv] at hy'
    clear hj hbY hbG hbT hB hTW q1 cg bY bT hB0 hK0 HJ HY
    gi_wp2
    refine wpIn_region_yield (fun X => X.cell? ⟨W.heap.size, 0, none⟩ = some (.func (.yield l) #[] #[]) ∧ X.cell? ⟨Bg, 0, none⟩ = some (.pointer (some ⟨g, 0, none⟩)) ∧ X.cell? ⟨g, 1, none⟩ = some (.slice (some ⟨b, 0, none⟩) n' cap) ∧ X.cell? ⟨b, i * 6, none⟩ = some (.int .u64 ka) ∧ X.cell? ⟨b, i * 6 + 1, none⟩ = some (.int .u64 kb)) [9, 10] [(true, 0), (true, 1), (true, 2), (true, 3), (true, 4), (true, 5), (true, 6), (true, 7), (true, 8), (false, 9), (false, 10)] (by kernel_rfl) (by kernel_rfl) (by kernel_rfl) (by kernel_rfl) (by kernel_rfl) (by rintro ⟨a, w, h⟩; exact h) (HCELLS.out _ (Keep.refl _ _).drew) ?_
    (repeat (refine wpSchY_yes (v := ?_) rfl (fun _ _ _ h => h) (by rfl) ?_ ?_; rotate_left; (next => (intro w hSw; (try dsimp only at hSw); obtain ⟨hS1, hS2, hS3, hS4, hS5⟩ := hSw; go_simp; (try with_reducible rfl))); (try simp only [Act.put, List.setIfInBounds_toArray, List.set_cons_zero, List.set_cons_succ])))
    refine wpSchY_call rfl (by rfl) (fun K hK => ?_)
    unfold Oper.wpIn
    refine ⟨fun _ _ => trivial, ?_⟩
    go_simp
    have hnWr : n₀ ≤ Wr.heap.size := Nat.le_trans hnW HB.out.size
    have hWr : W.heap.size + 1 < Wr.heap.size := HBT.out.lt
    refine ⟨fun h => (by cases h), (RoundIn.within rfl _ _ hR).mono ?_⟩
    rintro e W3 ⟨hkf, _, (⟨rfl, hJ3, hk3⟩ | ⟨rfl, hJx3⟩)⟩
    · refine hK _ _ ?_
      clear hK K
      have HKF : Hid (KeepsFrom W.heap.size Wr W3) := Lib.hid ⟨hkf.size, hkf.same⟩
      have HK3 := Lib.hid (keep_drewN hk3)
      have HJ3 := Lib.hid hJ3
      clear hkf hJ3 hk3 hR
      (try simp only [Act.put, List.setIfInBounds_toArray, List.set_cons_zero, List.set_cons_succ])
      refine wpSchY_last (by rintro ⟨a, w, h⟩; exact h) (by kernel_rfl) rfl (by rfl) (by go_simp; (try with_reducible rfl)) ?_
      (try simp only [Act.put, List.setIfInBounds_toArray, List.set_cons_zero, List.set_cons_succ])
      refine wpSchY_nil ?_
      gi_wp2
      have hb3 : Below n₀ Wr W3 := HK3.out.below hnWr HR3.out
      refine ⟨KeepsFrom.up HKF.out (by simp; omega), ⟨hb3, HK3.out.block _ hWr (HR1.out _ (by omega) (by omega))⟩, ⟨?_, boxed_kept HBY.out HK3.out (HR1.out _ (by omega) (by omega)), boxed_kept HBG.out HK3.out HR2.out, boxed_kept HBT.out HK3.out (HR1.out _ (by omega) (by omega))⟩, HB.out.trans hb3⟩
      rw [HKO.out]; exact HJ3.out
    · refine hK _ _ ?_
      clear hK K
      have HKF : Hid (KeepsFrom W.heap.size Wr W3) := Lib.hid ⟨hkf.size, hkf.same⟩
      have HJ3 := Lib.hid hJx3
      clear hkf hJx3 hR
      (try simp only [Act.put, List.setIfInBounds_toArray, List.set_cons_zero, List.set_cons_succ])
      refine wpSchY_last (by rintro ⟨a, w, h⟩; exact h) (by kernel_rfl) rfl (by rfl) (by go_simp; (try with_reducible rfl)) ?_
      (try simp only [Act.put, List.setIfInBounds_toArray, List.set_cons_zero, List.set_cons_succ])
      refine wpSchY_nil ?_
      gi_wp2
      refine ⟨KeepsFrom.up HKF.out (by simp; omega), ?_, rfl⟩
      rw [HKO.out]; exact HJ3.out
  case done =>
    rintro D ys Wd hD rfl ⟨⟨hj, _, _, _⟩, hB⟩ hK
    gi_wp2
    refine ⟨by simp, .inl ⟨_, _, rfl, run_takeDeferred hK, ?_⟩⟩
    exact ⟨_, results_none rfl _ _ _, ⟨_, rfl⟩, .inl ⟨_, keysOf_attach L, OwnFrom.putObj hJ0.out _ hj (by simp at hD; omega) hK rfl⟩⟩
  case stop =>
    rintro D c pre Wd hD hpre ⟨hj, rfl⟩ hK
    gi_wp2
    refine ⟨by simp, .inl ⟨_, _, rfl, run_takeDeferred hK, ?_⟩⟩
    have hp : keysOf pre <+: L.map (·.2) := by rw [← keysOf_attach L]; exact hpre.map _
    have hl : (keysOf pre).length ≤ L.length := by have := hp.length_le; simpa using this
    exact ⟨_, results_none rfl _ _ _, ⟨_, rfl⟩, .inr ⟨_, ⟨_, hl, List.prefix_iff_eq_take.1 hp⟩, OwnFrom.putObj hJx0.out _ hj (by simp at hD; omega) hK rfl⟩⟩
end Go.Proofs.Ytnljjdfajmjdjaa
