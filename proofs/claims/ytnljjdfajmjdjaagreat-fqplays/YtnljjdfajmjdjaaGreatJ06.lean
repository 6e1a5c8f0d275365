/-
  Package lists: Head and Place, which range over All. Conditions: the lists lie in memory as two lines, or are nil.
-/
import Derived.Test.YtnljjdfajmjdjaaGreatJ05
namespace Go.Proofs.YtnljjdfajmjdjaaGreat
open Go.RowKit Go.Shelf
set_option maxRecDepth 100000

attribute [local go_sem] Oper.semAt_some

/-- The pointer p is to lists with those lines (wherever they lie in a block), or nil, and there are none. -/
def LsIs (w : World) (p : Option Addr) (N O : List Int) : Prop := (p = none ∧ N = [] ∧ O = []) ∨ ∃ (T : TypeId) (g off : Nat) (cs : Array Value), p = some ⟨g, off, none⟩ ∧ Whole w g T cs ∧ LineC cs off N ∧ LineC cs (off + 9) O
theorem LsAt.is {w : World} {g : Nat} {N O : List Int} (h : LsAt w g N O) : LsIs w (some ⟨g, 0, none⟩) N O := by
  obtain ⟨cs, h, hc⟩ := h
  exact .inr ⟨_, g, 0, cs, rfl, h, hc.new, hc.old⟩
theorem LsIs.none (w : World) : LsIs w none [] [] := .inl ⟨rfl, rfl, rfl⟩
theorem LsIs.keep {w w' : World} {p : Option Addr} {N O : List Int} (h : LsIs w p N O) (hk : Keep (fun _ => False) w w') : LsIs w' p N O := by
  rcases h with h | ⟨T, g, off, cs, e, h, h1, h2⟩
  · exact .inl h
  · exact .inr ⟨T, g, off, cs, e, h.keep hk id, h1, h2⟩
theorem lall_is (p : Option Addr) (N O : List Int) (w : World) (h : LsIs w p N O) :
    Calls Tryz.prog 63 #[.pointer p] w fun e w' => e = .returned (.func (.func 89) #[] #[.pointer (some ⟨w.heap.size, 0, none⟩)]) ∧ LsAt w' w.heap.size N O ∧ Keep (fun _ => False) w w' := by
  rcases h with ⟨rfl, rfl, rfl⟩ | ⟨T, g, off, cs, rfl, h, h1, h2⟩
  · exact lall_nil w
  · exact lall_at g off cs N O w h h1 h2

theorem results_cell3 {fn : Func} {p q r : Tmp} {t u s : TypeId} (h : fn.results = #[.cell p t, .cell q u, .cell r s]) (tmps : Array Value) (P : Program) (w : World) :
    (results fn tmps).run P w = ((asAddr (tmps.getD p undef)).run P w).andThen fun a w => ((loadVar t a).run P w).andThen fun x w => ((asAddr (tmps.getD q undef)).run P w).andThen fun b w => ((loadVar u b).run P w).andThen fun y w => ((asAddr (tmps.getD r undef)).run P w).andThen fun c w => ((loadVar s c).run P w).andThen fun z w => .ok (.tuple #[x, y, z]) w := by
  simp only [results, h]
  simp [Sem.run_bind, Result.andThen]
theorem boxed_putObj {W : World} {B D : Nat} {t : TypeId} {v : Value} {o o' : Obj} (h : Boxed W B t v) (hD : W.heap[D]? = some o) (ho : o.isCells = false) : Boxed (W.putObj D o') B t v :=
  (World.putObj_heap_other (fun e => by subst e; rw [show W.heap[B]? = _ from h] at hD; cases hD; cases ho)).trans h

def hdL (pre : List (Int × Bool)) : Int × Bool := pre.headD (0, false)
theorem hd_take (l : List (Int × Bool)) {k : Nat} (h : (l.take k).length = 1) : hdL (l.take k) = hdL l ∧ l ≠ [] := by
  cases l with
  | nil => simp at h
  | cons x r =>
    cases k with
    | zero => simp at h
    | succ k => exact ⟨rfl, by simp⟩
theorem hd_tell (N O : List Int) : (hdL (tellL N O)).1 = headS N O ∧ (hdL (tellL N O)).2 = headF N O := by
  cases N with
  | nil =>
    cases O with
    | nil => exact ⟨rfl, rfl⟩
    | cons x r => exact ⟨rfl, rfl⟩
  | cons x r => exact ⟨rfl, rfl⟩
theorem tell_none {N O : List Int} : tellL N O = [] ↔ N = [] ∧ O = [] := by unfold tellL; simp

set_option maxRecDepth 100000 in
set_option maxHeartbeats 2000000 in
theorem head_any (p : Option Addr) (N O : List Int) (w : World) (h : LsIs w p N O) (hN : N.length ≤ 8) (hO : O.length ≤ 8) :
    Calls Tryz.prog 25 #[.pointer p] w fun e w' => e = .returned (.tuple #[.int .i64 (headS N O), .bool (headF N O), .bool (headB N O)]) ∧ Keep (fun _ => False) w w' := by
  obtain ⟨n, hn⟩ : ∃ n : Nat, 6 ≤ n := ⟨6, Nat.le_refl _⟩
  refine (callsIn_wide (n := n)).1 ?_
  refine callsIn_of_wp_marks Tryz.func25 rfl trivial ?_ rfl
  obtain ⟨w0, hw0⟩ : ∃ w0, w0 = ((w.alloc (.cells #[.int .i64 0] 3)).alloc (.cells #[.bool false] 4)).alloc (.cells #[.bool false] 4) := ⟨_, rfl⟩
  have hk0 : Keep (fun _ => False) w w0 := by rw [hw0]; exact (((Keep.refl _ w).alloc _).alloc _).alloc _
  have hs0 : w0.heap.size = w.heap.size + 1 + 1 + 1 := by rw [hw0]; simp
  have b1 : Boxed w0 w.heap.size 3 (.int .i64 0) := by rw [hw0]; exact ((Boxed.new w _ _).alloc _).alloc _
  have b2 : Boxed w0 (w.heap.size + 1) 4 (.bool false) := by
    rw [hw0]; have := (Boxed.new (w.alloc (.cells #[.int .i64 0] 3)) 4 (.bool false)).alloc (.cells #[.bool false] 4); rwa [World.size_alloc] at this
  have b3 : Boxed w0 (w.heap.size + 1 + 1) 4 (.bool false) := by
    rw [hw0]; have := Boxed.new ((w.alloc (.cells #[.int .i64 0] 3)).alloc (.cells #[.bool false] 4)) 4 (.bool false); rwa [World.size_alloc, World.size_alloc] at this
  have H0 := Lib.hid (h.keep hk0)
  have B1 := Lib.hid b1; have B2 := Lib.hid b2; have B3 := Lib.hid b3; have K0 := Lib.hid hk0
  clear h b1 b2 b3 hk0
  simp only [Tryz.ntmps25, List.size_toArray, List.length_cons, List.length_nil, Nat.reduceAdd, Nat.reduceSub, Array.replicate_succ, Array.replicate_zero, List.push_toArray, List.append_toArray, List.nil_append, List.cons_append]
  gi_wp2_with fail
  rw [← hw0]
  refine ⟨trivial, fun h => (by cases h), ?_⟩
  refine (callsIn_wide.2 (lall_is p N O w0 H0.out)).mono ?_
  rintro e w1 ⟨rfl, h1, k1⟩
  rw [hs0] at h1
  have b1 := boxed_kept B1.out k1 id; have b2 := boxed_kept B2.out k1 id; have b3 := boxed_kept B3.out k1 id
  have hb1 : Below w.heap.size w w1 := (K0.out.trans k1).below (Nat.le_refl _) (fun _ h => h.elim)
  have hs1 : w.heap.size + 3 ≤ w1.heap.size := by have := k1.size; omega
  have X := Lib.hid h1
  clear hw0 H0 B1 B2 B3 K0 k1 h1
  gi_wp2
  refine range_law rfl (by omega) (gf := 89) (lb := #[.pointer (some ⟨w.heap.size + 1 + 1 + 1, 0, none⟩)]) rfl trivial (enters_of Tryz.func89 (by kernel_rfl) rfl)
    (all1_gives (n - 1) (by omega) (fun _ => False) _ N O w1 X.out hN hO id (fun _ _ => id)) (Below.refl _ _) (fun _ => rfl)
    (fun pre W => (((Boxed W w.heap.size 3 (.int .i64 0) ∧ Boxed W (w.heap.size + 1) 4 (.bool false)) ∧ Boxed W (w.heap.size + 1 + 1) 4 (.bool false)) ∧ pre = []) ∧ Below w.heap.size w W)
    (fun c pre W => (((Boxed W w.heap.size 3 (.int .i64 (hdL pre).1) ∧ Boxed W (w.heap.size + 1) 4 (.bool (hdL pre).2)) ∧ Boxed W (w.heap.size + 1 + 1) 4 (.bool true)) ∧ (pre.length = 1 ∧ c = .ret)) ∧ Below w.heap.size w W)
    (OwnFrom.and (OwnFrom.and (OwnFrom.and (OwnFrom.and (Own.from (boxed_own _ _ (fun _ => _)) _) (Own.from (boxed_own _ _ (fun _ => _)) _)) (Own.from (boxed_own _ _ (fun _ => _)) _)) (ownFrom_pure _ (fun pre => pre = []))) (ownFrom_below (Nat.le_refl _) (by omega)))
    (fun c => OwnFrom.and (OwnFrom.and (OwnFrom.and (OwnFrom.and (Own.from (boxed_own _ _ (fun pre => Value.int .i64 (hdL pre).1)) _) (Own.from (boxed_own _ _ (fun pre => Value.bool (hdL pre).2)) _)) (Own.from (boxed_own _ _ (fun _ => _)) _)) (ownFrom_pure _ (fun (pre : List (Int × Bool)) => pre.length = 1 ∧ c = .ret))) (ownFrom_below (Nat.le_refl _) (by omega)))
    ⟨⟨⟨⟨b1, b2⟩, b3⟩, rfl⟩, hb1⟩
    (fun x => { tmps := #[.pointer p, undef, .pointer (some ⟨w.heap.size, 0, none⟩), .pointer (some ⟨w.heap.size + 1, 0, none⟩), .pointer (some ⟨w.heap.size + 1 + 1, 0, none⟩), .int .i64 x.1, .bool x.2, .pointer p, .func (.func 89) #[] #[.pointer (some ⟨w.heap.size + 1 + 1 + 1, 0, none⟩)], .int .i64 x.1, .bool x.2, undef, undef], defers := [] }) ?assign ?body ?done ?stop
  case assign =>
    intro l x W K hK
    dsimp only [encL]
    gi_wp2
    exact hK
  case body =>
    rintro l pre x W ⟨⟨⟨⟨b1, b2⟩, b3⟩, rfl⟩, hB⟩ _
    have c1 := b1.cell; have c2 := b2.cell; have c3 := b3.cell; have f1 := b1.frozen; have f2 := b2.frozen; have f3 := b3.frozen
    have HB1 := Lib.hid b1; have HB2 := Lib.hid b2; have HB3 := Lib.hid b3; have HB := Lib.hid hB
    clear b1 b2 b3 hB
    gi_wp2
    refine ⟨(((KeepsOthers.setCell W _ _).trans (KeepsOthers.setCell _ _ _)).trans (KeepsOthers.setCell _ _ _)).from _, ⟨⟨⟨?_, ?_⟩, ?_⟩, ⟨rfl, rfl⟩⟩, ?_⟩
    · exact ((HB1.out.set _).other (by omega) _).other (by omega) _
    · exact (((HB2.out.other (by omega) _).set _).other (by omega) _)
    · exact ((HB3.out.other (by omega) _).other (by omega) _).set _
    · exact ((HB.out.setCell (p := ⟨w.heap.size, 0, none⟩) (Nat.le_refl _) _).setCell (p := ⟨w.heap.size + 1, 0, none⟩) (by show _ ≤ w.heap.size + 1; omega) _).setCell (p := ⟨w.heap.size + 1 + 1, 0, none⟩) (by show _ ≤ w.heap.size + 1 + 1; omega) _
  case stop =>
    rintro D c pre W hD ⟨k, hk, hpre⟩ ⟨⟨⟨⟨b1, b2⟩, b3⟩, hlen, rfl⟩, hB⟩ hK
    obtain ⟨e1, e2⟩ := hd_take (tellL N O) (k := k) (by rw [← hpre]; exact hlen)
    rw [← hpre] at e1
    have t1 := (hd_tell N O).1; have t2 := (hd_tell N O).2
    rw [e1, t1] at b1
    rw [e1, t2] at b2
    have hT : headB N O = true := by
      cases hb : headB N O with
      | true => rfl
      | false => exact absurd (tell_none.2 (by unfold headB at hb; simpa using hb)) e2
    have HT := Lib.hid hT
    have q1 := (boxed_putObj (o' := .deferred none) b1 hK rfl).cell; have q2 := (boxed_putObj (o' := .deferred none) b2 hK rfl).cell; have q3 := (boxed_putObj (o' := .deferred none) b3 hK rfl).cell
    have HB := Lib.hid (hB.trans (belowK_b (w := w1) (n₀ := w.heap.size) (by omega) W D _ (.deferred none) hD hK rfl rfl))
    clear hlen hpre e1 e2 t1 t2 b1 b2 b3 hB hT
    gi_wp2
    refine ⟨by simp, .inl ⟨_, _, rfl, run_takeDeferred hK, ?_⟩⟩
    refine ⟨_, (by rw [results_cell3 rfl]; go_simp; rfl), ?_⟩
    exact ⟨by rw [HT.out], Keep.of_below HB.out⟩
  case done =>
    rintro D ys W hD hys ⟨⟨⟨⟨b1, b2⟩, b3⟩, rfl⟩, hB⟩ hK
    obtain ⟨rfl, rfl⟩ := tell_none.1 hys.symm
    have c1 := b1.cell; have c2 := b2.cell; have c3 := b3.cell; have f1 := b1.frozen; have f2 := b2.frozen; have f3 := b3.frozen
    have HB1 := Lib.hid b1; have HB2 := Lib.hid b2; have HB3 := Lib.hid b3; have HB := Lib.hid hB; have HD := Lib.hid hK
    clear b1 b2 b3 hB hys hK
    gi_wp2
    have d1 := ((HB1.out.set (.int .i64 0)).other (B' := w.heap.size + 1) (by omega) (.bool false)).other (B' := w.heap.size + 1 + 1) (by omega) (.bool false)
    have d2 := ((HB2.out.other (B' := w.heap.size) (by omega) (.int .i64 0)).set (.bool false)).other (B' := w.heap.size + 1 + 1) (by omega) (.bool false)
    have d3 := ((HB3.out.other (B' := w.heap.size) (by omega) (.int .i64 0)).other (B' := w.heap.size + 1) (by omega) (.bool false)).set (.bool false)
    have hB3 := ((HB.out.setCell (p := ⟨w.heap.size, 0, none⟩) (Nat.le_refl _) (.int .i64 0)).setCell (p := ⟨w.heap.size + 1, 0, none⟩) (by show _ ≤ w.heap.size + 1; omega) (.bool false)).setCell (p := ⟨w.heap.size + 1 + 1, 0, none⟩) (by show _ ≤ w.heap.size + 1 + 1; omega) (.bool false)
    have hK3 := ((((KeepsOthers.setCell W ⟨w.heap.size, 0, none⟩ (.int .i64 0)).trans (KeepsOthers.setCell _ ⟨w.heap.size + 1, 0, none⟩ (.bool false))).trans (KeepsOthers.setCell _ ⟨w.heap.size + 1 + 1, 0, none⟩ (.bool false))).same D _ HD.out rfl)
    generalize ((W.setCell ⟨w.heap.size, 0, none⟩ (.int .i64 0)).setCell ⟨w.heap.size + 1, 0, none⟩ (.bool false)).setCell ⟨w.heap.size + 1 + 1, 0, none⟩ (.bool false) = W3 at *
    have q1 := (boxed_putObj (o' := .deferred none) d1 hK3 rfl).cell; have q2 := (boxed_putObj (o' := .deferred none) d2 hK3 rfl).cell; have q3 := (boxed_putObj (o' := .deferred none) d3 hK3 rfl).cell
    have HBE := Lib.hid (hB3.trans (belowK_b (w := w1) (n₀ := w.heap.size) (by omega) W3 D _ (.deferred none) hD hK3 rfl rfl))
    refine ⟨by simp, .inl ⟨_, _, rfl, run_takeDeferred hK3, ?_⟩⟩
    refine ⟨_, (by rw [results_cell3 rfl]; go_simp; rfl), ?_⟩
    exact ⟨rfl, Keep.of_below HBE.out⟩

/-! ### Place -/
def lastF (pre : List (Int × Bool)) : Bool := (pre.getLast?.getD (0, false)).2
theorem lastF_app (pre : List (Int × Bool)) (x : Int × Bool) : lastF (pre ++ [x]) = x.2 := by simp [lastF]
theorem not_new {s : Int} : ∀ {N O : List Int} {pre r : List (Int × Bool)} {x : Int × Bool}, tellL N O = pre ++ x :: r → (∀ y ∈ pre, y.1 ≠ s) → x.2 = false → s ∉ N
  | [], _, _, _, _, _, _, _ => by simp
  | n :: N, O, [], r, x, h, _, hx => by
    have : (n, true) = x := by have := List.head_eq_of_cons_eq (show (n, true) :: tellL N O = x :: r from h); exact this
    rw [← this] at hx; cases hx
  | n :: N, O, y :: pre, r, x, h, hp, hx => by
    have h1 : (n, true) = y := List.head_eq_of_cons_eq (show (n, true) :: tellL N O = y :: (pre ++ x :: r) from h)
    have h2 : tellL N O = pre ++ x :: r := List.tail_eq_of_cons_eq (show (n, true) :: tellL N O = y :: (pre ++ x :: r) from h)
    have h3 := not_new h2 (fun z hz => hp z (List.mem_cons_of_mem _ hz)) hx
    have h4 := hp y (List.mem_cons_self ..)
    rw [← h1] at h4
    simp
    exact ⟨fun e => h4 e.symm, h3⟩
theorem mem_tell {N O : List Int} {x : Int × Bool} : x ∈ tellL N O ↔ (x.2 = true ∧ x.1 ∈ N) ∨ (x.2 = false ∧ x.1 ∈ O) := by
  obtain ⟨a, b⟩ := x
  unfold tellL
  cases b <;> simp
theorem place_at {s : Int} {N O : List Int} {pre r : List (Int × Bool)} {x : Int × Bool} (h : tellL N O = pre ++ x :: r) (hp : ∀ y ∈ pre, y.1 ≠ s) (hx : x.1 = s) : placeV N O s = if x.2 then 1 else 2 := by
  have hm : x ∈ tellL N O := by rw [h]; simp
  rw [mem_tell, hx] at hm
  unfold placeV
  cases hb : x.2 with
  | true =>
    rw [hb] at hm
    simp at hm
    simp [hm]
  | false =>
    have hn := not_new h hp hb
    rw [hb] at hm
    simp at hm
    simp [hm, hn]
theorem place_no {s : Int} {N O : List Int} (h : ∀ y ∈ tellL N O, y.1 ≠ s) : placeV N O s = 0 :=
  placeV_ne fun hm => by
    rcases List.mem_append.1 hm with hm | hm
    · exact h (s, true) (mem_tell.2 (.inl ⟨rfl, hm⟩)) rfl
    · exact h (s, false) (mem_tell.2 (.inr ⟨rfl, hm⟩)) rfl

set_option maxRecDepth 100000 in
set_option maxHeartbeats 2000000 in
theorem place_any (p : Option Addr) (N O : List Int) (s : Int) (w : World) (h : LsIs w p N O) (hN : N.length ≤ 8) (hO : O.length ≤ 8) :
    Calls Tryz.prog 88 #[.pointer p, .int .i64 s] w fun e w' => e = .returned (.int .i64 (placeV N O s)) ∧ Keep (fun _ => False) w w' := by
  obtain ⟨n, hn⟩ : ∃ n : Nat, 6 ≤ n := ⟨6, Nat.le_refl _⟩
  refine (callsIn_wide (n := n)).1 ?_
  refine callsIn_of_wp_marks Tryz.func88 rfl trivial ?_ rfl
  obtain ⟨w0, hw0⟩ : ∃ w0, w0 = (w.alloc (.cells #[.int .i64 s] 3)).alloc (.cells #[.int .i64 0] 3) := ⟨_, rfl⟩
  have hk0 : Keep (fun _ => False) w w0 := by rw [hw0]; exact ((Keep.refl _ w).alloc _).alloc _
  have hs0 : w0.heap.size = w.heap.size + 1 + 1 := by rw [hw0]; simp
  have b1 : Boxed w0 w.heap.size 3 (.int .i64 s) := by rw [hw0]; exact (Boxed.new w _ _).alloc _
  have b2 : Boxed w0 (w.heap.size + 1) 3 (.int .i64 0) := by
    rw [hw0]; have := Boxed.new (w.alloc (.cells #[.int .i64 s] 3)) 3 (.int .i64 0); rwa [World.size_alloc] at this
  have H0 := Lib.hid (h.keep hk0)
  have B1 := Lib.hid b1; have B2 := Lib.hid b2; have K0 := Lib.hid hk0
  clear h b1 b2 hk0
  simp only [Tryz.ntmps88, List.size_toArray, List.length_cons, List.length_nil, Nat.reduceAdd, Nat.reduceSub, Array.replicate_succ, Array.replicate_zero, List.push_toArray, List.append_toArray, List.nil_append, List.cons_append]
  gi_wp2_with fail
  rw [← hw0]
  refine ⟨trivial, fun h => (by cases h), ?_⟩
  refine (callsIn_wide.2 (lall_is p N O w0 H0.out)).mono ?_
  rintro e w1 ⟨rfl, h1, k1⟩
  rw [hs0] at h1
  have b1 := boxed_kept B1.out k1 id; have b2 := boxed_kept B2.out k1 id
  have hb1 : Below w.heap.size w w1 := (K0.out.trans k1).below (Nat.le_refl _) (fun _ h => h.elim)
  have hs1 : w.heap.size + 2 ≤ w1.heap.size := by have := k1.size; omega
  have X := Lib.hid h1
  clear hw0 H0 B1 B2 K0 k1 h1
  gi_wp2
  refine range_law rfl (by omega) (gf := 89) (lb := #[.pointer (some ⟨w.heap.size + 1 + 1, 0, none⟩)]) rfl trivial (enters_of Tryz.func89 (by kernel_rfl) rfl)
    (all1_gives (n - 1) (by omega) (fun _ => False) _ N O w1 X.out hN hO id (fun _ _ => id)) (Below.refl _ _) (fun _ => rfl)
    (fun pre W => ((Boxed W w.heap.size 3 (.int .i64 s) ∧ Boxed W (w.heap.size + 1) 3 (.int .i64 0)) ∧ ∀ y ∈ pre, y.1 ≠ s) ∧ Below w.heap.size w W)
    (fun c pre W => ((Boxed W w.heap.size 3 (.int .i64 s) ∧ Boxed W (w.heap.size + 1) 3 (.int .i64 (if lastF pre then 1 else 2))) ∧ (c = .ret ∧ ∃ q x, pre = q ++ [x] ∧ (∀ y ∈ q, y.1 ≠ s) ∧ x.1 = s)) ∧ Below w.heap.size w W)
    (OwnFrom.and (OwnFrom.and (OwnFrom.and (Own.from (boxed_own _ _ (fun _ => _)) _) (Own.from (boxed_own _ _ (fun _ => _)) _)) (ownFrom_pure _ (fun (pre : List (Int × Bool)) => ∀ y ∈ pre, y.1 ≠ s))) (ownFrom_below (Nat.le_refl _) (by omega)))
    (fun c => OwnFrom.and (OwnFrom.and (OwnFrom.and (Own.from (boxed_own _ _ (fun _ => _)) _) (Own.from (boxed_own _ _ (fun pre => Value.int .i64 (if lastF pre then 1 else 2))) _)) (ownFrom_pure _ (fun (pre : List (Int × Bool)) => c = .ret ∧ ∃ q x, pre = q ++ [x] ∧ (∀ y ∈ q, y.1 ≠ s) ∧ x.1 = s))) (ownFrom_below (Nat.le_refl _) (by omega)))
    ⟨⟨⟨b1, b2⟩, fun y hy => by cases hy⟩, hb1⟩
    (fun x => { tmps := #[.pointer p, .int .i64 s, undef, .pointer (some ⟨w.heap.size, 0, none⟩), .pointer (some ⟨w.heap.size + 1, 0, none⟩), .int .i64 x.1, .bool x.2, .pointer p, .func (.func 89) #[] #[.pointer (some ⟨w.heap.size + 1 + 1, 0, none⟩)], .int .i64 x.1, .bool x.2, undef, undef, undef, undef, undef, undef], defers := [] }) ?assign ?body ?done ?stop
  case assign =>
    intro l x W K hK
    dsimp only [encL]
    gi_wp2
    exact hK
  case body =>
    rintro l pre ⟨z, b⟩ W ⟨⟨⟨b1, b2⟩, hne⟩, hB⟩ _
    have c1 := b1.cell; have c2 := b2.cell; have f2 := b2.frozen
    have HB1 := Lib.hid b1; have HB2 := Lib.hid b2; have HB := Lib.hid hB; have HNE := Lib.hid hne
    clear b1 b2 hB hne
    dsimp only
    by_cases hz : z = s
    · have hq : (z == s) = true := by simp [hz]
      have HZ := Lib.hid hz; clear hz
      cases b with
      | true =>
        gi_wp2
        exact ⟨(KeepsOthers.setCell W _ _).from _, ⟨⟨HB1.out.other (by omega) _, by rw [lastF_app]; exact HB2.out.set _⟩, rfl, _, _, rfl, HNE.out, HZ.out⟩, HB.out.setCell (p := ⟨w.heap.size + 1, 0, none⟩) (by show _ ≤ w.heap.size + 1; omega) _⟩
      | false =>
        gi_wp2
        exact ⟨(KeepsOthers.setCell W _ _).from _, ⟨⟨HB1.out.other (by omega) _, by rw [lastF_app]; exact HB2.out.set _⟩, rfl, _, _, rfl, HNE.out, HZ.out⟩, HB.out.setCell (p := ⟨w.heap.size + 1, 0, none⟩) (by show _ ≤ w.heap.size + 1; omega) _⟩
    · have hq : (z == s) = false := by simpa using hz
      have HZ := Lib.hid hz; clear hz
      gi_wp2
      refine ⟨KeepsFrom.refl _ _, Keep.refl _ _, ⟨⟨HB1.out, HB2.out⟩, fun y hy => ?_⟩, HB.out⟩
      rcases List.mem_append.1 hy with hy | hy
      · exact HNE.out y hy
      · rw [List.mem_singleton.1 hy]; exact HZ.out
  case stop =>
    rintro D c pre W hD ⟨k, hk, hpre⟩ ⟨⟨⟨b1, b2⟩, rfl, q, x, hq, hqs, hx⟩, hB⟩ hK
    have hv : placeV N O s = if lastF pre then 1 else 2 := by
      rw [hq, lastF_app]
      refine place_at (pre := q) (r := (tellL N O).drop k) ?_ hqs hx
      conv => lhs; rw [← List.take_append_drop k (tellL N O), ← hpre, hq]
      simp
    rw [← hv] at b2
    have q2 := (boxed_putObj (o' := .deferred none) b2 hK rfl).cell
    have HB := Lib.hid (hB.trans (belowK_b (w := w1) (n₀ := w.heap.size) (by omega) W D _ (.deferred none) hD hK rfl rfl))
    clear b1 b2 hB hv hqs hx hq hpre
    gi_wp2
    refine ⟨by simp, .inl ⟨_, _, rfl, run_takeDeferred hK, ?_⟩⟩
    refine ⟨_, (by rw [results_cell1 rfl]; go_simp; rfl), ?_⟩
    exact ⟨rfl, Keep.of_below HB.out⟩
  case done =>
    rintro D ys W hD rfl ⟨⟨⟨b1, b2⟩, hne⟩, hB⟩ hK
    have HV := Lib.hid (place_no hne)
    have c2 := b2.cell; have f2 := b2.frozen
    have d2 := b2.set (.int .i64 0)
    have hB3 := hB.setCell (p := ⟨w.heap.size + 1, 0, none⟩) (by show _ ≤ w.heap.size + 1; omega) (.int .i64 0)
    have hK3 := (KeepsOthers.setCell W ⟨w.heap.size + 1, 0, none⟩ (.int .i64 0)).same D _ hK rfl
    have HD2 := Lib.hid d2; have HB3 := Lib.hid hB3; have HK3 := Lib.hid hK3
    clear b1 b2 hB hne hK d2 hB3 hK3
    gi_wp2
    have d2 := HD2.out; have hB3 := HB3.out; have hK3 := HK3.out
    clear HD2 HB3 HK3
    generalize W.setCell ⟨w.heap.size + 1, 0, none⟩ (.int .i64 0) = W3 at *
    have q2 := (boxed_putObj (o' := .deferred none) d2 hK3 rfl).cell
    have HBE := Lib.hid (hB3.trans (belowK_b (w := w1) (n₀ := w.heap.size) (by omega) W3 D _ (.deferred none) hD hK3 rfl rfl))
    refine ⟨by simp, .inl ⟨_, _, rfl, run_takeDeferred hK3, ?_⟩⟩
    refine ⟨_, (by rw [results_cell1 rfl]; go_simp; rfl), ?_⟩
    exact ⟨by rw [HV.out], Keep.of_below HBE.out⟩
end Go.Proofs.YtnljjdfajmjdjaaGreat
