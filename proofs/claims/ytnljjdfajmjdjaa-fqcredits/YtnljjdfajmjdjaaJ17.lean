/-
  Package lists: Head and Place, which range over All. Conditions: the lists lie in memory as two lines, or are nil.
  Package lists: New, Push, Remove, Drop, Back. Conditions: the lists lie in memory as two lines of sockets, each socket once; or are nil.
-/
import Derived.Test.YtnljjdfajmjdjaaJ16
namespace Go.Proofs.Ytnljjdfajmjdjaa
open Go.RowKit Go.Shelf
set_option maxRecDepth 100000

attribute [local go_sem] Oper.semAt_some

/-- The pointer p is to lists with those lines (wherever they lie in a block), or nil, and there are none. -/
def LsIs (w : World) (p : Option Addr) (N O : List Int) : Prop := (p = none ∧ N = [] ∧ O = []) ∨ ∃ (T : TypeId) (g off : Nat) (cs : Array Value), p = some ⟨g, off, none⟩ ∧ Whole w g T cs ∧ LineC cs off N ∧ LineC cs (off + 9) O
theorem LsAt.is {w : World} {g : Nat} {N O : List Int} (h : LsAt w g N O) : LsIs w (some ⟨g, 0, none⟩) N O := by
  obtain ⟨cs, h, hc⟩ := h
  exact .inr ⟨_, g, 0, cs, rfl, h, hc.new, hc.old⟩
theorem LsIs.none (w : World) : LsIs w none [] [] := .inl ⟨rfl, rfl, rfl⟩
theorem LsIs.keep {w w' : World} {p : Option Addr} {N O : List Int} (h : LsIs w p N O) (hk : Keep (fun _ => False) w w') : LsIs w' p N O := by
  rcases h with h | ⟨T, g, off, cs, e, h, h1, h2⟩
  · exact .inl h
  · exact .inr ⟨T, g, off, cs, e, h.keep hk id, h1, h2⟩
theorem lall_is (p : Option Addr) (N O : List Int) (w : World) (h : LsIs w p N O) :
    Calls Try.prog 63 #[.pointer p] w fun e w' => e = .returned (.func (.func 82) #[] #[.pointer (some ⟨w.heap.size, 0, none⟩)]) ∧ LsAt w' w.heap.size N O ∧ Keep (fun _ => False) w w' := by
  rcases h with ⟨rfl, rfl, rfl⟩ | ⟨T, g, off, cs, rfl, h, h1, h2⟩
  · exact lall_nil w
  · exact lall_at g off cs N O w h h1 h2

theorem results_cell3 {fn : Func} {p q r : Tmp} {t u s : TypeId} (h : fn.results = #[.cell p t, .cell q u, .cell r s]) (tmps : Array Value) (P : Program) (w : World) :
    (results fn tmps).run P w = ((asAddr (tmps.getD p undef)).run P w).andThen fun a w => ((loadVar t a).run P w).andThen fun x w => ((asAddr (tmps.getD q undef)).run P w).andThen fun b w => ((loadVar u b).run P w).andThen fun y w => ((asAddr (tmps.getD r undef)).run P w).andThen fun c w => ((loadVar s c).run P w).andThen fun z w => .ok (.tuple #[x, y, z]) w := by
  simp only [results, h]
  simp [Sem.run_bind, Result.andThen]
theorem boxed_putObj {W : World} {B D : Nat} {t : TypeId} {v : Value} {o o' : Obj} (h : Boxed W B t v) (hD : W.heap[D]? = some o) (ho : o.isCells = false) : Boxed (W.putObj D o') B t v :=
  (World.putObj_heap_other (fun e => by subst e; rw [show W.heap[B]? = _ from h] at hD; cases hD; cases ho)).trans h

def hdL (pre : List (Int × Bool)) : Int × Bool := pre.headD (0, false)
theorem hd_take (l : List (Int × Bool)) {k : Nat} (h : (l.take k).length = 1) : hdL (l.take k) = hdL l ∧ l ≠ [] := by
  cases l with
  | nil => simp at h
  | cons x r =>
    cases k with
    | zero => simp at h
    | succ k => exact ⟨rfl, by simp⟩
theorem hd_tell (N O : List Int) : (hdL (tellL N O)).1 = headS N O ∧ (hdL (tellL N O)).2 = headF N O := by
  cases N with
  | nil =>
    cases O with
    | nil => exact ⟨rfl, rfl⟩
    | cons x r => exact ⟨rfl, rfl⟩
  | cons x r => exact ⟨rfl, rfl⟩
theorem tell_none {N O : List Int} : tellL N O = [] ↔ N = [] ∧ O = [] := by unfold tellL; simp

set_option maxRecDepth 100000 in
set_option maxHeartbeats 2000000 in
theorem head_any (p : Option Addr) (N O : List Int) (w : World) (h : LsIs w p N O) (hN : N.length ≤ 8) (hO : O.length ≤ 8) :
    Calls Try.prog 41 #[.pointer p] w fun e w' => e = .returned (.tuple #[.int .i64 (headS N O), .bool (headF N O), .bool (headB N O)]) ∧ Keep (fun _ => False) w w' := by
  obtain ⟨n, hn⟩ : ∃ n : Nat, 6 ≤ n := ⟨6, Nat.le_refl _⟩
  refine (callsIn_wide (n := n)).1 ?_
  refine callsIn_of_wp_marks Try.func41 rfl trivial ?_ rfl
  obtain ⟨w0, hw0⟩ : ∃ w0, w0 = ((w.alloc (.cells #[.int .i64 0] 3)).alloc (.cells #[.bool false] 4)).alloc (.cells #[.bool false] 4) := ⟨_, rfl⟩
  have hk0 : Keep (fun _ => False) w w0 := by rw [hw0]; exact (((Keep.refl _ w).alloc _).alloc _).alloc _
  have hs0 : w0.heap.size = w.heap.size + 1 + 1 + 1 := by rw [hw0]; simp
  have b1 : Boxed w0 w.heap.size 3 (.int .i64 0) := by rw [hw0]; exact ((Boxed.new w _ _).alloc _).alloc _
  have b2 : Boxed w0 (w.heap.size + 1) 4 (.bool false) := by
    rw [hw0]; have := (Boxed.new (w.alloc (.cells #[.int .i64 0] 3)) 4 (.bool false)).alloc (.cells #[.bool false] 4); rwa [World.size_alloc] at this
  have b3 : Boxed w0 (w.heap.size + 1 + 1) 4 (.bool false) := by
    rw [hw0]; have := Boxed.new ((w.alloc (.cells #[.int .i64 0] 3)).alloc (.cells #[.bool false] 4)) 4 (.bool false); rwa [World.size_alloc, World.size_alloc] at this
  have H0 := Lib.hid (h.keep hk0)
  have B1 := Lib.hid b1; have B2 := Lib.hid b2; have B3 := Lib.hid b3; have K0 := Lib.hid hk0
  clear h b1 b2 b3 hk0
  simp only [Try.ntmps41, List.size_toArray, List.length_cons, List.length_nil, Nat.reduceAdd, Nat.reduceSub, Array.replicate_succ, Array.replicate_zero, List.push_toArray, List.append_toArray, List.nil_append, List.cons_append]
  gi_wp2_with fail
  rw [← hw0]
  refine ⟨trivial, fun h => (by cases h), ?_⟩
  refine (callsIn_wide.2 (lall_is p N O w0 H0.out)).mono ?_
  rintro e w1 ⟨rfl, h1, k1⟩
  rw [hs0] at h1
  have b1 := boxed_kept B1.out k1 id; have b2 := boxed_kept B2.out k1 id; have b3 := boxed_kept B3.out k1 id
  have hb1 : Below w.heap.size w w1 := (K0.out.trans k1).below (Nat.le_refl _) (fun _ h => h.elim)
  have hs1 : w.heap.size + 3 ≤ w1.heap.size := by have := k1.size; omega
  have X := Lib.hid h1
  clear hw0 H0 B1 B2 B3 K0 k1 h1
  gi_wp2
  refine range_law rfl (by omega) (gf := 82) (lb := #[.pointer (some ⟨w.heap.size + 1 + 1 + 1, 0, none⟩)]) rfl trivial (enters_of Try.func82 (by kernel_rfl) rfl)
    (all1_gives (n - 1) (by omega) (fun _ => False) _ N O w1 X.out hN hO id (fun _ _ => id)) (Below.refl _ _) (fun _ => rfl)
    (fun pre W => (((Boxed W w.heap.size 3 (.int .i64 0) ∧ Boxed W (w.heap.size + 1) 4 (.bool false)) ∧ Boxed W (w.heap.size + 1 + 1) 4 (.bool false)) ∧ pre = []) ∧ Below w.heap.size w W)
    (fun c pre W => (((Boxed W w.heap.size 3 (.int .i64 (hdL pre).1) ∧ Boxed W (w.heap.size + 1) 4 (.bool (hdL pre).2)) ∧ Boxed W (w.heap.size + 1 + 1) 4 (.bool true)) ∧ (pre.length = 1 ∧ c = .ret)) ∧ Below w.heap.size w W)
    (OwnFrom.and (OwnFrom.and (OwnFrom.and (OwnFrom.and (Own.from (boxed_own _ _ (fun _ => _)) _) (Own.from (boxed_own _ _ (fun _ => _)) _)) (Own.from (boxed_own _ _ (fun _ => _)) _)) (ownFrom_pure _ (fun pre => pre = []))) (ownFrom_below (Nat.le_refl _) (by omega)))
    (fun c => OwnFrom.and (OwnFrom.and (OwnFrom.and (OwnFrom.and (Own.from (boxed_own _ _ (fun pre => Value.int .i64 (hdL pre).1)) _) (Own.from (boxed_own _ _ (fun pre => Value.bool (hdL pre).2)) _)) (Own.from (boxed_own _ _ (fun _ => _)) _)) (ownFrom_pure _ (fun (pre : List (Int × Bool)) => pre.length = 1 ∧ c = .ret))) (ownFrom_below (Nat.le_refl _) (by omega)))
    ⟨⟨⟨⟨b1, b2⟩, b3⟩, rfl⟩, hb1⟩
    (fun x => { tmps := #[.pointer p, undef, .pointer (some ⟨w.heap.size, 0, none⟩), .pointer (some ⟨w.heap.size + 1, 0, none⟩), .pointer (some ⟨w.heap.size + 1 + 1, 0, none⟩), .int .i64 x.1, .bool x.2, .pointer p, .func (.func 82) #[] #[.pointer (some ⟨w.heap.size + 1 + 1 + 1, 0, none⟩)], .int .i64 x.1, .bool x.2, undef, undef], defers := [] }) ?assign ?body ?done ?stop
  case assign =>
    intro l x W K hK
    dsimp only [encL]
    gi_wp2
    exact hK
  case body =>
    rintro l pre x W ⟨⟨⟨⟨b1, b2⟩, b3⟩, rfl⟩, hB⟩ _
    have c1 := b1.cell; have c2 := b2.cell; have c3 := b3.cell; have f1 := b1.frozen; have f2 := b2.frozen; have f3 := b3.frozen
    have HB1 := Lib.hid b1; have HB2 := Lib.hid b2; have HB3 := Lib.hid b3; have HB := Lib.hid hB
    clear b1 b2 b3 hB
    gi_wp2
    refine ⟨(((KeepsOthers.setCell W _ _).trans (KeepsOthers.setCell _ _ _)).trans (KeepsOthers.setCell _ _ _)).from _, ⟨⟨⟨?_, ?_⟩, ?_⟩, ⟨rfl, rfl⟩⟩, ?_⟩
    · exact ((HB1.out.set _).other (by omega) _).other (by omega) _
    · exact (((HB2.out.other (by omega) _).set _).other (by omega) _)
    · exact ((HB3.out.other (by omega) _).other (by omega) _).set _
    · exact ((HB.out.setCell (p := ⟨w.heap.size, 0, none⟩) (Nat.le_refl _) _).setCell (p := ⟨w.heap.size + 1, 0, none⟩) (by show _ ≤ w.heap.size + 1; omega) _).setCell (p := ⟨w.heap.size + 1 + 1, 0, none⟩) (by show _ ≤ w.heap.size + 1 + 1; omega) _
  case stop =>
    rintro D c pre W hD ⟨k, hk, hpre⟩ ⟨⟨⟨⟨b1, b2⟩, b3⟩, hlen, rfl⟩, hB⟩ hK
    obtain ⟨e1, e2⟩ := hd_take (tellL N O) (k := k) (by rw [← hpre]; exact hlen)
    rw [← hpre] at e1
    have t1 := (hd_tell N O).1; have t2 := (hd_tell N O).2
    rw [e1, t1] at b1
    rw [e1, t2] at b2
    have hT : headB N O = true := by
      cases hb : headB N O with
      | true => rfl
      | false => exact absurd (tell_none.2 (by unfold headB at hb; simpa using hb)) e2
    have HT := Lib.hid hT
    have q1 := (boxed_putObj (o' := .deferred none) b1 hK rfl).cell; have q2 := (boxed_putObj (o' := .deferred none) b2 hK rfl).cell; have q3 := (boxed_putObj (o' := .deferred none) b3 hK rfl).cell
    have HB := Lib.hid (hB.trans (belowK_b (w := w1) (n₀ := w.heap.size) (by omega) W D _ (.deferred none) hD hK rfl rfl))
    clear hlen hpre e1 e2 t1 t2 b1 b2 b3 hB hT
    gi_wp2
    refine ⟨by simp, .inl ⟨_, _, rfl, run_takeDeferred hK, ?_⟩⟩
    refine ⟨_, (by rw [results_cell3 rfl]; go_simp; rfl), ?_⟩
    exact ⟨by rw [HT.out], Keep.of_below HB.out⟩
  case done =>
    rintro D ys W hD hys ⟨⟨⟨⟨b1, b2⟩, b3⟩, rfl⟩, hB⟩ hK
    obtain ⟨rfl, rfl⟩ := tell_none.1 hys.symm
    have c1 := b1.cell; have c2 := b2.cell; have c3 := b3.cell; have f1 := b1.frozen; have f2 := b2.frozen; have f3 := b3.frozen
    have HB1 := Lib.hid b1; have HB2 := Lib.hid b2; have HB3 := Lib.hid b3; have HB := Lib.hid hB; have HD := Lib.hid hK
    clear b1 b2 b3 hB hys hK
    gi_wp2
    have d1 := ((HB1.out.set (.int .i64 0)).other (B' := w.heap.size + 1) (by omega) (.bool false)).other (B' := w.heap.size + 1 + 1) (by omega) (.bool false)
    have d2 := ((HB2.out.other (B' := w.heap.size) (by omega) (.int .i64 0)).set (.bool false)).other (B' := w.heap.size + 1 + 1) (by omega) (.bool false)
    have d3 := ((HB3.out.other (B' := w.heap.size) (by omega) (.int .i64 0)).other (B' := w.heap.size + 1) (by omega) (.bool false)).set (.bool false)
    have hB3 := ((HB.out.setCell (p := ⟨w.heap.size, 0, none⟩) (Nat.le_refl _) (.int .i64 0)).setCell (p := ⟨w.heap.size + 1, 0, none⟩) (by show _ ≤ w.heap.size + 1; omega) (.bool false)).setCell (p := ⟨w.heap.size + 1 + 1, 0, none⟩) (by show _ ≤ w.heap.size + 1 + 1; omega) (.bool false)
    have hK3 := ((((KeepsOthers.setCell W ⟨w.heap.size, 0, none⟩ (.int .i64 0)).trans (KeepsOthers.setCell _ ⟨w.heap.size + 1, 0, none⟩ (.bool false))).trans (KeepsOthers.setCell _ ⟨w.heap.size + 1 + 1, 0, none⟩ (.bool false))).same D _ HD.out rfl)
    generalize ((W.setCell ⟨w.heap.size, 0, none⟩ (.int .i64 0)).setCell ⟨w.heap.size + 1, 0, none⟩ (.bool false)).setCell ⟨w.heap.size + 1 + 1, 0, none⟩ (.bool false) = W3 at *
    have q1 := (boxed_putObj (o' := .deferred none) d1 hK3 rfl).cell; have q2 := (boxed_putObj (o' := .deferred none) d2 hK3 rfl).cell; have q3 := (boxed_putObj (o' := .deferred none) d3 hK3 rfl).cell
    have HBE := Lib.hid (hB3.trans (belowK_b (w := w1) (n₀ := w.heap.size) (by omega) W3 D _ (.deferred none) hD hK3 rfl rfl))
    refine ⟨by simp, .inl ⟨_, _, rfl, run_takeDeferred hK3, ?_⟩⟩
    refine ⟨_, (by rw [results_cell3 rfl]; go_simp; rfl), ?_⟩
    exact ⟨rfl, Keep.of_below HBE.out⟩

/-! ### Place -/
def lastF (pre : List (Int × Bool)) : Bool := (pre.getLast?.getD (0, false)).2
theorem lastF_app (pre : List (Int × Bool)) (x : Int × Bool) : lastF (pre ++ [x]) = x.2 := by simp [lastF]
theorem not_new {s : Int} : ∀ {N O : List Int} {pre r : List (Int × Bool)} {x : Int × Bool}, tellL N O = pre ++ x :: r → (∀ y ∈ pre, y.1 ≠ s) → x.2 = false → s ∉ N
  | [], _, _, _, _, _, _, _ => by simp
  | n :: N, O, [], r, x, h, _, hx => by
    have : (n, true) = x := by have := List.head_eq_of_cons_eq (show (n, true) :: tellL N O = x :: r from h); exact this
    rw [← this] at hx; cases hx
  | n :: N, O, y :: pre, r, x, h, hp, hx => by
    have h1 : (n, true) = y := List.head_eq_of_cons_eq (show (n, true) :: tellL N O = y :: (pre ++ x :: r) from h)
    have h2 : tellL N O = pre ++ x :: r := List.tail_eq_of_cons_eq (show (n, true) :: tellL N O = y :: (pre ++ x :: r) from h)
    have h3 := not_new h2 (fun z hz => hp z (List.mem_cons_of_mem _ hz)) hx
    have h4 := hp y (List.mem_cons_self ..)
    rw [← h1] at h4
    simp
    exact ⟨fun e => h4 e.symm, h3⟩
theorem mem_tell {N O : List Int} {x : Int × Bool} : x ∈ tellL N O ↔ (x.2 = true ∧ x.1 ∈ N) ∨ (x.2 = false ∧ x.1 ∈ O) := by
  obtain ⟨a, b⟩ := x
  unfold tellL
  cases b <;> simp
theorem place_at {s : Int} {N O : List Int} {pre r : List (Int × Bool)} {x : Int × Bool} (h : tellL N O = pre ++ x :: r) (hp : ∀ y ∈ pre, y.1 ≠ s) (hx : x.1 = s) : placeV N O s = if x.2 then 1 else 2 := by
  have hm : x ∈ tellL N O := by rw [h]; simp
  rw [mem_tell, hx] at hm
  unfold placeV
  cases hb : x.2 with
  | true =>
    rw [hb] at hm
    simp at hm
    simp [hm]
  | false =>
    have hn := not_new h hp hb
    rw [hb] at hm
    simp at hm
    simp [hm, hn]
theorem place_no {s : Int} {N O : List Int} (h : ∀ y ∈ tellL N O, y.1 ≠ s) : placeV N O s = 0 :=
  placeV_ne fun hm => by
    rcases List.mem_append.1 hm with hm | hm
    · exact h (s, true) (mem_tell.2 (.inl ⟨rfl, hm⟩)) rfl
    · exact h (s, false) (mem_tell.2 (.inr ⟨rfl, hm⟩)) rfl

set_option maxRecDepth 100000 in
set_option maxHeartbeats 2000000 in
theorem place_any (p : Option Addr) (N O : List Int) (s : Int) (w : World) (h : LsIs w p N O) (hN : N.length ≤ 8) (hO : O.length ≤ 8) :
    Calls Try.prog 61 #[.pointer p, .int .i64 s] w fun e w' => e = .returned (.int .i64 (placeV N O s)) ∧ Keep (fun _ => False) w w' := by
  obtain ⟨n, hn⟩ : ∃ n : Nat, 6 ≤ n := ⟨6, Nat.le_refl _⟩
  refine (callsIn_wide (n := n)).1 ?_
  refine callsIn_of_wp_marks Try.func61 rfl trivial ?_ rfl
  obtain ⟨w0, hw0⟩ : ∃ w0, w0 = (w.alloc (.cells #[.int .i64 s] 3)).alloc (.cells #[.int .i64 0] 3) := ⟨_, rfl⟩
  have hk0 : Keep (fun _ => False) w w0 := by rw [hw0]; exact ((Keep.refl _ w).alloc _).alloc _
  have hs0 : w0.heap.size = w.heap.size + 1 + 1 := by rw [hw0]; simp
  have b1 : Boxed w0 w.heap.size 3 (.int .i64 s) := by rw [hw0]; exact (Boxed.new w _ _).alloc _
  have b2 : Boxed w0 (w.heap.size + 1) 3 (.int .i64 0) := by
    rw [hw0]; have := Boxed.new (w.alloc (.cells #[.int .i64 s] 3)) 3 (.int .i64 0); rwa [World.size_alloc] at this
  have H0 := Lib.hid (h.keep hk0)
  have B1 := Lib.hid b1; have B2 := Lib.hid b2; have K0 := Lib.hid hk0
  clear h b1 b2 hk0
  simp only [Try.ntmps61, List.size_toArray, List.length_cons, List.length_nil, Nat.reduceAdd, Nat.reduceSub, Array.replicate_succ, Array.replicate_zero, List.push_toArray, List.append_toArray, List.nil_append, List.cons_append]
  gi_wp2_with fail
  rw [← hw0]
  refine ⟨trivial, fun h => (by cases h), ?_⟩
  refine (callsIn_wide.2 (lall_is p N O w0 H0.out)).mono ?_
  rintro e w1 ⟨rfl, h1, k1⟩
  rw [hs0] at h1
  have b1 := boxed_kept B1.out k1 id; have b2 := boxed_kept B2.out k1 id
  have hb1 : Below w.heap.size w w1 := (K0.out.trans k1).below (Nat.le_refl _) (fun _ h => h.elim)
  have hs1 : w.heap.size + 2 ≤ w1.heap.size := by have := k1.size; omega
  have X := Lib.hid h1
  clear hw0 H0 B1 B2 K0 k1 h1
  gi_wp2
  refine range_law rfl (by omega) (gf := 82) (lb := #[.pointer (some ⟨w.heap.size + 1 + 1, 0, none⟩)]) rfl trivial (enters_of Try.func82 (by kernel_rfl) rfl)
    (all1_gives (n - 1) (by omega) (fun _ => False) _ N O w1 X.out hN hO id (fun _ _ => id)) (Below.refl _ _) (fun _ => rfl)
    (fun pre W => ((Boxed W w.heap.size 3 (.int .i64 s) ∧ Boxed W (w.heap.size + 1) 3 (.int .i64 0)) ∧ ∀ y ∈ pre, y.1 ≠ s) ∧ Below w.heap.size w W)
    (fun c pre W => ((Boxed W w.heap.size 3 (.int .i64 s) ∧ Boxed W (w.heap.size + 1) 3 (.int .i64 (if lastF pre then 1 else 2))) ∧ (c = .ret ∧ ∃ q x, pre = q ++ [x] ∧ (∀ y ∈ q, y.1 ≠ s) ∧ x.1 = s)) ∧ Below w.heap.size w W)
    (OwnFrom.and (OwnFrom.and (OwnFrom.and (Own.from (boxed_own _ _ (fun _ => _)) _) (Own.from (boxed_own _ _ (fun _ => _)) _)) (ownFrom_pure _ (fun (pre : List (Int × Bool)) => ∀ y ∈ pre, y.1 ≠ s))) (ownFrom_below (Nat.le_refl _) (by omega)))
    (fun c => OwnFrom.and (OwnFrom.and (OwnFrom.and (Own.from (boxed_own _ _ (fun _ => _)) _) (Own.from (boxed_own _ _ (fun pre => Value.int .i64 (if lastF pre then 1 else 2))) _)) (ownFrom_pure _ (fun (pre : List (Int × Bool)) => c = .ret ∧ ∃ q x, pre = q ++ [x] ∧ (∀ y ∈ q, y.1 ≠ s) ∧ x.1 = s))) (ownFrom_below (Nat.le_refl _) (by omega)))
    ⟨⟨⟨b1, b2⟩, fun y hy => by cases hy⟩, hb1⟩
    (fun x => { tmps := #[.pointer p, .int .i64 s, undef, .pointer (some ⟨w.heap.size, 0, none⟩), .pointer (some ⟨w.heap.size + 1, 0, none⟩), .int .i64 x.1, .bool x.2, .pointer p, .func (.func 82) #[] #[.pointer (some ⟨w.heap.size + 1 + 1, 0, none⟩)], .int .i64 x.1, .bool x.2, undef, undef, undef, undef, undef, undef], defers := [] }) ?assign ?body ?done ?stop
  case assign =>
    intro l x W K hK
    dsimp only [encL]
    gi_wp2
    exact hK
  case body =>
    rintro l pre ⟨z, b⟩ W ⟨⟨⟨b1, b2⟩, hne⟩, hB⟩ _
    have c1 := b1.cell; have c2 := b2.cell; have f2 := b2.frozen
    have HB1 := Lib.hid b1; have HB2 := Lib.hid b2; have HB := Lib.hid hB; have HNE := Lib.hid hne
    clear b1 b2 hB hne
    dsimp only
    by_cases hz : z = s
    · have hq : (z == s) = true := by simp [hz]
      have HZ := Lib.hid hz; clear hz
      cases b with
      | true =>
        gi_wp2
        exact ⟨(KeepsOthers.setCell W _ _).from _, ⟨⟨HB1.out.other (by omega) _, by rw [lastF_app]; exact HB2.out.set _⟩, rfl, _, _, rfl, HNE.out, HZ.out⟩, HB.out.setCell (p := ⟨w.heap.size + 1, 0, none⟩) (by show _ ≤ w.heap.size + 1; omega) _⟩
      | false =>
        gi_wp2
        exact ⟨(KeepsOthers.setCell W _ _).from _, ⟨⟨HB1.out.other (by omega) _, by rw [lastF_app]; exact HB2.out.set _⟩, rfl, _, _, rfl, HNE.out, HZ.out⟩, HB.out.setCell (p := ⟨w.heap.size + 1, 0, none⟩) (by show _ ≤ w.heap.size + 1; omega) _⟩
    · have hq : (z == s) = false := by simpa using hz
      have HZ := Lib.hid hz; clear hz
      gi_wp2
      refine ⟨KeepsFrom.refl _ _, Keep.refl _ _, ⟨⟨HB1.out, HB2.out⟩, fun y hy => ?_⟩, HB.out⟩
      rcases List.mem_append.1 hy with hy | hy
      · exact HNE.out y hy
      · rw [List.mem_singleton.1 hy]; exact HZ.out
  case stop =>
    rintro D c pre W hD ⟨k, hk, hpre⟩ ⟨⟨⟨b1, b2⟩, rfl, q, x, hq, hqs, hx⟩, hB⟩ hK
    have hv : placeV N O s = if lastF pre then 1 else 2 := by
      rw [hq, lastF_app]
      refine place_at (pre := q) (r := (tellL N O).drop k) ?_ hqs hx
      conv => lhs; rw [← List.take_append_drop k (tellL N O), ← hpre, hq]
      simp
    rw [← hv] at b2
    have q2 := (boxed_putObj (o' := .deferred none) b2 hK rfl).cell
    have HB := Lib.hid (hB.trans (belowK_b (w := w1) (n₀ := w.heap.size) (by omega) W D _ (.deferred none) hD hK rfl rfl))
    clear b1 b2 hB hv hqs hx hq hpre
    gi_wp2
    refine ⟨by simp, .inl ⟨_, _, rfl, run_takeDeferred hK, ?_⟩⟩
    refine ⟨_, (by rw [results_cell1 rfl]; go_simp; rfl), ?_⟩
    exact ⟨rfl, Keep.of_below HB.out⟩
  case done =>
    rintro D ys W hD rfl ⟨⟨⟨b1, b2⟩, hne⟩, hB⟩ hK
    have HV := Lib.hid (place_no hne)
    have c2 := b2.cell; have f2 := b2.frozen
    have d2 := b2.set (.int .i64 0)
    have hB3 := hB.setCell (p := ⟨w.heap.size + 1, 0, none⟩) (by show _ ≤ w.heap.size + 1; omega) (.int .i64 0)
    have hK3 := (KeepsOthers.setCell W ⟨w.heap.size + 1, 0, none⟩ (.int .i64 0)).same D _ hK rfl
    have HD2 := Lib.hid d2; have HB3 := Lib.hid hB3; have HK3 := Lib.hid hK3
    clear b1 b2 hB hne hK d2 hB3 hK3
    gi_wp2
    have d2 := HD2.out; have hB3 := HB3.out; have hK3 := HK3.out
    clear HD2 HB3 HK3
    generalize W.setCell ⟨w.heap.size + 1, 0, none⟩ (.int .i64 0) = W3 at *
    have q2 := (boxed_putObj (o' := .deferred none) d2 hK3 rfl).cell
    have HBE := Lib.hid (hB3.trans (belowK_b (w := w1) (n₀ := w.heap.size) (by omega) W3 D _ (.deferred none) hD hK3 rfl rfl))
    refine ⟨by simp, .inl ⟨_, _, rfl, run_takeDeferred hK3, ?_⟩⟩
    refine ⟨_, (by rw [results_cell1 rfl]; go_simp; rfl), ?_⟩
    exact ⟨by rw [HV.out], Keep.of_below HBE.out⟩
end Go.Proofs.Ytnljjdfajmjdjaa
namespace Go.Proofs.Ytnljjdfajmjdjaa
open Go.RowKit
set_option maxRecDepth 100000

/-- Lists in memory, of sockets, each once. -/
structure Ls (w : World) (g : Nat) (N O : List Int) : Prop where
  at_ : LsAt w g N O
  ok : LsOk N O
theorem Ls.lt {w : World} {g : Nat} {N O : List Int} (h : Ls w g N O) : g < w.heap.size := h.at_.lt
theorem Ls.keep {S : Nat → Prop} {w w' : World} {g : Nat} {N O : List Int} (h : Ls w g N O) (hk : Keep S w w') (hs : ¬ S g) : Ls w' g N O := ⟨h.at_.keep hk hs, h.ok⟩
theorem Ls.drewN {w : World} {g : Nat} {N O : List Int} (h : Ls w g N O) (n : Nat) : Ls (w.drewN n) g N O := h.keep ((Keep.refl (fun _ => False) w).drewN n) id

theorem LsC.setNew {cs cs' : Array Value} {N O N' : List Int} (h : LsC cs N O) (hl : LineC cs' 0 N') (he : Else 0 cs cs') : LsC cs' N' O := ⟨he.1.trans h.size, hl, h.old.els he (.inr (Nat.le_refl _))⟩
theorem LsC.setOld {cs cs' : Array Value} {N O O' : List Int} (h : LsC cs N O) (hl : LineC cs' 9 O') (he : Else 9 cs cs') : LsC cs' N O' := ⟨he.1.trans h.size, h.new.els he (.inl (Nat.le_refl _)), hl⟩


/-! ### Remove -/
theorem lsremove_nil (s : Int) (w : World) : Calls Try.prog 53 #[.pointer none, .int .i64 s] w fun e w' => e = .returned (.bool false) ∧ w = w' := by
  go_enter Try.func53, Try.ntmps53
  go_wp2
  go_ret
  exact ⟨rfl, rfl⟩

set_option maxHeartbeats 400000 in
theorem lsremove_any (g : Nat) (N O : List Int) (s : Int) (b : Bool) (w : World) (h : Ls w g N O) (hb : b = decide (s ∈ N ∨ s ∈ O)) :
    Calls Try.prog 53 #[.pointer (some ⟨g, 0, none⟩), .int .i64 s] w fun e w' => e = .returned (.bool b) ∧ Ls w' g (N.erase s) (O.erase s) ∧ Keep (fun k => k = g) w w' := by
  obtain ⟨⟨cs, hw, hc⟩, hok⟩ := h
  have HOK := Lib.hid hok; have HC := Lib.hid hc; have HW := Lib.hid hw; have HB := Lib.hid hb
  clear hok hc hw hb
  go_enter Try.func53, Try.ntmps53
  by_cases hs : s ∈ N
  · have HS := Lib.hid hs
    have hd : decide (s ∈ N) = true := by simpa using hs
    clear hs
    go_wp2_with fail
    refine (lremove_any g 0 cs N s w HW.out HC.out.new HOK.out.len1 true hd.symm).mono ?_
    rintro e w1 ⟨rfl, cs1, h1, l1, e1, k1⟩
    have X := Lib.hid (⟨h1, l1, e1, k1⟩ : _ ∧ _ ∧ _ ∧ _)
    clear h1 l1 e1 k1 hd
    go_wp2
    go_ret
    obtain ⟨h1, l1, e1, k1⟩ := X.out
    have hso : s ∉ O := fun ho => (List.nodup_append.1 HOK.out.once).2.2 s HS.out s ho rfl
    refine ⟨ret_b (by rw [HB.out]; simp [HS.out]), ⟨⟨cs1, h1, ?_⟩, HOK.out.erase s⟩, k1⟩
    rw [List.erase_of_not_mem hso]
    exact HC.out.setNew l1 e1
  · have HS := Lib.hid hs
    have hd : decide (s ∈ N) = false := by simpa using hs
    clear hs
    go_wp2_with fail
    refine (lremove_any g 0 cs N s w HW.out HC.out.new HOK.out.len1 false hd.symm).mono ?_
    rintro e w1 ⟨rfl, cs1, h1, l1, e1, k1⟩
    have C1 := Lib.hid (HC.out.setNew l1 e1); have H1 := Lib.hid h1; have K1 := Lib.hid k1
    clear h1 l1 e1 k1 hd
    go_wp2_with fail
    refine (lremove_any g 9 cs1 O s w1 H1.out C1.out.old HOK.out.len2 _ rfl).mono ?_
    rintro e w2 ⟨rfl, cs2, h2, l2, e2, k2⟩
    have X := Lib.hid (⟨h2, l2, e2, k2⟩ : _ ∧ _ ∧ _ ∧ _)
    clear h2 l2 e2 k2
    obtain ⟨q, hq⟩ : ∃ q, q = decide (s ∈ O) := ⟨_, rfl⟩
    rw [← hq]
    have HQ := Lib.hid hq; clear hq
    go_wp2
    go_ret
    obtain ⟨h2, l2, e2, k2⟩ := X.out
    exact ⟨ret_b (by rw [HB.out, HQ.out]; simp [HS.out]), ⟨⟨cs2, h2, C1.out.setOld l2 e2⟩, HOK.out.erase s⟩, K1.out.trans k2⟩

/-! ### Push -/
theorem lspush_nil (s : Int) (f : Bool) (w : World) : Calls Try.prog 59 #[.pointer none, .int .i64 s, .bool f] w fun e w' => e = .returned (.int .i64 2) ∧ w = w' := by
  go_enter Try.func59, Try.ntmps59
  go_wp2
  go_ret
  exact ⟨rfl, rfl⟩

set_option maxHeartbeats 1000000 in
theorem lspush_any (g : Nat) (N O : List Int) (s : Int) (f : Bool) (w : World) (h : Ls w g N O) :
    Calls Try.prog 59 #[.pointer (some ⟨g, 0, none⟩), .int .i64 s, .bool f] w fun e w' => e = .returned (.int .i64 (pushV N O s)) ∧ Ls w' g (pushN N O s f) (pushO N O s f) ∧ Keep (fun k => k = g) w w' := by
  have HOK := Lib.hid h.ok; have H := Lib.hid h
  obtain ⟨v, hv⟩ : ∃ v, v = pushV N O s := ⟨_, rfl⟩
  obtain ⟨N', hN'⟩ : ∃ N', N' = pushN N O s f := ⟨_, rfl⟩
  obtain ⟨O', hO'⟩ : ∃ O', O' = pushO N O s f := ⟨_, rfl⟩
  rw [← hv, ← hN', ← hO']
  have HV := Lib.hid hv; have HN := Lib.hid hN'; have HO := Lib.hid hO'
  clear hv hN' hO'
  have HKEEP : Hid (v ≠ 0 → ∀ {w1 : World}, Keep (fun _ => False) w w1 → Ls w1 g N' O' ∧ Keep (fun k => k = g) w w1) := Lib.hid fun hne w1 hk => by
    have h0 : ¬ pushV N O s = 0 := by rw [← HV.out]; exact hne
    refine ⟨?_, hk.mono (fun _ h => h.elim)⟩
    rw [HN.out, HO.out]
    unfold pushN pushO
    simp only [h0, false_and, if_false]
    exact H.out.keep hk id
  clear h
  by_cases h1 : s < 0
  · obtain rfl : v = 8 := by rw [HV.out]; unfold pushV; rw [if_pos (.inl h1)]
    go_enter Try.func59, Try.ntmps59
    go_wp2
    go_ret
    exact ⟨rfl, HKEEP.out (by decide) (Keep.refl _ _)⟩
  by_cases h2 : 8 ≤ s
  · obtain rfl : v = 8 := by rw [HV.out]; unfold pushV; rw [if_pos (.inr h2)]
    go_enter Try.func59, Try.ntmps59
    go_wp2
    go_ret
    exact ⟨rfl, HKEEP.out (by decide) (Keep.refl _ _)⟩
  have HP : Hid (v = if placeV N O s = 0 then 0 else 6) := Lib.hid (by
    rw [HV.out]; unfold pushV placeV
    rw [if_neg (by omega)]
    by_cases a : s ∈ N <;> by_cases b : s ∈ O <;> simp [a, b])
  have hs : 0 ≤ s ∧ s < 8 := by omega
  obtain ⟨q, hq⟩ : ∃ q, q = placeV N O s := ⟨_, rfl⟩
  have HQ := Lib.hid hq; clear hq
  have hlt : s < 8 := hs.2
  go_enter Try.func59, Try.ntmps59
  go_wp2_with fail
  refine (place_any _ N O s w H.out.at_.is HOK.out.len1 HOK.out.len2).mono ?_
  rintro e w1 ⟨rfl, k1⟩
  rw [← HQ.out]
  have K1 := Lib.hid k1; have H1 := Lib.hid (H.out.keep k1 id)
  clear k1
  by_cases hq0 : q = 0
  · subst hq0
    have hn : s ∉ N ++ O := placeV_eq.1 HQ.out.symm
    have hrm := (HOK.out.room hs hn).2
    obtain rfl : v = 0 := by rw [HP.out, ← HQ.out]; rfl
    obtain ⟨⟨cs, hw, hc⟩, _⟩ := H1.out
    have HC := Lib.hid hc; have HW := Lib.hid hw
    have hNe : N' = if f = true then N ++ [s] else N := by rw [HN.out]; unfold pushN; simp [← HV.out]
    have hOe : O' = if f = false then O ++ [s] else O := by rw [HO.out]; unfold pushO; simp [← HV.out]
    have HNN := Lib.hid hn; have HNe := Lib.hid hNe; have HOe := Lib.hid hOe
    clear hc hw hn hNe hOe
    cases f with
    | true =>
      go_wp2_with fail
      refine (lpush_any g 0 cs N s w1 HW.out HC.out.new (by omega)).mono ?_
      rintro e w2 ⟨⟨v2, rfl⟩, cs2, h2, l2, e2, k2⟩
      have X := Lib.hid (⟨h2, l2, e2, k2⟩ : _ ∧ _ ∧ _ ∧ _)
      clear h2 l2 e2 k2
      go_wp2
      go_ret
      obtain ⟨h2, l2, e2, k2⟩ := X.out
      refine ⟨rfl, ?_, (K1.out.mono (fun _ h => h.elim)).trans k2⟩
      rw [HNe.out, HOe.out]
      exact ⟨⟨cs2, h2, HC.out.setNew l2 e2⟩, HOK.out.pushNew hs HNN.out⟩
    | false =>
      go_wp2_with fail
      refine (lpush_any g 9 cs O s w1 HW.out HC.out.old (by omega)).mono ?_
      rintro e w2 ⟨⟨v2, rfl⟩, cs2, h2, l2, e2, k2⟩
      have X := Lib.hid (⟨h2, l2, e2, k2⟩ : _ ∧ _ ∧ _ ∧ _)
      clear h2 l2 e2 k2
      go_wp2
      go_ret
      obtain ⟨h2, l2, e2, k2⟩ := X.out
      refine ⟨rfl, ?_, (K1.out.mono (fun _ h => h.elim)).trans k2⟩
      rw [HNe.out, HOe.out]
      exact ⟨⟨cs2, h2, HC.out.setOld l2 e2⟩, HOK.out.pushOld hs HNN.out⟩
  · have hqb : (q == 0) = false := by simpa using hq0
    obtain rfl : v = 6 := by rw [HP.out, ← HQ.out, if_neg hq0]
    clear hq0
    go_wp2
    go_ret
    exact ⟨rfl, HKEEP.out (by decide) K1.out⟩

/-! ### Drop, Back -/
theorem lsdrop_nil (w : World) : Calls Try.prog 44 #[.pointer none] w fun e w' => e = .returned (.bool false) ∧ Keep (fun _ => False) w w' := by
  go_enter Try.func44, Try.ntmps44
  go_wp2_with fail
  refine (head_any none [] [] w (LsIs.none w) (Nat.zero_le _) (Nat.zero_le _)).mono ?_
  rintro e w1 ⟨rfl, k1⟩
  have K1 := Lib.hid k1; clear k1
  have e1 : headB [] [] = false := rfl
  rw [e1]
  go_wp2
  go_ret
  exact ⟨rfl, K1.out⟩
theorem lsback_nil (w : World) : Calls Try.prog 42 #[.pointer none] w fun e w' => e = .returned (.bool false) ∧ Keep (fun _ => False) w w' := by
  go_enter Try.func42, Try.ntmps42
  go_wp2_with fail
  refine (head_any none [] [] w (LsIs.none w) (Nat.zero_le _) (Nat.zero_le _)).mono ?_
  rintro e w1 ⟨rfl, k1⟩
  have K1 := Lib.hid k1; clear k1
  have e1 : headB [] [] = false := rfl
  rw [e1]
  go_wp2
  go_ret
  exact ⟨rfl, K1.out⟩

theorem head_mem {N O : List Int} (h : headB N O = true) : headS N O ∈ N ∨ headS N O ∈ O := by
  cases N with
  | nil =>
    cases O with
    | nil => cases h
    | cons x r => exact .inr (List.mem_cons_self ..)
  | cons x r => exact .inl (List.mem_cons_self ..)
theorem erase_both {N O : List Int} (hok : LsOk N O) (hb : headB N O = true) : N.erase (headS N O) = dropN N ∧ O.erase (headS N O) = dropO N O := by
  refine ⟨(erase_head hok hb).1, ?_⟩
  cases N with
  | nil => exact (erase_head hok hb).2
  | cons x r =>
    have : x ∉ O := fun ho => (List.nodup_append.1 hok.once).2.2 x (List.mem_cons_self ..) x ho rfl
    exact List.erase_of_not_mem this
theorem none_left {N O : List Int} (h : headB N O = false) : N = [] ∧ O = [] := by
  unfold headB at h
  simpa using h

set_option maxHeartbeats 400000 in
theorem lsdrop_any (g : Nat) (N O : List Int) (w : World) (h : Ls w g N O) :
    Calls Try.prog 44 #[.pointer (some ⟨g, 0, none⟩)] w fun e w' => e = .returned (.bool (headB N O)) ∧ Ls w' g (dropN N) (dropO N O) ∧ Keep (fun k => k = g) w w' := by
  have H := Lib.hid h; clear h
  go_enter Try.func44, Try.ntmps44
  go_wp2_with fail
  refine (head_any _ N O w H.out.at_.is H.out.ok.len1 H.out.ok.len2).mono ?_
  rintro e w1 ⟨rfl, k1⟩
  have K1 := Lib.hid k1; have H1 := Lib.hid (H.out.keep k1 id); clear k1
  obtain ⟨s, hs⟩ : ∃ s, s = headS N O := ⟨_, rfl⟩
  obtain ⟨b, hb⟩ : ∃ b, b = headB N O := ⟨_, rfl⟩
  generalize headF N O = f
  rw [← hs, ← hb]
  have HS := Lib.hid hs; have HB := Lib.hid hb
  clear hs hb
  cases b with
  | true =>
    have HM : Hid (true = decide (s ∈ N ∨ s ∈ O)) := Lib.hid (by rw [HS.out]; simp [head_mem HB.out.symm])
    go_wp2_with fail
    refine (lsremove_any g N O s true w1 H1.out HM.out).mono ?_
    rintro e w2 ⟨rfl, h2, k2⟩
    have X := Lib.hid (⟨h2, k2⟩ : _ ∧ _)
    clear h2 k2
    go_wp2
    go_ret
    obtain ⟨h2, k2⟩ := X.out
    have e2 := erase_both H.out.ok HB.out.symm
    rw [← HS.out] at e2
    rw [e2.1, e2.2] at h2
    exact ⟨ret_b HB.out, h2, (K1.out.mono (fun _ h => h.elim)).trans k2⟩
  | false =>
    go_wp2
    go_ret
    obtain ⟨rfl, rfl⟩ := none_left HB.out.symm
    exact ⟨rfl, H1.out, K1.out.mono (fun _ h => h.elim)⟩

set_option maxHeartbeats 400000 in
theorem lsback_any (g : Nat) (N O : List Int) (w : World) (h : Ls w g N O) :
    Calls Try.prog 42 #[.pointer (some ⟨g, 0, none⟩)] w fun e w' => e = .returned (.bool (headB N O)) ∧ Ls w' g (dropN N) (backO N O) ∧ Keep (fun k => k = g) w w' := by
  have H := Lib.hid h; clear h
  go_enter Try.func42, Try.ntmps42
  go_wp2_with fail
  refine (head_any _ N O w H.out.at_.is H.out.ok.len1 H.out.ok.len2).mono ?_
  rintro e w1 ⟨rfl, k1⟩
  have K1 := Lib.hid k1; have H1 := Lib.hid (H.out.keep k1 id); clear k1
  obtain ⟨s, hs⟩ : ∃ s, s = headS N O := ⟨_, rfl⟩
  obtain ⟨b, hb⟩ : ∃ b, b = headB N O := ⟨_, rfl⟩
  generalize headF N O = f
  rw [← hs, ← hb]
  have HS := Lib.hid hs; have HB := Lib.hid hb
  clear hs hb
  cases b with
  | true =>
    have HM : Hid (true = decide (s ∈ N ∨ s ∈ O)) := Lib.hid (by rw [HS.out]; simp [head_mem HB.out.symm])
    go_wp2_with fail
    refine (lsremove_any g N O s true w1 H1.out HM.out).mono ?_
    rintro e w2 ⟨rfl, h2, k2⟩
    have e2 := erase_both H.out.ok HB.out.symm
    rw [← HS.out] at e2
    rw [e2.1, e2.2] at h2
    obtain ⟨⟨cs, hw, hc⟩, hok⟩ := h2
    have hl : (dropO N O).length < 8 := by
      have hl := H.out.ok.len
      have hB := HB.out
      cases N with
      | nil =>
        cases O with
        | nil => cases hB
        | cons x r => simp [dropO] at hl ⊢; omega
      | cons x r => simp [dropO] at hl ⊢; omega
    have HC := Lib.hid hc; have HW := Lib.hid hw; have K2 := Lib.hid ((K1.out.mono (fun _ h => h.elim)).trans k2)
    clear hc hw k2 hok e2
    go_wp2_with fail
    refine (lpush_any g 9 cs (dropO N O) s w2 HW.out HC.out.old hl).mono ?_
    rintro e w3 ⟨⟨v3, rfl⟩, cs3, h3, l3, e3, k3⟩
    have X := Lib.hid (⟨h3, l3, e3, k3⟩ : _ ∧ _ ∧ _ ∧ _)
    clear h3 l3 e3 k3
    go_wp2
    go_ret
    obtain ⟨h3, l3, e3, k3⟩ := X.out
    have hbo : dropO N O ++ [s] = backO N O := by
      have hB := HB.out
      rw [HS.out]
      cases N with
      | nil =>
        cases O with
        | nil => cases hB
        | cons x r => rfl
      | cons x r => rfl
    rw [hbo] at l3
    exact ⟨ret_b HB.out, ⟨⟨cs3, h3, HC.out.setOld l3 e3⟩, H.out.ok.back⟩, K2.out.trans k3⟩
  | false =>
    go_wp2
    go_ret
    obtain ⟨rfl, rfl⟩ := none_left HB.out.symm
    exact ⟨rfl, H1.out, K1.out.mono (fun _ h => h.elim)⟩
end Go.Proofs.Ytnljjdfajmjdjaa
