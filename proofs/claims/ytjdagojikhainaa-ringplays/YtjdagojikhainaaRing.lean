/-
  The calls of package ring (New, Push, Pop, At, Len) answer what the document says, at every ring. Conditions: the ring lies in memory as New makes it, or is nil.
-/
import Derived.Test.YtjdagojikhainaaRingSt
import Derived.Test.YtjdagojikhainaaSched
import Derived.Test.YtjdagojikhainaaChecked
import Derived.WalkSpells
import Derived.WalkLawsBesides
import Derived.LoopTactic
import Derived.Deep.QuietTactic
import Derived.Deep.DeepCutAuto
import Derived.Deep.Draws
import Derived.BigQuiet
namespace Go.Proofs.Ytjdagojikhainaa
open Go.RowKit

theorem Try.infoInt : (Try.prog.info? 3).map (fun i => (i.zero, i.size, i.bytes)) = some (some (.int .i64 0), 1, 8) := by kernel_rfl

def capN (n : Int) : Nat := if n < 0 then 0 else if n ≤ 4096 then n.toNat else 4096
theorem capN_le (n : Int) : capN n ≤ 4096 := by unfold capN; split <;> (try split) <;> omega

theorem madeCells_int (n : Nat) : madeCells #[Value.int .i64 0] n = (zv (List.replicate n 0)).toArray := by
  apply Array.ext'
  simp [madeCells, zv]
  apply List.ext_getElem <;> simp [Nat.mod_one]

theorem ring_made (w : World) (n : Nat) (h : n ≤ 4096) : RingAt ((w.alloc (.cells (madeCells #[Value.int .i64 0] n) 3)).alloc (.cells #[.slice (some ⟨w.heap.size, 0, none⟩) n n, .int .i64 0, .int .i64 0] 39)) (w.heap.size + 1) w.heap.size n [] := by
  refine ⟨0, List.replicate n 0, ?_, ?_, h, Nat.zero_le _, Nat.zero_le _, fun i hi => by simp at hi⟩
  · have := Whole.new (w.alloc (.cells (madeCells #[Value.int .i64 0] n) 3)) 39 #[.slice (some ⟨w.heap.size, 0, none⟩) n n, .int .i64 0, .int .i64 0]
    rwa [World.size_alloc] at this
  · have := (Owns.lit w 3 (zv (List.replicate n 0)) (by rw [len_zv, List.length_replicate]; unfold maxLen; omega)).alloc (.cells #[.slice (some ⟨w.heap.size, 0, none⟩) n n, .int .i64 0, .int .i64 0] 39)
    rw [len_zv, List.length_replicate] at this
    rw [madeCells_int]
    exact this

/-- What New leaves. -/
def Made (w : World) (n : Nat) (e : Ending) (w' : World) : Prop := e = .returned (.pointer (some ⟨w.heap.size + 1, 0, none⟩)) ∧ RingAt w' (w.heap.size + 1) w.heap.size n [] ∧ Keep (fun _ => False) w w'

set_option maxHeartbeats 400000 in
theorem rnew_any (n : Int) (w : World) : Calls Try.prog 7 #[.int .i64 n] w (Made w (capN n)) := by
  unfold Made
  rcases Int.lt_trichotomy n 0 with h | h | h
  · have He : Hid (capN n = 0) := Lib.hid (if_pos h)
    have hmk : ∀ w : World, (Instr.makeSlice 22 (.int .i64 0) (.int .i64 0)).run Try.prog w = .ok (.slice (some ⟨w.heap.size, 0, none⟩) 0 0) (w.alloc (.cells (madeCells #[.int .i64 0] 0) 3)) := run_make_row' (P := Try.prog) 22 3 (.int .i64 0) 8 Try.underlying22 Try.infoInt rfl .i64 .i64 0 (by omega) (by omega)
    go_enter Try.func7, Try.ntmps7
    go_wp2
    go_ret
    exact ⟨rfl, by rw [He.out]; exact ring_made _ _ (by decide), ((Keep.refl _ _).alloc _).alloc _⟩
  · subst h
    have hmk : ∀ w : World, (Instr.makeSlice 22 (.int .i64 0) (.int .i64 0)).run Try.prog w = .ok (.slice (some ⟨w.heap.size, 0, none⟩) 0 0) (w.alloc (.cells (madeCells #[.int .i64 0] 0) 3)) := run_make_row' (P := Try.prog) 22 3 (.int .i64 0) 8 Try.underlying22 Try.infoInt rfl .i64 .i64 0 (by omega) (by omega)
    go_enter Try.func7, Try.ntmps7
    go_wp2
    go_ret
    exact ⟨rfl, ring_made _ _ (by decide), ((Keep.refl _ _).alloc _).alloc _⟩
  · rcases Int.lt_trichotomy n 4096 with h' | h' | h'
    · have He : Hid (capN n = n.toNat) := Lib.hid (by unfold capN; rw [if_neg (by omega), if_pos (by omega)])
      have hm : n.toNat ≤ 4096 := by omega
      obtain ⟨m, rfl⟩ : ∃ m : Nat, n = m := ⟨n.toNat, by omega⟩
      have hm' : m ≤ 4096 := by omega
      have hmk := run_make_row' (P := Try.prog) 22 3 (.int .i64 0) 8 Try.underlying22 Try.infoInt rfl .i64 .i64 m (by omega) (by omega)
      go_enter Try.func7, Try.ntmps7
      go_wp2
      go_ret
      exact ⟨rfl, by rw [He.out]; exact ring_made _ _ hm', ((Keep.refl _ _).alloc _).alloc _⟩
    · subst h'
      have hmk : ∀ w : World, (Instr.makeSlice 22 (.int .i64 4096) (.int .i64 4096)).run Try.prog w = .ok (.slice (some ⟨w.heap.size, 0, none⟩) 4096 4096) (w.alloc (.cells (madeCells #[.int .i64 0] 4096) 3)) := run_make_row' (P := Try.prog) 22 3 (.int .i64 0) 8 Try.underlying22 Try.infoInt rfl .i64 .i64 4096 (by omega) (by omega)
      go_enter Try.func7, Try.ntmps7
      go_wp2
      go_ret
      exact ⟨rfl, ring_made _ _ (by decide), ((Keep.refl _ _).alloc _).alloc _⟩
    · have He : Hid (capN n = 4096) := Lib.hid (by unfold capN; rw [if_neg (by omega), if_neg (by omega)])
      have hmk : ∀ w : World, (Instr.makeSlice 22 (.int .i64 4096) (.int .i64 4096)).run Try.prog w = .ok (.slice (some ⟨w.heap.size, 0, none⟩) 4096 4096) (w.alloc (.cells (madeCells #[.int .i64 0] 4096) 3)) := run_make_row' (P := Try.prog) 22 3 (.int .i64 0) 8 Try.underlying22 Try.infoInt rfl .i64 .i64 4096 (by omega) (by omega)
      go_enter Try.func7, Try.ntmps7
      go_wp2
      go_ret
      exact ⟨rfl, by rw [He.out]; exact ring_made _ _ (by decide), ((Keep.refl _ _).alloc _).alloc _⟩

theorem rlen_nil (w : World) : Calls Try.prog 12 #[.pointer none] w fun e w' => e = .returned (.int .i64 0) ∧ w = w' := by
  go_enter Try.func12, Try.ntmps12
  go_wp2
  go_ret
  exact ⟨rfl, rfl⟩
theorem rlen_any (g p N : Nat) (l : List Int) (w : World) (h : RingAt w g p N l) :
    Calls Try.prog 12 #[.pointer (some ⟨g, 0, none⟩)] w fun e w' => e = .returned (.int .i64 l.length) ∧ w = w' := by
  obtain ⟨f, ps, h⟩ := h
  obtain ⟨c0, c1, c2⟩ := h.cells
  clear h
  go_enter Try.func12, Try.ntmps12
  go_wp2
  go_ret
  exact ⟨rfl, rfl⟩
theorem rpush_nil (v : Int) (w : World) : Calls Try.prog 10 #[.pointer none, .int .i64 v] w fun e w' => e = .returned (.int .i64 2) ∧ w = w' := by
  go_enter Try.func10, Try.ntmps10
  go_wp2
  go_ret
  exact ⟨rfl, rfl⟩

set_option maxHeartbeats 400000 in
theorem place_any (g p N f i : Nat) (w : World) (c0 : w.cell? ⟨g, 0, none⟩ = some (.slice (some ⟨p, 0, none⟩) N N)) (c1 : w.cell? ⟨g, 1, none⟩ = some (.int .i64 f)) (hN : 0 < N) (hN' : N ≤ 4096) (hf : f ≤ N) (hi : i ≤ N) :
    Calls Try.prog 15 #[.pointer (some ⟨g, 0, none⟩), .int .i64 i] w fun e w' => e = .returned (.int .i64 (((f + i) % N : Nat) : Int)) ∧ ∃ n, w' = w.drewN n := by
  have hz : ((N : Int) == 0) = false := by simp; omega
  go_enter Try.func15, Try.ntmps15
  go_wp2
  go_quiet (fail)
  go_wp2
  go_ret
  exact ⟨ret_i (by simp), _, rfl⟩

theorem place_is {M : Nat} (g p N f i : Nat) (w : World) (hM : (f + i) % N = M) (c0 : w.cell? ⟨g, 0, none⟩ = some (.slice (some ⟨p, 0, none⟩) N N)) (c1 : w.cell? ⟨g, 1, none⟩ = some (.int .i64 f)) (hN : 0 < N) (hN' : N ≤ 4096) (hf : f ≤ N) (hi : i ≤ N) :
    Calls Try.prog 15 #[.pointer (some ⟨g, 0, none⟩), .int .i64 i] w fun e w' => e = .returned (.int .i64 (M : Int)) ∧ ∃ n, w' = w.drewN n := by
  subst hM; exact place_any g p N f i w c0 c1 hN hN' hf hi

theorem getD_cons_zero' (x : Int) (l : List Int) : (x :: l).getD 0 0 = x := rfl
/-- What At answers. -/
def atV (l : List Int) (i : Int) : Int := if 0 ≤ i ∧ i < l.length then l.getD i.toNat 0 else 0
def atB (l : List Int) (i : Int) : Bool := decide (0 ≤ i ∧ i < l.length)
set_option maxHeartbeats 400000 in
theorem rat_any (g p N : Nat) (l : List Int) (i : Int) (w : World) (h : RingAt w g p N l) :
    Calls Try.prog 14 #[.pointer (some ⟨g, 0, none⟩), .int .i64 i] w fun e w' => e = .returned (.tuple #[.int .i64 (atV l i), .bool (atB l i)]) ∧ ∃ n, w' = w.drewN n := by
  obtain ⟨f, ps, h⟩ := h
  have hn := h.n; have hl := h.len; have hf := h.fle
  have H : Hid (RingAt w g p N l) := Lib.hid ⟨f, ps, h⟩
  by_cases hneg : i < 0
  · have HV : Hid (atV l i = 0 ∧ atB l i = false) := Lib.hid ⟨by unfold atV; rw [if_neg (by omega)], by unfold atB; simp; omega⟩
    clear h
    go_enter Try.func14, Try.ntmps14
    go_wp2
    go_ret2
    exact ⟨ret_ib HV.out.1.symm HV.out.2.symm, 0, rfl⟩
  · obtain ⟨k, rfl⟩ : ∃ k : Nat, i = k := ⟨i.toNat, by omega⟩
    clear hneg
    by_cases hlt : k < l.length
    · have hc := h.at_cell hlt
      obtain ⟨c0, c1, c2⟩ := h.cells
      have HV : Hid (atV l k = l.getD k 0 ∧ atB l k = true) := Lib.hid ⟨by unfold atV; rw [if_pos (by omega)]; simp, by unfold atB; simp; omega⟩
      have hN : 0 < N := by omega
      have hi : (k : Int) < (l.length : Int) := by omega
      have hm : (f + k) % N < N := Nat.mod_lt _ hN
      clear h
      generalize l.getD k 0 = x at *
      generalize hM : (f + k) % N = M at *
      go_enter Try.func14, Try.ntmps14
      go_wp2_with (go_at_call 12; (with_reducible refine (rlen_any g p N l w H.out).mono ?_); rintro e w' ⟨rfl, rfl⟩)
      go_quiet ((go_at_call 15; exact Calls.quiet_of (place_is g p N f k _ hM c0 c1 hN hn hf (by omega))))
      go_wp2
      go_ret2
      exact ⟨ret_ib HV.out.1.symm HV.out.2.symm, _, rfl⟩
    · have HV : Hid (atV l k = 0 ∧ atB l k = false) := Lib.hid ⟨by unfold atV; rw [if_neg (by omega)], by unfold atB; simp; omega⟩
      have hi : ¬ (k : Int) < (l.length : Int) := by omega
      clear h
      go_enter Try.func14, Try.ntmps14
      go_wp2_with (go_at_call 12; (with_reducible refine (rlen_any g p N l w H.out).mono ?_); rintro e w' ⟨rfl, rfl⟩)
      go_ret2
      exact ⟨ret_ib HV.out.1.symm HV.out.2.symm, 0, rfl⟩

/-- What Push answers, and what is in it then. -/
def pushE (N : Nat) (l : List Int) : Int := if l.length = N then 5 else 0
def pushS (N : Nat) (l : List Int) (v : Int) : List Int := if l.length = N then l else l ++ [v]
set_option maxHeartbeats 1000000 in
theorem rpush_any (g p N : Nat) (l : List Int) (v : Int) (w : World) (h : RingAt w g p N l) :
    Calls Try.prog 10 #[.pointer (some ⟨g, 0, none⟩), .int .i64 v] w fun e w' => e = .returned (.int .i64 (pushE N l)) ∧ RingAt w' g p N (pushS N l v) ∧ Keep (fun k => k = g ∨ k = p) w w' := by
  have H0 := Lib.hid h
  obtain ⟨f, ps, h⟩ := h
  have hn := h.n; have hl := h.len; have hf := h.fle
  obtain ⟨c0, c1, c2⟩ := h.cells
  have H := Lib.hid h
  by_cases hfull : l.length = N
  · have HV : Hid (pushE N l = 5 ∧ pushS N l v = l) := Lib.hid ⟨if_pos hfull, if_pos hfull⟩
    have hq : ((l.length : Int) == (N : Int)) = true := by simp [hfull]
    clear h
    go_enter Try.func10, Try.ntmps10
    go_wp2
    go_quiet (fail)
    go_wp2
    go_ret
    exact ⟨ret_i HV.out.1.symm, by rw [HV.out.2]; exact H0.out.drewN _, (Keep.refl _ _).drewN _⟩
  · have HV : Hid (pushE N l = 0 ∧ pushS N l v = l ++ [v]) := Lib.hid ⟨if_neg hfull, if_neg hfull⟩
    have hq : ((l.length : Int) == (N : Int)) = false := by simp; omega
    have hN : 0 < N := by omega
    have hm : (f + l.length) % N < N := Nat.mod_lt _ hN
    have HP := Lib.hid (fun n => (h.drewN n).push (by omega) v)
    have hfz := h.own.free ((f + l.length) % N)
    have hfg := h.st.free 2
    have hcx : w.cell? ⟨p, (f + l.length) % N, none⟩ = (zv ps)[(f + l.length) % N]? := h.own.cell _ (by rw [len_zv, h.pl]; exact hm)
    obtain ⟨u, hu⟩ : ∃ u, (zv ps)[(f + l.length) % N]? = some u := ⟨_, List.getElem?_eq_getElem (by rw [len_zv, h.pl]; exact hm)⟩
    rw [hu] at hcx
    have HNE := Lib.hid h.ne
    have hgp : g ≠ p := h.ne
    clear h hu
    generalize hM : (f + l.length) % N = M at *
    go_enter Try.func10, Try.ntmps10
    go_wp2
    go_quiet (fail)
    go_wp2
    refine wp_region_sch (fun W => W.cell? ⟨g, 0, none⟩ = some (.slice (some ⟨p, 0, none⟩) N N) ∧ W.cell? ⟨g, 2, none⟩ = some (.int .i64 l.length)) [(true, 0), (true, 1), (true, 2), (true, 3), (true, 4), (true, 5), (true, 6), (true, 7), (true, 8), (true, 10), (false, 9), (true, 11), (false, 12)] (by kernel_rfl) (by kernel_rfl) (by kernel_rfl) (by kernel_rfl) ⟨c0, c2⟩ ?_
    (repeat (refine wpSch_yes (v := ?_) rfl (fun _ _ _ h => h) (by rfl) ?_ ?_; rotate_left; (next => (intro w hSw; (try dsimp only at hSw); obtain ⟨hS1, hS2⟩ := hSw; go_simp; (try with_reducible rfl))); (try simp only [Act.put, List.setIfInBounds_toArray, List.set_cons_zero, List.set_cons_succ])))
    refine wpSch_call rfl (by rfl) (fun K hK => ?_); go_simp
    refine (place_is g p N f l.length (w.drewN (nq + 1)) hM c0 c1 hN hn hf hl).mono ?_
    rintro e w2 ⟨rfl, n2, hw2⟩
    rw [World.drewN_drewN] at hw2
    generalize nq + 1 + n2 = n3 at hw2
    subst hw2
    refine hK.out _ _ ?_ (fun hHeld => ?_)
    · exact ⟨c0, c2⟩
    clear hK K
    (try simp only [Act.put, List.setIfInBounds_toArray, List.set_cons_zero, List.set_cons_succ])
    (repeat (refine wpSch_yes (v := ?_) rfl (fun _ _ _ h => h) (by rfl) ?_ ?_; rotate_left; (next => (intro w hSw; (try dsimp only at hSw); obtain ⟨hS1, hS2⟩ := hSw; go_simp; (try with_reducible rfl))); (try simp only [Act.put, List.setIfInBounds_toArray, List.set_cons_zero, List.set_cons_succ])))
    refine wpSch_call rfl (by rfl) (fun K hK => ?_); go_simp
    refine hK.out _ _ ?_ (fun hHeld => ?_)
    · exact ⟨(Whole.far (p := ⟨p, M, none⟩) H.out.st HNE.out _).cell 0, (Whole.far (p := ⟨p, M, none⟩) H.out.st HNE.out _).cell 2⟩
    clear hK K
    (try simp only [Act.put, List.setIfInBounds_toArray, List.set_cons_zero, List.set_cons_succ])
    refine wpSch_nil ?_
    have c2' : ((w.drewN n3).setCell ⟨p, M, none⟩ (.int .i64 v)).cell? ⟨g, 2, none⟩ = some (.int .i64 l.length) := (Whole.far (p := ⟨p, M, none⟩) (w := w.drewN n3) H.out.st HNE.out _).cell 2
    have f2' : ((w.drewN n3).setCell ⟨p, M, none⟩ (.int .i64 v)).frozen? ⟨g, 2, none⟩ = false := (Whole.far (p := ⟨p, M, none⟩) (w := w.drewN n3) H.out.st HNE.out _).free 2
    go_wp2
    go_ret
    exact ⟨ret_i HV.out.1.symm, by rw [HV.out.2]; exact ⟨_, _, HP.out n3⟩, ((((Keep.refl _ w).drewN n3).setCell (.inl (.inr rfl)) _).setCell (.inl (.inl rfl)) _)⟩

/-- What Pop answers, and what is in it then. -/
def popV (l : List Int) : Int := l.headD 0
def popB (l : List Int) : Bool := decide (0 < l.length)
theorem rpop_nil (w : World) : Calls Try.prog 9 #[.pointer none] w fun e w' => e = .returned (.tuple #[.int .i64 0, .bool false]) ∧ w = w' := by
  have h0 : Calls Try.prog 14 #[.pointer none, .int .i64 0] w fun e w' => e = .returned (.tuple #[.int .i64 0, .bool false]) ∧ w = w' := by
    go_enter Try.func14, Try.ntmps14
    go_wp2_with (go_at_call 12; (with_reducible refine (rlen_nil w).mono ?_); rintro e w' ⟨rfl, rfl⟩)
    go_ret2
    exact ⟨rfl, rfl⟩
  have H0 := Lib.hid h0; clear h0
  go_enter Try.func9, Try.ntmps9
  go_wp2_with (go_at_call 14; (with_reducible refine H0.out.mono ?_); rintro e w' ⟨rfl, rfl⟩)
  go_ret2
  exact ⟨rfl, rfl⟩

set_option maxHeartbeats 1000000 in
theorem rpop_any (g p N : Nat) (l : List Int) (w : World) (h : RingAt w g p N l) :
    Calls Try.prog 9 #[.pointer (some ⟨g, 0, none⟩)] w fun e w' => e = .returned (.tuple #[.int .i64 (popV l), .bool (popB l)]) ∧ RingAt w' g p N l.tail ∧ Keep (fun k => k = g ∨ k = p) w w' := by
  cases l with
  | nil =>
    have HA : Hid (Calls Try.prog 14 #[.pointer (some ⟨g, 0, none⟩), .int .i64 0] w fun e w' => e = .returned (.tuple #[.int .i64 0, .bool false]) ∧ ∃ n, w' = w.drewN n) := Lib.hid (rat_any g p N [] 0 w h)
    have H := Lib.hid h; clear h
    go_enter Try.func9, Try.ntmps9
    go_wp2_with (go_at_call 14; (with_reducible refine HA.out.mono ?_); rintro e w' ⟨rfl, n2, rfl⟩)
    go_ret2
    exact ⟨rfl, H.out.drewN n2, (Keep.refl _ _).drewN n2⟩
  | cons x l =>
    have HA : Hid (Calls Try.prog 14 #[.pointer (some ⟨g, 0, none⟩), .int .i64 0] w fun e w' => e = .returned (.tuple #[.int .i64 x, .bool true]) ∧ ∃ n, w' = w.drewN n) := Lib.hid (by
      have := rat_any g p N (x :: l) 0 w h
      rwa [show atV (x :: l) 0 = x from by unfold atV; rw [if_pos (by simp)]; rfl, show atB (x :: l) 0 = true from by unfold atB; simp] at this)
    obtain ⟨f, ps, h⟩ := h
    have hn := h.n; have hl := h.len; have hf := h.fle
    obtain ⟨c0, c1, c2⟩ := h.cells
    have HP := Lib.hid (fun n => (h.drewN n).pop)
    have hN : 0 < N := by simp at hl; omega
    have H := Lib.hid h
    clear h
    simp only [List.length_cons, Int.natCast_add, Int.natCast_one] at c2
    have hll : l.length ≤ 4096 := by simp at hl; omega
    generalize hM : (f + 1) % N = M at *
    have HPL : Hid (∀ n, Calls Try.prog 15 #[.pointer (some ⟨g, 0, none⟩), .int .i64 1] (w.drewN n) fun e w' => e = .returned (.int .i64 (M : Int)) ∧ ∃ m, w' = (w.drewN n).drewN m) := Lib.hid (fun n => place_is g p N f 1 (w.drewN n) hM c0 c1 hN hn hf (by omega))
    go_enter Try.func9, Try.ntmps9
    go_wp2_with (first
      | (go_at_call 14; (with_reducible refine HA.out.mono ?_); rintro e w2 ⟨rfl, n2, rfl⟩)
      | (go_at_call 15; (with_reducible refine (HPL.out n2).mono ?_); rintro e w3 ⟨rfl, n3, hw3⟩; rw [World.drewN_drewN] at hw3; generalize n2 + n3 = n4 at hw3; subst hw3; have f1 : (w.drewN n4).frozen? ⟨g, 1, none⟩ = false := H.out.st.free 1; have c1' : (w.drewN n4).cell? ⟨g, 1, none⟩ = some (.int .i64 f) := c1; have c2' : ((w.drewN n4).setCell ⟨g, 1, none⟩ (.int .i64 (M : Int))).cell? ⟨g, 2, none⟩ = some (.int .i64 ((l.length : Int) + 1)) := ((H.out.drewN n4).st.put 1 _).cell 2; have f2' : ((w.drewN n4).setCell ⟨g, 1, none⟩ (.int .i64 (M : Int))).frozen? ⟨g, 2, none⟩ = false := ((H.out.drewN n4).st.put 1 _).free 2))
    go_ret2
    refine ⟨rfl, ⟨_, _, by simpa using HP.out n4⟩, ((((Keep.refl _ w).drewN n4).setCell (.inl (.inl rfl)) _).setCell (.inl (.inl rfl)) _)⟩
end Go.Proofs.Ytjdagojikhainaa
