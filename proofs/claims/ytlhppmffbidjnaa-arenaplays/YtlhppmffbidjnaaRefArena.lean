/-
  canterref04.Arena: its calls (NewArena, Get, Free, Has, All) answer what the document says, at every arena. Conditions: the arena lies in memory as NewArena makes it.
-/
import Derived.Test.YtlhppmffbidjnaaArena
namespace Go.Proofs.Ytlhppmffbidjnaa
open Go.RowKit

theorem RT : (47 : TypeId) ≠ 4 ∧ (47 : TypeId) ≠ 3 := ⟨by decide, by decide⟩
theorem Owns.srcs {w : World} {e : TypeId} {src : Option Addr} {n c : Nat} {xs : List Value} (h : Owns w e (.slice src n c) xs) : ∀ a, src = some a → ∀ j u, xs[j]? = some u → w.cell? (a.add j) = some u := by
  intro a ha
  subst ha
  obtain ⟨a', c', e', _, hg⟩ := h.shape
  cases e'
  obtain ⟨g, rfl⟩ := hg a rfl
  exact h.news

set_option maxHeartbeats 400000 in
theorem rnew_any (n : Int) (w : World) :
    Calls Try.prog 8 #[.int .i64 n] w fun e w' => e = .returned (.pointer (some ⟨w.heap.size, 0, none⟩)) ∧ ArenaAt 47 w' (· = w.heap.size) w.heap.size ⟨capN n, [], []⟩ ∧ Keep (fun _ => False) w w' := by
  rcases Int.lt_trichotomy n 0 with h | h | h
  · have He : Hid (capN n = 0) := Lib.hid (if_pos h)
    go_enter Try.func8, Try.ntmps8
    go_wp2
    go_ret
    exact ⟨rfl, by rw [He.out]; exact arena_made _ _ _ (by decide), (Keep.refl _ _).alloc _⟩
  · subst h
    go_enter Try.func8, Try.ntmps8
    go_wp2
    go_ret
    exact ⟨rfl, arena_made _ _ _ (by decide), (Keep.refl _ _).alloc _⟩
  · rcases Int.lt_trichotomy n 4096 with h' | h' | h'
    · have He : Hid (capN n = n.toNat ∧ n = (n.toNat : Int) ∧ n.toNat ≤ 4096) := Lib.hid ⟨by unfold capN; rw [if_neg (by omega), if_pos (by omega)], by omega, by omega⟩
      go_enter Try.func8, Try.ntmps8
      go_wp2
      go_ret
      refine ⟨rfl, ?_, (Keep.refl _ _).alloc _⟩
      rw [He.out.1]
      have := arena_made 47 w n.toNat He.out.2.2
      rwa [← He.out.2.1] at this
    · subst h'
      go_enter Try.func8, Try.ntmps8
      go_wp2
      go_ret
      exact ⟨rfl, arena_made _ _ _ (by decide), (Keep.refl _ _).alloc _⟩
    · have He : Hid (capN n = 4096) := Lib.hid (by unfold capN; rw [if_neg (by omega), if_neg (by omega)])
      go_enter Try.func8, Try.ntmps8
      go_wp2
      go_ret
      exact ⟨rfl, by rw [He.out]; exact arena_made _ _ _ (by decide), (Keep.refl _ _).alloc _⟩

set_option maxHeartbeats 400000 in
theorem rhas_any (S : Nat → Prop) (g : Nat) (s : St) (i : Int) (b : Bool) (hb : s.has i = b) (w : World) (h : ArenaAt 47 w S g s) :
    Calls Try.prog 15 #[.pointer (some ⟨g, 0, none⟩), .int .i64 i] w fun e w' => e = .returned (.bool b) ∧ w = w' := by
  subst hb
  obtain ⟨ag, cg, af, cf, hraw, _, c0, c1, c2, hag, _, _⟩ := h.open
  by_cases hneg : i < 0
  · have HE : Hid (s.has i = false) := Lib.hid (by unfold St.has; simp; omega)
    clear hraw hag h
    go_enter Try.func15, Try.ntmps15
    go_wp2
    go_ret
    exact ⟨ret_b HE.out.symm, rfl⟩
  · obtain ⟨k, rfl⟩ : ∃ k : Nat, i = k := ⟨i.toNat, by omega⟩
    clear hneg
    by_cases hlt : k < s.out.length
    · obtain ⟨gg, rfl⟩ := hag (by omega)
      have hc : w.cell? ⟨gg, k, none⟩ = some (.bool (s.out[k])) := by
        rw [hraw.2.1.cell k (by simpa using hlt), get_bools]; simp [hlt]
      have HE : Hid (s.has k = s.out[k]) := Lib.hid (by unfold St.has; simp [hlt])
      have hi : (k : Int) < (s.out.length : Int) := by omega
      clear hraw hag h
      generalize s.out[k] = b at *
      go_enter Try.func15, Try.ntmps15
      go_wp2
      go_ret
      exact ⟨ret_b HE.out.symm, rfl⟩
    · have HE : Hid (s.has k = false) := Lib.hid (by unfold St.has; simp; rw [List.getElem?_eq_none (by omega)]; simp)
      have hi : ¬ (k : Int) < (s.out.length : Int) := by omega
      clear hraw hag h
      go_enter Try.func15, Try.ntmps15
      go_wp2
      go_ret
      exact ⟨ret_b HE.out.symm, rfl⟩

set_option maxHeartbeats 1000000 in
theorem rget_any (S : Nat → Prop) (g : Nat) (s : St) (w : World) (h : ArenaAt 47 w S g s) :
    Calls Try.prog 11 #[.pointer (some ⟨g, 0, none⟩)] w (Got 47 S g s w) := by
  obtain ⟨N, out, fr⟩ := s
  have hok := h.ok
  have hob : out.length ≤ 4096 := Nat.le_trans hok.len hok.n
  have hN : N ≤ 4096 := hok.n
  unfold Got
  have H := Lib.hid h
  obtain ⟨ag, cg, af, cf, hraw, hS, c0, c1, c2, hag, haf, hafn⟩ := h.open
  clear h
  have HR := Lib.hid hraw; have HS := Lib.hid hS; clear hraw hS
  dsimp only at c0 c1 c2 HR HS hag haf hafn
  rcases List.eq_nil_or_concat fr with rfl | ⟨fr, i, rfl⟩
  · clear hag haf hafn
    rw [List.length_nil] at c2 HR HS
    by_cases hfull : out.length = N
    · have E := Lib.hid (get_full hfull)
      rw [hfull] at c1
      clear hok HR HS
      go_enter Try.func11, Try.ntmps11
      go_wp2
      go_quiet (fail)
      go_wp2
      go_ret2
      refine ⟨ret_two E.out.1.symm E.out.2.1.symm, S, ?_, Step.drewN _ _ _⟩
      rw [E.out.2.2]; exact H.out
    · have E := Lib.hid (get_new hfull)
      have OK := Lib.hid (ok_new hok hfull)
      have hlt : out.length < N := by have := hok.len; simp at this; omega
      have hlt' : ¬ (N : Int) ≤ (out.length : Int) := by omega
      clear hok hfull H
      obtain ⟨i0, hi, hz0, hz1, hz2⟩ := info_parts Try.infoBool
      have HI := Lib.hid hi; have HZ0 := Lib.hid hz0; have HZ1 := Lib.hid hz1; have HZ2 := Lib.hid hz2; clear hi hz0 hz1 hz2
      go_enter Try.func11, Try.ntmps11
      go_wp2
      go_quiet (fail)
      have HR0 := Lib.hid (show Raw _ (w.drewN nq) _ _ _ _ _ _ from HR.out)
      go_wp2_with (at_builtin; refine wpList_append_owns rfl _ _ 43 rfl 4 i0 (.bool false) 1 Try.underlying43 HI.out HZ0.out HZ1.out HZ2.out rfl _ (bools out) rfl (HR0.out.2.1.alloc _) (some ⟨w.heap.size, 0, none⟩) 1 1 [.bool true] rfl rfl (fun h => (by cases h)) (one_news (w.drewN nq) _ _) (one_bools [true]) (by unfold maxLen; rw [len_bools]; omega) (by rw [len_bools]; omega) ?_; intro v' w1 hown hk hnew hnil; rw [app_bools] at hown; obtain ⟨gg, cap', hv⟩ := hown.pos (by simp); rw [len_bools, List.length_append, List.length_singleton] at hv; subst hv; obtain ⟨hr1, hc1, hf1⟩ := (HR0.out.alloc _).grownOut RT hk hown; have HR1 := Lib.hid hr1; have HK := Lib.hid hk; have HNEW := Lib.hid hnew; clear hown hk hnew hnil hr1)
      go_ret2
      refine ⟨ret_two (Eq.trans (by go_num) E.out.1.symm) E.out.2.1.symm, Foot g (.slice (some ⟨gg, 0, none⟩) (out.length + 1) cap') (.slice af 0 cf), ?_, ?_, foot_out HS.out HNEW.out (by simp)⟩
      · rw [E.out.2.2]; exact ⟨_, _, HR1.out, OK.out, fun k => Iff.rfl⟩
      · exact ((((Keep.refl S w).drewN nq).alloc _).then HK.out (fun k hk _ => (HS.out k).2 (.inr (.inl hk)))).setCell (p := ⟨g, 1, none⟩) (.inl ((HS.out g).2 (.inl rfl))) _
  · rw [List.concat_eq_append] at *
    have E := Lib.hid (get_last (N := N) (out := out) (fr := fr) (i := i))
    obtain ⟨hok', hoff⟩ := ok_last hok
    have OK := Lib.hid hok'
    have hio : i < out.length := (List.getElem?_eq_some_iff.1 hoff).1
    obtain ⟨gg, rfl⟩ := hag (by omega)
    obtain ⟨gf, rfl⟩ := haf (by simp)
    rw [List.length_append, List.length_singleton] at c2 HR HS
    have hci : w.cell? ⟨gf, fr.length, none⟩ = some (.int .i64 (i : Int)) := by rw [HR.out.2.2.cell fr.length (by simp), get_ints]; simp
    have hcap : fr.length + 1 ≤ cf := HR.out.2.2.capLe.2.1
    have hcm : cf ≤ 9223372036854775807 := by have := HR.out.2.2.capLe.2.2; unfold maxLen at this; omega
    have hfl : fr.length < 4096 := by have := hok.cnt; simp at this; omega
    have hpop : Owns w 3 (.slice (some ⟨gf, 0, none⟩) fr.length cf) (ints fr) := by
      have := HR.out.2.2
      rw [← app_ints] at this
      have := this.pop
      rwa [len_ints] at this
    have HPOP := Lib.hid hpop
    have HOFF := Lib.hid hoff
    have HONE := Lib.hid (one_ints fr)
    clear hok hok' hoff hpop hafn hag haf H
    obtain ⟨i0, hi, hz0, hz1, hz2⟩ := info_parts Try.infoInt
    have HI := Lib.hid hi; have HZ0 := Lib.hid hz0; have HZ1 := Lib.hid hz1; have HZ2 := Lib.hid hz2; clear hi hz0 hz1 hz2
    go_enter Try.func11, Try.ntmps11
    go_wp2_with (at_builtin; refine wpList_append_owns rfl _ _ 22 rfl 3 i0 (.int .i64 0) 8 Try.underlying22 HI.out HZ0.out HZ1.out HZ2.out rfl (.slice none 0 0) [] rfl (Owns.nil _ _) (some ⟨gf, 0, none⟩) fr.length cf (ints fr) rfl (len_ints fr) (fun h => (by cases h)) HPOP.out.srcs HONE.out (by unfold maxLen; simp; omega) (by simp; omega) ?_; intro v' w1 hown hk hnew hnil; rw [List.nil_append] at hown; obtain ⟨a', c', hv, _⟩ := hown.shape; rw [len_ints] at hv; subst hv; have hr1 := HR.out.keep hk (fun k _ e => (by cases e)); obtain ⟨_, _, e2, _, e5⟩ := hr1.cells; have hr2 := hr1.turnFr RT hown; obtain ⟨_, d1, _, _, _⟩ := hr2.cells; have d2 : (w1.setCell ⟨g, 2, none⟩ (.slice a' fr.length c')).cell? ⟨gg, i, none⟩ = some (.bool false) := (by rw [hr2.2.1.cell i (by simpa using hio), get_bools, HOFF.out]; rfl); have d3 := hr2.2.1.free i; have HR2 := Lib.hid (hr2.putOut RT.1 i (.bool true)); have HK := Lib.hid hk; have HNEW := Lib.hid hnew; clear hown hk hnew hnil hr1 hr2)
    go_ret2
    refine ⟨ret_two (Eq.trans (by go_num) E.out.1.symm) E.out.2.1.symm, Foot g (.slice (some ⟨gg, 0, none⟩) out.length cg) (.slice a' fr.length c'), ?_, ?_, foot_fr HS.out (fun k e => (HNEW.out k e).elim (fun e => (by cases e)) .inr) (Nat.le_refl _)⟩
    · rw [E.out.2.2]; exact ⟨_, _, by have := HR2.out; rwa [set_bools] at this, OK.out, fun _ => Iff.rfl⟩
    · exact (((Keep.refl S w).then HK.out (fun k e _ => (by cases e))).setCell (p := ⟨g, 2, none⟩) (.inl ((HS.out g).2 (.inl rfl))) _).setCell (p := ⟨gg, i, none⟩) (.inl ((HS.out gg).2 (.inr (.inl rfl)))) _

set_option maxHeartbeats 1000000 in
theorem rfree_any (S : Nat → Prop) (g : Nat) (s : St) (i : Int) (w : World) (h : ArenaAt 47 w S g s) :
    Calls Try.prog 13 #[.pointer (some ⟨g, 0, none⟩), .int .i64 i] w (Freed 47 S g s i w) := by
  obtain ⟨N, out, fr⟩ := s
  have hok := h.ok
  have hob : out.length ≤ 4096 := Nat.le_trans hok.len hok.n
  have hN : N ≤ 4096 := hok.n
  unfold Freed
  have H := Lib.hid h
  obtain ⟨ag, cg, af, cf, hraw, hS, c0, c1, c2, hag, haf, hafn⟩ := h.open
  clear h
  have HR := Lib.hid hraw; have HS := Lib.hid hS; clear hraw hS
  dsimp only at c0 c1 c2 HR HS hag haf hafn
  by_cases hneg : i < 0
  · have E : Hid (St.freeE ⟨N, out, fr⟩ i = 1 ∧ St.freeS ⟨N, out, fr⟩ i = ⟨N, out, fr⟩) := Lib.hid ⟨if_pos (.inl hneg), if_pos (.inl hneg)⟩
    clear hok HR HS hag haf hafn
    go_enter Try.func13, Try.ntmps13
    go_wp2
    go_ret
    refine ⟨ret_i E.out.1.symm, S, ?_, Step.refl _ _⟩
    rw [E.out.2]; exact H.out
  obtain ⟨k, rfl⟩ : ∃ k : Nat, i = k := ⟨i.toNat, by omega⟩
  clear hneg
  by_cases hbig : N ≤ k
  · have E : Hid (St.freeE ⟨N, out, fr⟩ k = 1 ∧ St.freeS ⟨N, out, fr⟩ k = ⟨N, out, fr⟩) := Lib.hid ⟨if_pos (.inr (by simp; omega)), if_pos (.inr (by simp; omega))⟩
    have hb' : (N : Int) ≤ (k : Int) := by omega
    clear hok HR HS hag haf hafn
    go_enter Try.func13, Try.ntmps13
    go_wp2
    go_ret
    refine ⟨ret_i E.out.1.symm, S, ?_, Step.refl _ _⟩
    rw [E.out.2]; exact H.out
  have hb' : ¬ (N : Int) ≤ (k : Int) := by omega
  have hor : ¬ ((k : Int) < 0 ∨ (N : Int) ≤ (k : Int)) := by omega
  by_cases hhas : St.has ⟨N, out, fr⟩ k = true
  · have E : Hid (St.freeE ⟨N, out, fr⟩ k = 0 ∧ St.freeS ⟨N, out, fr⟩ k = ⟨N, out.set k false, fr ++ [k]⟩) := Lib.hid ⟨by unfold St.freeE; rw [if_neg hor, if_pos hhas], by unfold St.freeS; rw [if_neg hor, if_pos hhas]; simp⟩
    have HA := Lib.hid hhas
    obtain ⟨k', e, hlt, hon⟩ := has_parts hhas
    obtain rfl : k = k' := by omega
    dsimp only at hlt hon
    have OK := Lib.hid (ok_free hok hon)
    have hfl : fr.length ≤ 4096 := by have := hok.cnt; simp at this; omega
    obtain ⟨gg, rfl⟩ := hag (by omega)
    have hck : w.cell? ⟨gg, k, none⟩ = some (.bool true) := by rw [HR.out.2.1.cell k (by simpa using hlt), get_bools, hon]; rfl
    have hfk := HR.out.2.1.free k
    have HR1 := Lib.hid (HR.out.putOut RT.1 k (.bool false))
    obtain ⟨_, d1, d2, f1, f2⟩ := HR1.out.cells
    have HAFN := Lib.hid hafn
    have HONE := Lib.hid (one_ints fr)
    clear hok hon hag haf hafn hor hhas e
    obtain ⟨i0, hi, hz0, hz1, hz2⟩ := info_parts Try.infoInt
    have HI := Lib.hid hi; have HZ0 := Lib.hid hz0; have HZ1 := Lib.hid hz1; have HZ2 := Lib.hid hz2; clear hi hz0 hz1 hz2
    go_enter Try.func13, Try.ntmps13
    go_wp2_with (first
      | (go_at_call 15; (with_reducible refine (rhas_any _ _ _ _ true HA.out _ H.out).mono ?_); rintro e w' ⟨rfl, rfl⟩)
      | (at_builtin; refine wpList_append_owns rfl _ _ 22 rfl 3 i0 (.int .i64 0) 8 Try.underlying22 HI.out HZ0.out HZ1.out HZ2.out rfl (.slice none 0 0) [] rfl (Owns.nil _ _) af fr.length cf (ints fr) rfl (len_ints fr) HAFN.out HR1.out.2.2.srcs HONE.out (by unfold maxLen; simp; omega) (by simp; omega) ?_; intro v1 w1 hown1 hk1 hnew1 hnil1; rw [List.nil_append] at hown1; obtain ⟨a1, c1, hv1, _⟩ := hown1.shape; rw [len_ints] at hv1; subst hv1; have HO1 := Lib.hid hown1; have HR2 := Lib.hid (HR1.out.keep hk1 (fun k _ e => (by cases e))); have HK1 := Lib.hid hk1; have HNEW1 := Lib.hid hnew1; clear hown1 hk1 hnew1 hnil1)
      | (at_builtin; refine wpList_append_owns rfl _ _ 22 rfl 3 i0 (.int .i64 0) 8 Try.underlying22 HI.out HZ0.out HZ1.out HZ2.out rfl (.slice a1 fr.length c1) (ints fr) rfl (HO1.out.alloc _) (some ⟨w1.heap.size, 0, none⟩) 1 1 [.int .i64 (k : Int)] rfl rfl (fun h => (by cases h)) (one_news w1 _ _) (one_ints [k]) (by unfold maxLen; rw [len_ints]; omega) (by rw [len_ints]; omega) ?_; intro v2 w2 hown hk hnew hnil; rw [app_ints] at hown; obtain ⟨gf, cap', hv⟩ := hown.pos (by simp); rw [len_ints, List.length_append, List.length_singleton] at hv; subst hv; have hfoot : ∀ j, Foot g (.slice (some ⟨gg, 0, none⟩) out.length cg) (.slice af fr.length cf) j → ¬ (Value.slice a1 fr.length c1).ownBlock = some j := (fun j hf e => (HNEW1.out j e).elim (fun e => (by cases e)) (fun h => by have := (HS.out j).2 hf; have := H.out.lt this; simp at h; omega)); have hr3 := (HR2.out.alloc _).keep hk hfoot; obtain ⟨_, _, g2, _, g5⟩ := hr3.cells; have HR3 := Lib.hid (hr3.turnFr RT hown); have HK := Lib.hid hk; have HNEW := Lib.hid hnew; clear hown hk hnew hnil hr3 hfoot))
    go_ret
    refine ⟨ret_i E.out.1.symm, Foot g (.slice (some ⟨gg, 0, none⟩) out.length cg) (.slice (some ⟨gf, 0, none⟩) (fr.length + 1) cap'), ?_, ?_, foot_fr (B := w.heap.size) HS.out (fun j e => ?_) (Nat.le_refl _)⟩
    · rw [E.out.2]; exact ⟨_, _, by have := HR3.out; rwa [set_bools] at this, OK.out, fun k => Iff.rfl⟩
    · refine (((((Keep.refl S w).setCell (p := ⟨gg, k, none⟩) (.inl ((HS.out gg).2 (.inr (.inl rfl)))) _).then HK1.out (fun j e _ => (by cases e))).alloc _).then HK.out (fun j e hlt => ?_)).setCell (p := ⟨g, 2, none⟩) (.inl ((HS.out g).2 (.inl rfl))) _
      exact (HNEW1.out j e).elim (fun e => (by cases e)) (fun h => by simp at h; omega)
    · have hs1 : w.heap.size ≤ w1.heap.size := by have := HK1.out.size; simpa using this
      refine .inr ((HNEW.out j e).elim (fun e => (HNEW1.out j e).elim (fun e => (by cases e)) (fun h => by simpa using h)) (fun h => by simp at h; omega))
  · rw [Bool.not_eq_true] at hhas
    have E : Hid (St.freeE ⟨N, out, fr⟩ k = 7 ∧ St.freeS ⟨N, out, fr⟩ k = ⟨N, out, fr⟩) := Lib.hid ⟨by unfold St.freeE; rw [if_neg hor, if_neg (by simp [hhas])], by unfold St.freeS; rw [if_neg hor, if_neg (by simp [hhas])]⟩
    have HA := Lib.hid hhas
    clear hok HR HS hag haf hafn hor hhas
    go_enter Try.func13, Try.ntmps13
    go_wp2_with (go_at_call 15; (with_reducible refine (rhas_any _ _ _ _ false HA.out _ H.out).mono ?_); rintro e w' ⟨rfl, rfl⟩)
    go_ret
    refine ⟨ret_i E.out.1.symm, S, ?_, Step.refl _ _⟩
    rw [E.out.2]; exact H.out

def allTo (bs : List Bool) (k : Nat) : List Nat := (List.range k).filter fun i => bs[i]?.getD false
theorem allTo_hit {bs : List Bool} {k : Nat} (h : bs[k]?.getD false = true) : allTo bs (k + 1) = allTo bs k ++ [k] := by simp [allTo, List.range_succ, h]
theorem allTo_miss {bs : List Bool} {k : Nat} (h : bs[k]?.getD false = false) : allTo bs (k + 1) = allTo bs k := by simp [allTo, List.range_succ, h]
theorem allTo_len (bs : List Bool) (k : Nat) : (allTo bs k).length ≤ k := by unfold allTo; exact Nat.le_trans (List.length_filter_le _ _) (by simp)

set_option maxHeartbeats 1000000 in
theorem rall_any (S : Nat → Prop) (g : Nat) (s : St) (w : World) (h : ArenaAt 47 w S g s) :
    Calls Try.prog 17 #[.pointer (some ⟨g, 0, none⟩)] w fun e w' => ∃ v, e = .returned v ∧ Owns w' 3 v (ints (allOf s.out)) ∧ (∀ j, v.ownBlock = some j → w.heap.size ≤ j) ∧ Keep (fun _ => False) w w' := by
  have hob : s.out.length ≤ 4096 := Nat.le_trans h.ok.len h.ok.n
  have H := Lib.hid h
  obtain ⟨ag, cg, af, cf, hraw, _, _, _, _, hag, _, _⟩ := h.open
  have HR := Lib.hid hraw
  clear hraw h
  obtain ⟨i0, hi, hz0, hz1, hz2⟩ := info_parts Try.infoInt
  have HI := Lib.hid hi; have HZ0 := Lib.hid hz0; have HZ1 := Lib.hid hz1; have HZ2 := Lib.hid hz2; clear hi hz0 hz1 hz2
  go_enter Try.func17, Try.ntmps17
  go_wp2
  go_loopw [3, 4] (fun l i wr => ∃ k : Nat, k ≤ s.out.length ∧ i = .int .i64 k ∧ Owns wr 3 l (ints (allTo s.out k)) ∧ (∀ j, l.ownBlock = some j → w.heap.size ≤ j) ∧ Keep (fun _ => False) w wr) (fun _ i _ => s.out.length - (intOf i).toNat)
  case atStart => exact ⟨0, Nat.zero_le _, rfl, Owns.nil _ _, fun j e => (by cases e), Keep.refl _ _⟩
  case round =>
    obtain ⟨k, hk, rfl, hown, hnew, hkeep⟩ := hrel
    obtain ⟨a, c, rfl, _⟩ := hown.shape
    rw [len_ints] at *
    have hr := HR.out.keep hkeep (fun _ _ h => h)
    obtain ⟨_, c1, _, _, _⟩ := hr.cells
    have hal := allTo_len s.out k
    have HO := Lib.hid hown; have HN := Lib.hid hnew; have HK := Lib.hid hkeep; clear hown hnew hkeep
    by_cases hlt : k < s.out.length
    · have hi1 : (k : Int) < (s.out.length : Int) := by omega
      obtain ⟨gg, rfl⟩ := hag (by omega)
      have hc : wr.cell? ⟨gg, k, none⟩ = some (.bool (s.out[k]?.getD false)) := by rw [hr.2.1.cell k (by simpa using hlt), get_bools]; simp [hlt]
      clear hr
      cases hb : s.out[k]?.getD false with
      | true =>
        have HH := Lib.hid (allTo_hit hb)
        rw [hb] at hc
        clear hb
        go_wp2_with (at_builtin; refine wpList_append_owns rfl _ _ 22 rfl 3 i0 (.int .i64 0) 8 Try.underlying22 HI.out HZ0.out HZ1.out HZ2.out rfl (.slice a (allTo s.out k).length c) (ints (allTo s.out k)) rfl (HO.out.alloc _) (some ⟨wr.heap.size, 0, none⟩) 1 1 [.int .i64 (k : Int)] rfl rfl (fun h => (by cases h)) (one_news wr _ _) (one_ints [k]) (by unfold maxLen; rw [len_ints]; omega) (by rw [len_ints]; omega) ?_; intro v2 w2 hown hk hnew hnil; rw [app_ints, ← HH.out] at hown; have HO2 := Lib.hid hown; have HK2 := Lib.hid hk; have HN2 := Lib.hid hnew; clear hown hk hnew hnil)
        go_roundw
        case rel =>
          refine ⟨k + 1, by omega, by go_num, HO2.out, fun j e => ?_, (HK.out.alloc _).then HK2.out (fun j e hlt => ?_)⟩
          · exact (HN2.out j e).elim (HN.out j) (fun h => by have := HK.out.size; simp at h; omega)
          · have := HN.out j e; omega
        case measure => simp [intOf]; omega
      | false =>
        have HH := Lib.hid (allTo_miss hb)
        rw [hb] at hc
        clear hb
        go_wp2
        go_roundw
        case rel => exact ⟨k + 1, by omega, by go_num, by rw [HH.out, ← len_ints, len_ints]; exact HO.out, HN.out, HK.out⟩
        case measure => simp [intOf]; omega
    · obtain rfl : k = s.out.length := by omega
      clear hr
      go_wp2
      go_ret
      exact ⟨_, rfl, HO.out, HN.out, HK.out⟩
end Go.Proofs.Ytlhppmffbidjnaa
