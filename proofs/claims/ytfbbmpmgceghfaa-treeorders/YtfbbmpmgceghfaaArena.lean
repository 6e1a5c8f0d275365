/-
  The calls of package arena (New, Get, Free, Has, Used) answer what the document says, at every arena. Conditions: the arena lies in memory as New makes it.
-/
import Derived.Test.YtfbbmpmgceghfaaArenaSt
import Derived.Test.YtfbbmpmgceghfaaChecked
import Derived.WalkSpells
import Derived.WalkLawsBesides
import Derived.LoopTactic
import Derived.Deep.QuietTactic
import Derived.Deep.DeepCutAuto
import Derived.Deep.Draws
import Derived.BigQuiet
namespace Go.Proofs.Ytfbbmpmgceghfaa
open Go.RowKit
set_option maxRecDepth 100000

theorem Try.infoBool : (Try.prog.info? 4).map (fun i => (i.zero, i.size, i.bytes)) = some (some (.bool false), 1, 1) := by kernel_rfl
theorem Try.infoInt : (Try.prog.info? 3).map (fun i => (i.zero, i.size, i.bytes)) = some (some (.int .i64 0), 1, 8) := by kernel_rfl

theorem arena_made (T : TypeId) (w : World) (n : Nat) (h : n ≤ 4096) : ArenaAt T (w.alloc (.cells #[.int .i64 n, .slice none 0 0, .slice none 0 0] T)) (· = w.heap.size) w.heap.size ⟨n, [], []⟩ :=
  ⟨_, _, ⟨Whole.new _ _ _, Owns.nil _ _, Owns.nil _ _⟩, ⟨h, Nat.zero_le _, List.nodup_nil, fun i hi => (by cases hi), rfl⟩, fun k => by simp [Foot, Value.ownBlock]⟩

set_option maxHeartbeats 400000 in
theorem anew_any (n : Int) (w : World) :
    Calls Try.prog 24 #[.int .i64 n] w fun e w' => e = .returned (.pointer (some ⟨w.heap.size, 0, none⟩)) ∧ ArenaAt 80 w' (· = w.heap.size) w.heap.size ⟨capN n, [], []⟩ ∧ Keep (fun _ => False) w w' := by
  rcases Int.lt_trichotomy n 0 with h | h | h
  · have He : Hid (capN n = 0) := Lib.hid (if_pos h)
    go_enter Try.func24, Try.ntmps24
    go_wp2
    go_ret
    exact ⟨rfl, by rw [He.out]; exact arena_made _ _ _ (by decide), (Keep.refl _ _).alloc _⟩
  · subst h
    go_enter Try.func24, Try.ntmps24
    go_wp2
    go_ret
    exact ⟨rfl, arena_made _ _ _ (by decide), (Keep.refl _ _).alloc _⟩
  · rcases Int.lt_trichotomy n 4096 with h' | h' | h'
    · have He : Hid (capN n = n.toNat ∧ n = (n.toNat : Int) ∧ n.toNat ≤ 4096) := Lib.hid ⟨by unfold capN; rw [if_neg (by omega), if_pos (by omega)], by omega, by omega⟩
      go_enter Try.func24, Try.ntmps24
      go_wp2
      go_ret
      refine ⟨rfl, ?_, (Keep.refl _ _).alloc _⟩
      rw [He.out.1]
      have := arena_made 80 w n.toNat He.out.2.2
      rwa [← He.out.2.1] at this
    · subst h'
      go_enter Try.func24, Try.ntmps24
      go_wp2
      go_ret
      exact ⟨rfl, arena_made _ _ _ (by decide), (Keep.refl _ _).alloc _⟩
    · have He : Hid (capN n = 4096) := Lib.hid (by unfold capN; rw [if_neg (by omega), if_neg (by omega)])
      go_enter Try.func24, Try.ntmps24
      go_wp2
      go_ret
      exact ⟨rfl, by rw [He.out]; exact arena_made _ _ _ (by decide), (Keep.refl _ _).alloc _⟩

theorem get_nil (w : World) : Calls Try.prog 26 #[.pointer none] w fun e w' => e = .returned (.tuple #[.int .i64 0, .int .i64 2]) ∧ w = w' := by
  go_enter Try.func26, Try.ntmps26
  go_wp2
  go_ret2
  exact ⟨rfl, rfl⟩

theorem has_nil (i : Int) (w : World) : Calls Try.prog 49 #[.pointer none, .int .i64 i] w fun e w' => e = .returned (.bool false) ∧ w = w' := by
  go_enter Try.func49, Try.ntmps49
  go_wp2
  go_ret
  exact ⟨rfl, rfl⟩

theorem free_nil (i : Int) (w : World) : Calls Try.prog 38 #[.pointer none, .int .i64 i] w fun e w' => e = .returned (.int .i64 2) ∧ w = w' := by
  go_enter Try.func38, Try.ntmps38
  go_wp2
  go_ret
  exact ⟨rfl, rfl⟩

theorem used_nil (w : World) : Calls Try.prog 35 #[.pointer none] w fun e w' => e = .returned (.int .i64 0) ∧ w = w' := by
  go_enter Try.func35, Try.ntmps35
  go_wp2
  go_ret
  exact ⟨rfl, rfl⟩

set_option maxHeartbeats 400000 in
theorem used_any (S : Nat → Prop) (g : Nat) (s : St) (w : World) (h : ArenaAt 80 w S g s) :
    Calls Try.prog 35 #[.pointer (some ⟨g, 0, none⟩)] w fun e w' => e = .returned (.int .i64 (s.out.count true : Nat)) ∧ ∃ n, w' = w.drewN n := by
  have hok := h.ok
  obtain ⟨ag, cg, af, cf, _, _, c0, c1, c2, _, _, _⟩ := h.open
  have hb : s.out.length ≤ 4096 := Nat.le_trans hok.len hok.n
  have HE : Hid ((s.out.length : Int) - (s.fr.length : Int) = (s.out.count true : Nat)) := Lib.hid (by have := hok.cnt; omega)
  have hf : s.fr.length ≤ 4096 := by have := hok.cnt; omega
  clear hok h
  go_enter Try.func35, Try.ntmps35
  go_wp2
  go_quiet (fail)
  go_wp2
  go_ret
  exact ⟨ret_i (Eq.trans (by go_num) HE.out), _, rfl⟩


set_option maxHeartbeats 400000 in
theorem has_any (S : Nat → Prop) (g : Nat) (s : St) (i : Int) (w : World) (h : ArenaAt 80 w S g s) :
    Calls Try.prog 49 #[.pointer (some ⟨g, 0, none⟩), .int .i64 i] w fun e w' => e = .returned (.bool (s.has i)) ∧ w = w' := by
  obtain ⟨ag, cg, af, cf, hraw, _, c0, c1, c2, hag, _, _⟩ := h.open
  by_cases hneg : i < 0
  · have HE : Hid (s.has i = false) := Lib.hid (by unfold St.has; simp; omega)
    clear hraw hag h
    go_enter Try.func49, Try.ntmps49
    go_wp2
    go_ret
    exact ⟨ret_b HE.out.symm, rfl⟩
  · obtain ⟨k, rfl⟩ : ∃ k : Nat, i = k := ⟨i.toNat, by omega⟩
    clear hneg
    by_cases hlt : k < s.out.length
    · obtain ⟨gg, rfl⟩ := hag (by omega)
      have hc : w.cell? ⟨gg, k, none⟩ = some (.bool (s.out[k])) := by
        have e : Owns w 4 (.slice (some ⟨gg, 0, none⟩) (bools s.out).length cg) (bools s.out) := by rw [len_bools]; exact hraw.2.1
        rw [e.cell k (by simpa using hlt), get_bools]; simp [hlt]
      have HE : Hid (s.has k = s.out[k]) := Lib.hid (by unfold St.has; simp [hlt])
      have hi : (k : Int) < (s.out.length : Int) := by omega
      clear hraw hag h
      generalize s.out[k] = b at *
      go_enter Try.func49, Try.ntmps49
      go_wp2
      go_ret
      exact ⟨ret_b HE.out.symm, rfl⟩
    · have HE : Hid (s.has k = false) := Lib.hid (by unfold St.has; simp; rw [List.getElem?_eq_none (by omega)]; simp)
      have hi : ¬ (k : Int) < (s.out.length : Int) := by omega
      clear hraw hag h
      go_enter Try.func49, Try.ntmps49
      go_wp2
      go_ret
      exact ⟨ret_b HE.out.symm, rfl⟩

/-- What Get leaves. -/
def Got (T : TypeId) (S : Nat → Prop) (g : Nat) (s : St) (w : World) (e : Ending) (w' : World) : Prop :=
  e = .returned (.tuple #[.int .i64 s.getV, .int .i64 s.getE]) ∧ ∃ S', ArenaAt T w' S' g s.getS ∧ Step S S' w w'

theorem AT : (80 : TypeId) ≠ 4 ∧ (80 : TypeId) ≠ 3 := ⟨by decide, by decide⟩

set_option maxHeartbeats 1000000 in
theorem get_any (S : Nat → Prop) (g : Nat) (s : St) (w : World) (h : ArenaAt 80 w S g s) :
    Calls Try.prog 26 #[.pointer (some ⟨g, 0, none⟩)] w (Got 80 S g s w) := by
  obtain ⟨N, out, fr⟩ := s
  have hok := h.ok
  have hob : out.length ≤ 4096 := Nat.le_trans hok.len hok.n
  have hN : N ≤ 4096 := hok.n
  unfold Got
  have H := Lib.hid h
  obtain ⟨ag, cg, af, cf, hraw, hS, c0, c1, c2, hag, haf, hafn⟩ := h.open
  clear h
  have HR := Lib.hid hraw; have HS := Lib.hid hS; clear hraw hS
  dsimp only at c0 c1 c2 HR HS hag haf hafn
  rcases List.eq_nil_or_concat fr with rfl | ⟨fr, i, rfl⟩
  · clear hag haf hafn
    rw [List.length_nil] at c2 HR HS
    by_cases hfull : out.length = N
    · have E := Lib.hid (get_full hfull)
      rw [hfull] at c1
      clear hok HR HS
      go_enter Try.func26, Try.ntmps26
      go_wp2
      go_quiet (fail)
      go_wp2
      go_ret2
      refine ⟨ret_pair E.out.1.symm E.out.2.1.symm, S, ?_, Step.drewN _ _ _⟩
      rw [E.out.2.2]; exact H.out
    · have E := Lib.hid (get_new hfull)
      have OK := Lib.hid (ok_new hok hfull)
      have hne' : ((out.length : Int) == (N : Int)) = false := by rw [beq_eq_false_iff_ne]; omega
      have hlt : out.length < N := by have := hok.len; simp at this; omega
      clear hok hfull H
      obtain ⟨i0, hi, hz0, hz1, hz2⟩ := info_parts Try.infoBool
      have HI := Lib.hid hi; have HZ0 := Lib.hid hz0; have HZ1 := Lib.hid hz1; have HZ2 := Lib.hid hz2; clear hi hz0 hz1 hz2
      go_enter Try.func26, Try.ntmps26
      go_wp2
      go_quiet (fail)
      have HR0 := Lib.hid (show Raw _ (w.drewN nq) _ _ _ _ _ _ from HR.out)
      go_wp2_with (at_builtin; refine wpList_append_owns rfl _ _ 43 rfl 4 i0 (.bool false) 1 Try.underlying43 HI.out HZ0.out HZ1.out HZ2.out rfl _ (bools out) rfl (HR0.out.2.1.alloc _) (some ⟨w.heap.size, 0, none⟩) 1 1 [.bool true] rfl rfl (fun h => (by cases h)) (one_news (w.drewN nq) _ _) (one_bools [true]) (by unfold maxLen; rw [len_bools]; omega) (by rw [len_bools]; omega) ?_; intro v' w1 hown hk hnew hnil; rw [app_bools] at hown; obtain ⟨gg, cap', hv⟩ := hown.pos (by simp); rw [len_bools, List.length_append, List.length_singleton] at hv; subst hv; obtain ⟨hr1, hc1, hf1⟩ := (HR0.out.alloc _).grownOut AT hk hown; have HR1 := Lib.hid hr1; have HK := Lib.hid hk; have HNEW := Lib.hid hnew; clear hown hk hnew hnil hr1)
      go_ret2
      refine ⟨ret_pair (Eq.trans (by go_num) E.out.1.symm) E.out.2.1.symm, Foot g (.slice (some ⟨gg, 0, none⟩) (out.length + 1) cap') (.slice af 0 cf), ?_, ?_, foot_out HS.out HNEW.out (by simp)⟩
      · rw [E.out.2.2]; exact ⟨_, _, HR1.out, OK.out, fun k => Iff.rfl⟩
      · exact ((((Keep.refl S w).drewN nq).alloc _).then HK.out (fun k hk _ => (HS.out k).2 (.inr (.inl hk)))).setCell (p := ⟨g, 1, none⟩) (.inl ((HS.out g).2 (.inl rfl))) _
  · rw [List.concat_eq_append] at *
    have E := Lib.hid (get_last (N := N) (out := out) (fr := fr) (i := i))
    obtain ⟨hok', hoff⟩ := ok_last hok
    have OK := Lib.hid hok'
    have hio : i < out.length := (List.getElem?_eq_some_iff.1 hoff).1
    obtain ⟨gg, rfl⟩ := hag (by omega)
    obtain ⟨gf, rfl⟩ := haf (by simp)
    rw [List.length_append, List.length_singleton] at c2 HR HS
    have hci : w.cell? ⟨gf, fr.length, none⟩ = some (.int .i64 (i : Int)) := by rw [HR.out.2.2.cell fr.length (by simp), get_ints]; simp
    have hcap : fr.length + 1 ≤ cf := HR.out.2.2.capLe.2.1
    have hcm : cf ≤ 9223372036854775807 := by have := HR.out.2.2.capLe.2.2; unfold maxLen at this; omega
    have hfl : fr.length < 4096 := by have := hok.cnt; simp at this; omega
    have hpop : Owns w 3 (.slice (some ⟨gf, 0, none⟩) fr.length cf) (ints fr) := by
      have := HR.out.2.2
      rw [← app_ints] at this
      have := this.pop
      rwa [len_ints] at this
    have HR1 := Lib.hid (HR.out.turnFr AT hpop)
    obtain ⟨_, d1, _, _, _⟩ := HR1.out.cells
    obtain ⟨_, _, _, f1, f2⟩ := HR.out.cells
    have d2 : (w.setCell ⟨g, 2, none⟩ (.slice (some ⟨gf, 0, none⟩) fr.length cf)).cell? ⟨gg, i, none⟩ = some (.bool false) := by
      rw [HR1.out.2.1.cell i (by simpa using hio), get_bools, hoff]; rfl
    have d3 := HR1.out.2.1.free i
    have HR2 := Lib.hid (HR1.out.putOut AT.1 i (.bool true))
    clear hok hok' hoff hpop hafn hag haf H
    go_enter Try.func26, Try.ntmps26
    go_wp2
    go_ret2
    refine ⟨ret_pair (Eq.trans (by go_num) E.out.1.symm) E.out.2.1.symm, S, ?_, ?_, fun k hk => .inl hk⟩
    · rw [E.out.2.2]; exact ⟨.slice (some ⟨gg, 0, none⟩) out.length cg, .slice (some ⟨gf, 0, none⟩) fr.length cf, by have := HR2.out; rwa [set_bools] at this, OK.out, HS.out⟩
    · exact ((Keep.refl S w).setCell (p := ⟨g, 2, none⟩) (.inl ((HS.out g).2 (.inl rfl))) _).setCell (p := ⟨gg, i, none⟩) (.inl ((HS.out gg).2 (.inr (.inl rfl)))) _

theorem has_is (S : Nat → Prop) (g : Nat) (s : St) (i : Int) (b : Bool) (hb : s.has i = b) (w : World) (h : ArenaAt 80 w S g s) :
    Calls Try.prog 49 #[.pointer (some ⟨g, 0, none⟩), .int .i64 i] w fun e w' => e = .returned (.bool b) ∧ w = w' := by
  subst hb; exact has_any S g s i w h

/-- What Free leaves. -/
def Freed (T : TypeId) (S : Nat → Prop) (g : Nat) (s : St) (i : Int) (w : World) (e : Ending) (w' : World) : Prop :=
  e = .returned (.int .i64 (s.freeE i)) ∧ ∃ S', ArenaAt T w' S' g (s.freeS i) ∧ Step S S' w w'

set_option maxHeartbeats 1000000 in
theorem free_any (S : Nat → Prop) (g : Nat) (s : St) (i : Int) (w : World) (h : ArenaAt 80 w S g s) :
    Calls Try.prog 38 #[.pointer (some ⟨g, 0, none⟩), .int .i64 i] w (Freed 80 S g s i w) := by
  obtain ⟨N, out, fr⟩ := s
  have hok := h.ok
  have hob : out.length ≤ 4096 := Nat.le_trans hok.len hok.n
  have hN : N ≤ 4096 := hok.n
  unfold Freed
  have H := Lib.hid h
  obtain ⟨ag, cg, af, cf, hraw, hS, c0, c1, c2, hag, haf, hafn⟩ := h.open
  clear h
  have HR := Lib.hid hraw; have HS := Lib.hid hS; clear hraw hS
  dsimp only at c0 c1 c2 HR HS hag haf hafn
  by_cases hneg : i < 0
  · have E : Hid (St.freeE ⟨N, out, fr⟩ i = 1 ∧ St.freeS ⟨N, out, fr⟩ i = ⟨N, out, fr⟩) := Lib.hid ⟨if_pos (.inl hneg), if_pos (.inl hneg)⟩
    clear hok HR HS hag haf hafn
    go_enter Try.func38, Try.ntmps38
    go_wp2
    go_ret
    refine ⟨ret_i E.out.1.symm, S, ?_, Step.refl _ _⟩
    rw [E.out.2]; exact H.out
  obtain ⟨k, rfl⟩ : ∃ k : Nat, i = k := ⟨i.toNat, by omega⟩
  clear hneg
  by_cases hbig : N ≤ k
  · have E : Hid (St.freeE ⟨N, out, fr⟩ k = 1 ∧ St.freeS ⟨N, out, fr⟩ k = ⟨N, out, fr⟩) := Lib.hid ⟨if_pos (.inr (by simp; omega)), if_pos (.inr (by simp; omega))⟩
    have hb' : (N : Int) ≤ (k : Int) := by omega
    clear hok HR HS hag haf hafn
    go_enter Try.func38, Try.ntmps38
    go_wp2
    go_ret
    refine ⟨ret_i E.out.1.symm, S, ?_, Step.refl _ _⟩
    rw [E.out.2]; exact H.out
  have hb' : ¬ (N : Int) ≤ (k : Int) := by omega
  have hor : ¬ ((k : Int) < 0 ∨ (N : Int) ≤ (k : Int)) := by omega
  by_cases hhas : St.has ⟨N, out, fr⟩ k = true
  · have E : Hid (St.freeE ⟨N, out, fr⟩ k = 0 ∧ St.freeS ⟨N, out, fr⟩ k = ⟨N, out.set k false, fr ++ [k]⟩) := Lib.hid ⟨by unfold St.freeE; rw [if_neg hor, if_pos hhas], by unfold St.freeS; rw [if_neg hor, if_pos hhas]; simp⟩
    have HA := Lib.hid hhas
    obtain ⟨k', e, hlt, hon⟩ := has_parts hhas
    obtain rfl : k = k' := by omega
    dsimp only at hlt hon
    have OK := Lib.hid (ok_free hok hon)
    have hfl : fr.length ≤ 4096 := by have := hok.cnt; simp at this; omega
    obtain ⟨gg, rfl⟩ := hag (by omega)
    have hck : w.cell? ⟨gg, k, none⟩ = some (.bool true) := by rw [HR.out.2.1.cell k (by simpa using hlt), get_bools, hon]; rfl
    have hfk := HR.out.2.1.free k
    have HR1 := Lib.hid (HR.out.putOut AT.1 k (.bool false))
    obtain ⟨_, d1, d2, f1, f2⟩ := HR1.out.cells
    clear hok hon hag haf hafn hor hhas e
    obtain ⟨i0, hi, hz0, hz1, hz2⟩ := info_parts Try.infoInt
    have HI := Lib.hid hi; have HZ0 := Lib.hid hz0; have HZ1 := Lib.hid hz1; have HZ2 := Lib.hid hz2; clear hi hz0 hz1 hz2
    go_enter Try.func38, Try.ntmps38
    go_wp2_with (first
      | (go_at_call 49; (with_reducible refine (has_is _ _ _ _ true HA.out _ H.out).mono ?_); rintro e w' ⟨rfl, rfl⟩)
      | (at_builtin; refine wpList_append_owns rfl _ _ 78 rfl 3 i0 (.int .i64 0) 8 Try.underlying78 HI.out HZ0.out HZ1.out HZ2.out rfl _ (ints fr) rfl (HR1.out.2.2.alloc _) (some ⟨w.heap.size, 0, none⟩) 1 1 [.int .i64 (k : Int)] rfl rfl (fun h => (by cases h)) (by have := one_news (w.setCell ⟨gg, k, none⟩ (.bool false)) (.int .i64 (k : Int)) 3; rwa [World.size_setCell] at this) (one_ints [k]) (by unfold maxLen; rw [len_ints]; omega) (by rw [len_ints]; omega) ?_; intro v' w1 hown hk hnew hnil; rw [app_ints] at hown; obtain ⟨gf, cap', hv⟩ := hown.pos (by simp); rw [len_ints, List.length_append, List.length_singleton] at hv; subst hv; obtain ⟨hr1, hc1, hf1⟩ := (HR1.out.alloc _).grownFr AT hk hown; have HR2 := Lib.hid hr1; have HK := Lib.hid hk; have HNEW := Lib.hid hnew; clear hown hk hnew hnil hr1))
    go_ret
    refine ⟨ret_i E.out.1.symm, Foot g (.slice (some ⟨gg, 0, none⟩) out.length cg) (.slice (some ⟨gf, 0, none⟩) (fr.length + 1) cap'), ?_, ?_, foot_fr HS.out HNEW.out (by simp)⟩
    · rw [E.out.2]; exact ⟨_, _, by have := HR2.out; rwa [set_bools] at this, OK.out, fun k => Iff.rfl⟩
    · exact ((((Keep.refl S w).setCell (p := ⟨gg, k, none⟩) (.inl ((HS.out gg).2 (.inr (.inl rfl)))) _).alloc _).then HK.out (fun k hk _ => (HS.out k).2 (.inr (.inr hk)))).setCell (p := ⟨g, 2, none⟩) (.inl ((HS.out g).2 (.inl rfl))) _
  · rw [Bool.not_eq_true] at hhas
    have E : Hid (St.freeE ⟨N, out, fr⟩ k = 7 ∧ St.freeS ⟨N, out, fr⟩ k = ⟨N, out, fr⟩) := Lib.hid ⟨by unfold St.freeE; rw [if_neg hor, if_neg (by simp [hhas])], by unfold St.freeS; rw [if_neg hor, if_neg (by simp [hhas])]⟩
    have HA := Lib.hid hhas
    clear hok HR HS hag haf hafn hor hhas
    go_enter Try.func38, Try.ntmps38
    go_wp2_with (go_at_call 49; (with_reducible refine (has_is _ _ _ _ false HA.out _ H.out).mono ?_); rintro e w' ⟨rfl, rfl⟩)
    go_ret
    refine ⟨ret_i E.out.1.symm, S, ?_, Step.refl _ _⟩
    rw [E.out.2]; exact H.out
end Go.Proofs.Ytfbbmpmgceghfaa
