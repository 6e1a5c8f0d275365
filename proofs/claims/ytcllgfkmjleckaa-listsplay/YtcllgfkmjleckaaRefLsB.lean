/-
  The document's own lists (canterref04.Lists): Drop, Back; as a thing among others in memory. Conditions: they lie in memory as two slices, each with a row of its own.
-/
import Derived.Test.YtcllgfkmjleckaaRefLsO
namespace Go.Proofs.Ytcllgfkmjleckaa
open Go.RowKit

set_option maxHeartbeats 400000 in
theorem rdrop_any (T : TypeId) (g off : Nat) (cs : Array Value) (v1 v2 : Value) (N O : List Int) (w : World) (h : RLat w T g off cs v1 v2 N O) (hok : LsOk N O) :
    Calls Try.prog 10 #[.pointer (some ⟨g, off, none⟩)] w fun e w' => e = .returned (.bool (headB N O)) ∧ RLto w T g off cs v1 v2 (dropN N) (dropO N O) w' := by
  have H := Lib.hid h; have HOK := Lib.hid hok
  clear h hok
  go_enter Try.func10, Try.ntmps10
  go_wp2_with fail
  refine (rhead_any T g off cs v1 v2 N O w H.out).mono ?_
  rintro e w' ⟨rfl, rfl⟩
  obtain ⟨s, hs⟩ : ∃ s, s = headS N O := ⟨_, rfl⟩
  obtain ⟨b, hb⟩ : ∃ b, b = headB N O := ⟨_, rfl⟩
  generalize headF N O = f
  rw [← hs, ← hb]
  have HS := Lib.hid hs; have HB := Lib.hid hb
  clear hs hb
  cases b with
  | true =>
    have HM : Hid (true = decide (s ∈ N ∨ s ∈ O)) := Lib.hid (by rw [HS.out]; simp [head_mem HB.out.symm])
    go_wp2_with fail
    refine (rremove_any T g off cs v1 v2 N O s true w H.out HOK.out HM.out).mono ?_
    rintro e w2 ⟨rfl, h2⟩
    have X := Lib.hid h2
    clear h2
    go_wp2
    go_ret
    have h2 := X.out
    have e2 := erase_both HOK.out HB.out.symm
    rw [← HS.out] at e2
    rw [e2.1, e2.2] at h2
    exact ⟨ret_b HB.out, h2⟩
  | false =>
    go_wp2
    go_ret
    obtain ⟨rfl, rfl⟩ := none_left HB.out.symm
    exact ⟨rfl, H.out.to (Keep.refl _ _)⟩

set_option maxHeartbeats 1000000 in
theorem rback_any (T : TypeId) (g off : Nat) (cs : Array Value) (v1 v2 : Value) (N O : List Int) (w : World) (h : RLat w T g off cs v1 v2 N O) (hok : LsOk N O) :
    Calls Try.prog 12 #[.pointer (some ⟨g, off, none⟩)] w fun e w' => e = .returned (.bool (headB N O)) ∧ RLto w T g off cs v1 v2 (dropN N) (backO N O) w' := by
  have H := Lib.hid h; have HOK := Lib.hid hok
  clear h hok
  go_enter Try.func12, Try.ntmps12
  go_wp2_with fail
  refine (rhead_any T g off cs v1 v2 N O w H.out).mono ?_
  rintro e w' ⟨rfl, rfl⟩
  obtain ⟨s, hs⟩ : ∃ s, s = headS N O := ⟨_, rfl⟩
  obtain ⟨b, hb⟩ : ∃ b, b = headB N O := ⟨_, rfl⟩
  generalize headF N O = f
  rw [← hs, ← hb]
  have HS := Lib.hid hs; have HB := Lib.hid hb
  clear hs hb
  cases b with
  | true =>
    have HM : Hid (true = decide (s ∈ N ∨ s ∈ O)) := Lib.hid (by rw [HS.out]; simp [head_mem HB.out.symm])
    go_wp2_with fail
    refine (rremove_any T g off cs v1 v2 N O s true w H.out HOK.out HM.out).mono ?_
    rintro e w2 ⟨rfl, h2⟩
    have e2 := erase_both HOK.out HB.out.symm
    rw [← HS.out] at e2
    rw [e2.1, e2.2] at h2
    have hbo : dropO N O ++ [s] = backO N O := by
      have hB := HB.out
      rw [HS.out]
      cases N with
      | nil =>
        cases O with
        | nil => cases hB
        | cons x r => rfl
      | cons x r => rfl
    have hl : (dropO N O).length ≤ 8 := by
      have := HOK.out.drop.len2; exact this
    have HBO := Lib.hid hbo
    obtain ⟨u1, u2, hr, k2, n1, n2⟩ := h2
    obtain ⟨a2, c2, hv2, _⟩ := hr.o2.shape
    rw [len_iv] at hv2
    have HR := Lib.hid hr; have K2 := Lib.hid k2; have N1 := Lib.hid n1; have N2 := Lib.hid n2
    clear hr k2 n1 n2 e2 hbo
    have d2 : w2.cell? ⟨g, off + 1, none⟩ = some (.slice a2 (dropO N O).length c2) := by rw [← hv2]; exact (HR.out.whole.cell (off + 1)).trans HR.out.c2
    have HO2 : Hid (Owns w2 3 (.slice a2 (dropO N O).length c2) (iv (dropO N O))) := Lib.hid (by rw [← hv2]; exact HR.out.o2)
    have HV2 := Lib.hid hv2
    clear hv2
    obtain ⟨i0, hi, hz0, hz1, hz2⟩ := info_parts Try.infoLs
    have HI := Lib.hid hi; have HZ0 := Lib.hid hz0; have HZ1 := Lib.hid hz1; have HZ2 := Lib.hid hz2; clear hi hz0 hz1 hz2
    obtain ⟨D, hD⟩ : ∃ D, D = dropO N O := ⟨_, rfl⟩
    rw [← hD] at hl d2 HO2 HBO HR HV2
    have HD := Lib.hid hD
    clear hD
    go_wp2_with (at_builtin; refine wpList_append_owns rfl _ _ 26 rfl 3 i0 (.int .i64 0) 8 Try.underlying26 HI.out HZ0.out HZ1.out HZ2.out rfl (.slice a2 D.length c2) (iv D) rfl (HO2.out.alloc _) (some ⟨w2.heap.size, 0, none⟩) 1 1 [.int .i64 s] rfl rfl (fun h => (by cases h)) (one_news w2 _ _) (one_iv [s]) (by unfold maxLen; rw [len_iv]; omega) (by rw [len_iv]; omega) ?_; intro x2 w3 ho3 hk3 hn3 _; rw [app_iv] at ho3; obtain ⟨p3, q3, hx3, _⟩ := ho3.shape; rw [len_iv, List.length_append, List.length_singleton] at hx3; subst hx3; have X := Lib.hid (⟨ho3, hk3, hn3⟩ : _ ∧ _ ∧ _); have hnb : ¬ (Value.slice a2 D.length c2).ownBlock = some g := (by rw [← HV2.out]; exact HR.out.n2); have W3 := (HR.out.whole.alloc (.cells #[.int .i64 s] 3)).keep hk3 hnb; have d3 := (W3.cell (off + 1)).trans HR.out.c2; have f3 := W3.free (off + 1); rw [HV2.out] at d3; have HW3 := Lib.hid W3; clear ho3 hk3 hn3 W3 hnb)
    go_ret
    refine ⟨ret_b HB.out, ?_⟩
    obtain ⟨ho3, hk3, hn3⟩ := X.out
    have hr := HR.out
    have hv2 := HV2.out
    subst hv2
    have hk23 : Keep (fun k => k = g ∨ u1.ownBlock = some k ∨ (Value.slice a2 D.length c2).ownBlock = some k) w2 (w3.setCell ⟨g, off + 1, none⟩ (.slice p3 (D.length + 1) q3)) :=
      ((((Keep.refl (fun _ => False) w2).alloc (.cells #[.int .i64 s] 3)).mono (fun _ h => h.elim)).trans (hk3.mono (fun _ h => .inr (.inr h)))).setCell (p := ⟨g, off + 1, none⟩) (.inl (.inl rfl)) _
    refine RLto.trans K2.out N1.out N2.out ⟨u1, .slice p3 (D.length + 1) q3, ?_, hk23, fun k e => .inl e, fun k e => ?_⟩
    · rw [set_same (i := off) hr.c1, ← HBO.out]
      have hne3 := ho3.ne HW3.out hr.ne
      have hne1 : ∀ k, u1.ownBlock = some k → ¬ (Value.slice a2 D.length c2).ownBlock = some k := fun k e => hr.ap k e
      have ho1 : Owns w3 3 u1 (iv (dropN N)) := (hr.o1.alloc _).keep hk3 hne1
      refine ⟨HW3.out.put (off + 1) _, by rw [Array.getElem?_setIfInBounds_ne (by omega)]; exact hr.c1, Array.getElem?_setIfInBounds_self_of_lt hr.lt2, ho1.far (p := ⟨g, off + 1, none⟩) hr.n1 _, ho3.far (p := ⟨g, off + 1, none⟩) hne3 _, fun k e1 e2 => ?_, hr.ne⟩
      rcases hn3 k e2 with h | h
      · exact hne1 k e1 h
      · have := hr.o1.lt e1; simp at h; omega
    · rcases hn3 k e with h | h
      · exact .inl h
      · right; simp at h; omega
  | false =>
    go_wp2
    go_ret
    obtain ⟨rfl, rfl⟩ := none_left HB.out.symm
    exact ⟨rfl, H.out.to (Keep.refl _ _)⟩

/-! ### As a thing -/
def rlT (g : Nat) (v1 v2 : Value) (N O : List Int) : Thing := ⟨fun w => RLat w 28 g 0 #[v1, v2] v1 v2 N O, fun k => k = g ∨ v1.ownBlock = some k ∨ v2.ownBlock = some k,
  fun h hk hs => ⟨h.whole.keep hk (hs g (.inl rfl)), h.c1, h.c2, h.o1.keep hk (fun k e => hs k (.inr (.inl e))), h.o2.keep hk (fun k e => hs k (.inr (.inr e))), h.ap, h.ne⟩,
  fun h e => by
    rcases e with rfl | e | e
    · exact h.whole.lt
    · exact h.o1.lt e
    · exact h.o2.lt e⟩
section
variable {wB w : World} {L : List Thing} {a : Thing} {g : Nat} {N O N' O' : List Int} {s v : Int} {b f : Bool} {v1 v2 : Value}
theorem rlT_new (w : World) : (rlT w.heap.size (.slice none 0 0) (.slice none 0 0) [] []).at_ (w.alloc (.cells #[.slice none 0 0, .slice none 0 0] 28)) :=
  ⟨Whole.new w _ _, rfl, rfl, Owns.nil _ _, Owns.nil _ _, fun k e => (by cases e), by decide⟩
/-- One call of theirs, the second thing of a room. -/
theorem Room.rlto {w' : World} (h : Room wB w (a :: rlT g v1 v2 N O :: L)) (t : RLto w 28 g 0 #[v1, v2] v1 v2 N' O' w') : ∃ u1 u2, Room wB w' (a :: rlT g u1 u2 N' O' :: L) := by
  obtain ⟨u1, u2, hr, hk, n1, n2⟩ := t
  refine ⟨u1, u2, h.step1 (t' := rlT g u1 u2 N' O') hr hk (fun k e => ?_)⟩
  rcases e with rfl | e | e
  · exact .inl (.inl rfl)
  · rcases n1 k e with h | h
    · exact .inl (.inr (.inl h))
    · exact .inr h
  · rcases n2 k e with h | h
    · exact .inl (.inr (.inr h))
    · exact .inr h
theorem Room.rlpush (h : Room wB w (a :: rlT g v1 v2 N O :: L)) (hok : LsOk N O) (f : Bool) (ev : pushV N O s = v) (en : pushN N O s f = N') (eo : pushO N O s f = O') :
    Calls Try.prog 16 #[.pointer (some ⟨g, 0, none⟩), .int .i64 s, .bool f] w fun e w' => e = .returned (.int .i64 v) ∧ ∃ u1 u2, Room wB w' (a :: rlT g u1 u2 N' O' :: L) := by
  subst ev en eo
  exact (rpush_any _ g 0 _ v1 v2 N O s f w h.get1 hok).mono fun _ _ ⟨he, t⟩ => ⟨he, h.rlto t⟩
theorem Room.rlremove (h : Room wB w (a :: rlT g v1 v2 N O :: L)) (hok : LsOk N O) (eb : b = decide (s ∈ N ∨ s ∈ O)) (en : N.erase s = N') (eo : O.erase s = O') :
    Calls Try.prog 14 #[.pointer (some ⟨g, 0, none⟩), .int .i64 s] w fun e w' => e = .returned (.bool b) ∧ ∃ u1 u2, Room wB w' (a :: rlT g u1 u2 N' O' :: L) := by
  subst en eo
  exact (rremove_any _ g 0 _ v1 v2 N O s b w h.get1 hok eb).mono fun _ _ ⟨he, t⟩ => ⟨he, h.rlto t⟩
theorem Room.rldrop (h : Room wB w (a :: rlT g v1 v2 N O :: L)) (hok : LsOk N O) (eb : headB N O = b) (en : dropN N = N') (eo : dropO N O = O') :
    Calls Try.prog 10 #[.pointer (some ⟨g, 0, none⟩)] w fun e w' => e = .returned (.bool b) ∧ ∃ u1 u2, Room wB w' (a :: rlT g u1 u2 N' O' :: L) := by
  subst eb en eo
  exact (rdrop_any _ g 0 _ v1 v2 N O w h.get1 hok).mono fun _ _ ⟨he, t⟩ => ⟨he, h.rlto t⟩
theorem Room.rlback (h : Room wB w (a :: rlT g v1 v2 N O :: L)) (hok : LsOk N O) (eb : headB N O = b) (en : dropN N = N') (eo : backO N O = O') :
    Calls Try.prog 12 #[.pointer (some ⟨g, 0, none⟩)] w fun e w' => e = .returned (.bool b) ∧ ∃ u1 u2, Room wB w' (a :: rlT g u1 u2 N' O' :: L) := by
  subst eb en eo
  exact (rback_any _ g 0 _ v1 v2 N O w h.get1 hok).mono fun _ _ ⟨he, t⟩ => ⟨he, h.rlto t⟩
theorem Room.rlhead (h : Room wB w (a :: rlT g v1 v2 N O :: L)) (es : headS N O = s) (ef : headF N O = f) (eb : headB N O = b) :
    Calls Try.prog 18 #[.pointer (some ⟨g, 0, none⟩)] w fun e w' => e = .returned (.tuple #[.int .i64 s, .bool f, .bool b]) ∧ w = w' := by
  subst es ef eb
  exact rhead_any _ g 0 _ v1 v2 N O w h.get1
theorem Room.rlplace (h : Room wB w (a :: rlT g v1 v2 N O :: L)) (hok : LsOk N O) (ev : placeV N O s = v) :
    Calls Try.prog 21 #[.pointer (some ⟨g, 0, none⟩), .int .i64 s] w fun e w' => e = .returned (.int .i64 v) ∧ w = w' := by
  subst ev
  exact rplace_any _ g 0 _ v1 v2 N O s w h.get1 hok.len1 hok.len2
end
end Go.Proofs.Ytcllgfkmjleckaa
