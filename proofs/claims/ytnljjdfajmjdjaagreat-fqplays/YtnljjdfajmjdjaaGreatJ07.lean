/-
  Package lists: New, Push, Remove, Drop, Back. Conditions: the lists lie in memory as two lines of sockets, each socket once; or are nil.
  A list of numbers as cells. No program is spoken of. Conditions: none.
  canterhelp.In tells whether a number is among some. Conditions: the list lies in memory as slices do.
  A region that draws its order, walked in one order: what yields the same in every world that meets S is taken as soon as it may come up; a call, a store, a new block where nothing else may come up. No program is spoken of. Conditions: those of each theorem.
-/
import Derived.Test.YtnljjdfajmjdjaaGreatJ06
import Derived.Test.YtnljjdfajmjdjaaGreatJ01
import Derived.Test.YtnljjdfajmjdjaaGreatChecked
import Derived.ProofKit
import Derived.OpenShut
import Derived.WalkSpells
import Derived.WalkLawsBesides
import Derived.LoopTactic
import Derived.OwnWalk
import Derived.Deep.QuietTactic
import Derived.BigQuiet
import Derived.Deep.Draws
import Derived.Deep.RegionHeld3
import Derived.KernelRfl
namespace Go.Proofs.YtnljjdfajmjdjaaGreat
open Go.RowKit
set_option maxRecDepth 100000

/-- Lists in memory, of sockets, each once. -/
structure Ls (w : World) (g : Nat) (N O : List Int) : Prop where
  at_ : LsAt w g N O
  ok : LsOk N O
theorem Ls.lt {w : World} {g : Nat} {N O : List Int} (h : Ls w g N O) : g < w.heap.size := h.at_.lt
theorem Ls.keep {S : Nat → Prop} {w w' : World} {g : Nat} {N O : List Int} (h : Ls w g N O) (hk : Keep S w w') (hs : ¬ S g) : Ls w' g N O := ⟨h.at_.keep hk hs, h.ok⟩
theorem Ls.drewN {w : World} {g : Nat} {N O : List Int} (h : Ls w g N O) (n : Nat) : Ls (w.drewN n) g N O := h.keep ((Keep.refl (fun _ => False) w).drewN n) id

theorem LsC.setNew {cs cs' : Array Value} {N O N' : List Int} (h : LsC cs N O) (hl : LineC cs' 0 N') (he : Else 0 cs cs') : LsC cs' N' O := ⟨he.1.trans h.size, hl, h.old.els he (.inr (Nat.le_refl _))⟩
theorem LsC.setOld {cs cs' : Array Value} {N O O' : List Int} (h : LsC cs N O) (hl : LineC cs' 9 O') (he : Else 9 cs cs') : LsC cs' N O' := ⟨he.1.trans h.size, h.new.els he (.inl (Nat.le_refl _)), hl⟩


/-! ### Remove -/
theorem lsremove_nil (s : Int) (w : World) : Calls Tryz.prog 47 #[.pointer none, .int .i64 s] w fun e w' => e = .returned (.bool false) ∧ w = w' := by
  go_enter Tryz.func47, Tryz.ntmps47
  go_wp2
  go_ret
  exact ⟨rfl, rfl⟩

set_option maxHeartbeats 400000 in
theorem lsremove_any (g : Nat) (N O : List Int) (s : Int) (b : Bool) (w : World) (h : Ls w g N O) (hb : b = decide (s ∈ N ∨ s ∈ O)) :
    Calls Tryz.prog 47 #[.pointer (some ⟨g, 0, none⟩), .int .i64 s] w fun e w' => e = .returned (.bool b) ∧ Ls w' g (N.erase s) (O.erase s) ∧ Keep (fun k => k = g) w w' := by
  obtain ⟨⟨cs, hw, hc⟩, hok⟩ := h
  have HOK := Lib.hid hok; have HC := Lib.hid hc; have HW := Lib.hid hw; have HB := Lib.hid hb
  clear hok hc hw hb
  go_enter Tryz.func47, Tryz.ntmps47
  by_cases hs : s ∈ N
  · have HS := Lib.hid hs
    have hd : decide (s ∈ N) = true := by simpa using hs
    clear hs
    go_wp2_with fail
    refine (lremove_any g 0 cs N s w HW.out HC.out.new HOK.out.len1 true hd.symm).mono ?_
    rintro e w1 ⟨rfl, cs1, h1, l1, e1, k1⟩
    have X := Lib.hid (⟨h1, l1, e1, k1⟩ : _ ∧ _ ∧ _ ∧ _)
    clear h1 l1 e1 k1 hd
    go_wp2
    go_ret
    obtain ⟨h1, l1, e1, k1⟩ := X.out
    have hso : s ∉ O := fun ho => (List.nodup_append.1 HOK.out.once).2.2 s HS.out s ho rfl
    refine ⟨ret_b (by rw [HB.out]; simp [HS.out]), ⟨⟨cs1, h1, ?_⟩, HOK.out.erase s⟩, k1⟩
    rw [List.erase_of_not_mem hso]
    exact HC.out.setNew l1 e1
  · have HS := Lib.hid hs
    have hd : decide (s ∈ N) = false := by simpa using hs
    clear hs
    go_wp2_with fail
    refine (lremove_any g 0 cs N s w HW.out HC.out.new HOK.out.len1 false hd.symm).mono ?_
    rintro e w1 ⟨rfl, cs1, h1, l1, e1, k1⟩
    have C1 := Lib.hid (HC.out.setNew l1 e1); have H1 := Lib.hid h1; have K1 := Lib.hid k1
    clear h1 l1 e1 k1 hd
    go_wp2_with fail
    refine (lremove_any g 9 cs1 O s w1 H1.out C1.out.old HOK.out.len2 _ rfl).mono ?_
    rintro e w2 ⟨rfl, cs2, h2, l2, e2, k2⟩
    have X := Lib.hid (⟨h2, l2, e2, k2⟩ : _ ∧ _ ∧ _ ∧ _)
    clear h2 l2 e2 k2
    obtain ⟨q, hq⟩ : ∃ q, q = decide (s ∈ O) := ⟨_, rfl⟩
    rw [← hq]
    have HQ := Lib.hid hq; clear hq
    go_wp2
    go_ret
    obtain ⟨h2, l2, e2, k2⟩ := X.out
    exact ⟨ret_b (by rw [HB.out, HQ.out]; simp [HS.out]), ⟨⟨cs2, h2, C1.out.setOld l2 e2⟩, HOK.out.erase s⟩, K1.out.trans k2⟩

/-! ### Push -/
theorem lspush_nil (s : Int) (f : Bool) (w : World) : Calls Tryz.prog 62 #[.pointer none, .int .i64 s, .bool f] w fun e w' => e = .returned (.int .i64 2) ∧ w = w' := by
  go_enter Tryz.func62, Tryz.ntmps62
  go_wp2
  go_ret
  exact ⟨rfl, rfl⟩

set_option maxHeartbeats 1000000 in
theorem lspush_any (g : Nat) (N O : List Int) (s : Int) (f : Bool) (w : World) (h : Ls w g N O) :
    Calls Tryz.prog 62 #[.pointer (some ⟨g, 0, none⟩), .int .i64 s, .bool f] w fun e w' => e = .returned (.int .i64 (pushV N O s)) ∧ Ls w' g (pushN N O s f) (pushO N O s f) ∧ Keep (fun k => k = g) w w' := by
  have HOK := Lib.hid h.ok; have H := Lib.hid h
  obtain ⟨v, hv⟩ : ∃ v, v = pushV N O s := ⟨_, rfl⟩
  obtain ⟨N', hN'⟩ : ∃ N', N' = pushN N O s f := ⟨_, rfl⟩
  obtain ⟨O', hO'⟩ : ∃ O', O' = pushO N O s f := ⟨_, rfl⟩
  rw [← hv, ← hN', ← hO']
  have HV := Lib.hid hv; have HN := Lib.hid hN'; have HO := Lib.hid hO'
  clear hv hN' hO'
  have HKEEP : Hid (v ≠ 0 → ∀ {w1 : World}, Keep (fun _ => False) w w1 → Ls w1 g N' O' ∧ Keep (fun k => k = g) w w1) := Lib.hid fun hne w1 hk => by
    have h0 : ¬ pushV N O s = 0 := by rw [← HV.out]; exact hne
    refine ⟨?_, hk.mono (fun _ h => h.elim)⟩
    rw [HN.out, HO.out]
    unfold pushN pushO
    simp only [h0, false_and, if_false]
    exact H.out.keep hk id
  clear h
  by_cases h1 : s < 0
  · obtain rfl : v = 8 := by rw [HV.out]; unfold pushV; rw [if_pos (.inl h1)]
    go_enter Tryz.func62, Tryz.ntmps62
    go_wp2
    go_ret
    exact ⟨rfl, HKEEP.out (by decide) (Keep.refl _ _)⟩
  by_cases h2 : 8 ≤ s
  · obtain rfl : v = 8 := by rw [HV.out]; unfold pushV; rw [if_pos (.inr h2)]
    go_enter Tryz.func62, Tryz.ntmps62
    go_wp2
    go_ret
    exact ⟨rfl, HKEEP.out (by decide) (Keep.refl _ _)⟩
  have HP : Hid (v = if placeV N O s = 0 then 0 else 6) := Lib.hid (by
    rw [HV.out]; unfold pushV placeV
    rw [if_neg (by omega)]
    by_cases a : s ∈ N <;> by_cases b : s ∈ O <;> simp [a, b])
  have hs : 0 ≤ s ∧ s < 8 := by omega
  obtain ⟨q, hq⟩ : ∃ q, q = placeV N O s := ⟨_, rfl⟩
  have HQ := Lib.hid hq; clear hq
  have hlt : s < 8 := hs.2
  go_enter Tryz.func62, Tryz.ntmps62
  go_wp2_with fail
  refine (place_any _ N O s w H.out.at_.is HOK.out.len1 HOK.out.len2).mono ?_
  rintro e w1 ⟨rfl, k1⟩
  rw [← HQ.out]
  have K1 := Lib.hid k1; have H1 := Lib.hid (H.out.keep k1 id)
  clear k1
  by_cases hq0 : q = 0
  · subst hq0
    have hn : s ∉ N ++ O := placeV_eq.1 HQ.out.symm
    have hrm := (HOK.out.room hs hn).2
    obtain rfl : v = 0 := by rw [HP.out, ← HQ.out]; rfl
    obtain ⟨⟨cs, hw, hc⟩, _⟩ := H1.out
    have HC := Lib.hid hc; have HW := Lib.hid hw
    have hNe : N' = if f = true then N ++ [s] else N := by rw [HN.out]; unfold pushN; simp [← HV.out]
    have hOe : O' = if f = false then O ++ [s] else O := by rw [HO.out]; unfold pushO; simp [← HV.out]
    have HNN := Lib.hid hn; have HNe := Lib.hid hNe; have HOe := Lib.hid hOe
    clear hc hw hn hNe hOe
    cases f with
    | true =>
      go_wp2_with fail
      refine (lpush_any g 0 cs N s w1 HW.out HC.out.new (by omega)).mono ?_
      rintro e w2 ⟨⟨v2, rfl⟩, cs2, h2, l2, e2, k2⟩
      have X := Lib.hid (⟨h2, l2, e2, k2⟩ : _ ∧ _ ∧ _ ∧ _)
      clear h2 l2 e2 k2
      go_wp2
      go_ret
      obtain ⟨h2, l2, e2, k2⟩ := X.out
      refine ⟨rfl, ?_, (K1.out.mono (fun _ h => h.elim)).trans k2⟩
      rw [HNe.out, HOe.out]
      exact ⟨⟨cs2, h2, HC.out.setNew l2 e2⟩, HOK.out.pushNew hs HNN.out⟩
    | false =>
      go_wp2_with fail
      refine (lpush_any g 9 cs O s w1 HW.out HC.out.old (by omega)).mono ?_
      rintro e w2 ⟨⟨v2, rfl⟩, cs2, h2, l2, e2, k2⟩
      have X := Lib.hid (⟨h2, l2, e2, k2⟩ : _ ∧ _ ∧ _ ∧ _)
      clear h2 l2 e2 k2
      go_wp2
      go_ret
      obtain ⟨h2, l2, e2, k2⟩ := X.out
      refine ⟨rfl, ?_, (K1.out.mono (fun _ h => h.elim)).trans k2⟩
      rw [HNe.out, HOe.out]
      exact ⟨⟨cs2, h2, HC.out.setOld l2 e2⟩, HOK.out.pushOld hs HNN.out⟩
  · have hqb : (q == 0) = false := by simpa using hq0
    obtain rfl : v = 6 := by rw [HP.out, ← HQ.out, if_neg hq0]
    clear hq0
    go_wp2
    go_ret
    exact ⟨rfl, HKEEP.out (by decide) K1.out⟩

/-! ### Drop, Back -/
theorem lsdrop_nil (w : World) : Calls Tryz.prog 28 #[.pointer none] w fun e w' => e = .returned (.bool false) ∧ Keep (fun _ => False) w w' := by
  go_enter Tryz.func28, Tryz.ntmps28
  go_wp2_with fail
  refine (head_any none [] [] w (LsIs.none w) (Nat.zero_le _) (Nat.zero_le _)).mono ?_
  rintro e w1 ⟨rfl, k1⟩
  have K1 := Lib.hid k1; clear k1
  have e1 : headB [] [] = false := rfl
  rw [e1]
  go_wp2
  go_ret
  exact ⟨rfl, K1.out⟩
theorem lsback_nil (w : World) : Calls Tryz.prog 26 #[.pointer none] w fun e w' => e = .returned (.bool false) ∧ Keep (fun _ => False) w w' := by
  go_enter Tryz.func26, Tryz.ntmps26
  go_wp2_with fail
  refine (head_any none [] [] w (LsIs.none w) (Nat.zero_le _) (Nat.zero_le _)).mono ?_
  rintro e w1 ⟨rfl, k1⟩
  have K1 := Lib.hid k1; clear k1
  have e1 : headB [] [] = false := rfl
  rw [e1]
  go_wp2
  go_ret
  exact ⟨rfl, K1.out⟩

theorem head_mem {N O : List Int} (h : headB N O = true) : headS N O ∈ N ∨ headS N O ∈ O := by
  cases N with
  | nil =>
    cases O with
    | nil => cases h
    | cons x r => exact .inr (List.mem_cons_self ..)
  | cons x r => exact .inl (List.mem_cons_self ..)
theorem erase_both {N O : List Int} (hok : LsOk N O) (hb : headB N O = true) : N.erase (headS N O) = dropN N ∧ O.erase (headS N O) = dropO N O := by
  refine ⟨(erase_head hok hb).1, ?_⟩
  cases N with
  | nil => exact (erase_head hok hb).2
  | cons x r =>
    have : x ∉ O := fun ho => (List.nodup_append.1 hok.once).2.2 x (List.mem_cons_self ..) x ho rfl
    exact List.erase_of_not_mem this
theorem none_left {N O : List Int} (h : headB N O = false) : N = [] ∧ O = [] := by
  unfold headB at h
  simpa using h

set_option maxHeartbeats 400000 in
theorem lsdrop_any (g : Nat) (N O : List Int) (w : World) (h : Ls w g N O) :
    Calls Tryz.prog 28 #[.pointer (some ⟨g, 0, none⟩)] w fun e w' => e = .returned (.bool (headB N O)) ∧ Ls w' g (dropN N) (dropO N O) ∧ Keep (fun k => k = g) w w' := by
  have H := Lib.hid h; clear h
  go_enter Tryz.func28, Tryz.ntmps28
  go_wp2_with fail
  refine (head_any _ N O w H.out.at_.is H.out.ok.len1 H.out.ok.len2).mono ?_
  rintro e w1 ⟨rfl, k1⟩
  have K1 := Lib.hid k1; have H1 := Lib.hid (H.out.keep k1 id); clear k1
  obtain ⟨s, hs⟩ : ∃ s, s = headS N O := ⟨_, rfl⟩
  obtain ⟨b, hb⟩ : ∃ b, b = headB N O := ⟨_, rfl⟩
  generalize headF N O = f
  rw [← hs, ← hb]
  have HS := Lib.hid hs; have HB := Lib.hid hb
  clear hs hb
  cases b with
  | true =>
    have HM : Hid (true = decide (s ∈ N ∨ s ∈ O)) := Lib.hid (by rw [HS.out]; simp [head_mem HB.out.symm])
    go_wp2_with fail
    refine (lsremove_any g N O s true w1 H1.out HM.out).mono ?_
    rintro e w2 ⟨rfl, h2, k2⟩
    have X := Lib.hid (⟨h2, k2⟩ : _ ∧ _)
    clear h2 k2
    go_wp2
    go_ret
    obtain ⟨h2, k2⟩ := X.out
    have e2 := erase_both H.out.ok HB.out.symm
    rw [← HS.out] at e2
    rw [e2.1, e2.2] at h2
    exact ⟨ret_b HB.out, h2, (K1.out.mono (fun _ h => h.elim)).trans k2⟩
  | false =>
    go_wp2
    go_ret
    obtain ⟨rfl, rfl⟩ := none_left HB.out.symm
    exact ⟨rfl, H1.out, K1.out.mono (fun _ h => h.elim)⟩

set_option maxHeartbeats 400000 in
theorem lsback_any (g : Nat) (N O : List Int) (w : World) (h : Ls w g N O) :
    Calls Tryz.prog 26 #[.pointer (some ⟨g, 0, none⟩)] w fun e w' => e = .returned (.bool (headB N O)) ∧ Ls w' g (dropN N) (backO N O) ∧ Keep (fun k => k = g) w w' := by
  have H := Lib.hid h; clear h
  go_enter Tryz.func26, Tryz.ntmps26
  go_wp2_with fail
  refine (head_any _ N O w H.out.at_.is H.out.ok.len1 H.out.ok.len2).mono ?_
  rintro e w1 ⟨rfl, k1⟩
  have K1 := Lib.hid k1; have H1 := Lib.hid (H.out.keep k1 id); clear k1
  obtain ⟨s, hs⟩ : ∃ s, s = headS N O := ⟨_, rfl⟩
  obtain ⟨b, hb⟩ : ∃ b, b = headB N O := ⟨_, rfl⟩
  generalize headF N O = f
  rw [← hs, ← hb]
  have HS := Lib.hid hs; have HB := Lib.hid hb
  clear hs hb
  cases b with
  | true =>
    have HM : Hid (true = decide (s ∈ N ∨ s ∈ O)) := Lib.hid (by rw [HS.out]; simp [head_mem HB.out.symm])
    go_wp2_with fail
    refine (lsremove_any g N O s true w1 H1.out HM.out).mono ?_
    rintro e w2 ⟨rfl, h2, k2⟩
    have e2 := erase_both H.out.ok HB.out.symm
    rw [← HS.out] at e2
    rw [e2.1, e2.2] at h2
    obtain ⟨⟨cs, hw, hc⟩, hok⟩ := h2
    have hl : (dropO N O).length < 8 := by
      have hl := H.out.ok.len
      have hB := HB.out
      cases N with
      | nil =>
        cases O with
        | nil => cases hB
        | cons x r => simp [dropO] at hl ⊢; omega
      | cons x r => simp [dropO] at hl ⊢; omega
    have HC := Lib.hid hc; have HW := Lib.hid hw; have K2 := Lib.hid ((K1.out.mono (fun _ h => h.elim)).trans k2)
    clear hc hw k2 hok e2
    go_wp2_with fail
    refine (lpush_any g 9 cs (dropO N O) s w2 HW.out HC.out.old hl).mono ?_
    rintro e w3 ⟨⟨v3, rfl⟩, cs3, h3, l3, e3, k3⟩
    have X := Lib.hid (⟨h3, l3, e3, k3⟩ : _ ∧ _ ∧ _ ∧ _)
    clear h3 l3 e3 k3
    go_wp2
    go_ret
    obtain ⟨h3, l3, e3, k3⟩ := X.out
    have hbo : dropO N O ++ [s] = backO N O := by
      have hB := HB.out
      rw [HS.out]
      cases N with
      | nil =>
        cases O with
        | nil => cases hB
        | cons x r => rfl
      | cons x r => rfl
    rw [hbo] at l3
    exact ⟨ret_b HB.out, ⟨⟨cs3, h3, HC.out.setOld l3 e3⟩, H.out.ok.back⟩, K2.out.trans k3⟩
  | false =>
    go_wp2
    go_ret
    obtain ⟨rfl, rfl⟩ := none_left HB.out.symm
    exact ⟨rfl, H1.out, K1.out.mono (fun _ h => h.elim)⟩
end Go.Proofs.YtnljjdfajmjdjaaGreat
namespace Go.Proofs.YtnljjdfajmjdjaaGreat
open Go.RowKit
set_option maxRecDepth 100000
def iv (l : List Int) : List Value := l.map fun z => .int .i64 z
@[simp] theorem len_iv (l : List Int) : (iv l).length = l.length := List.length_map _
theorem get_iv (l : List Int) (i : Nat) : (iv l)[i]? = l[i]?.map (fun z => .int .i64 z) := List.getElem?_map
theorem app_iv (l : List Int) (z : Int) : iv l ++ [.int .i64 z] = iv (l ++ [z]) := by simp [iv]
theorem cat_iv (l m : List Int) : iv l ++ iv m = iv (l ++ m) := by simp [iv]
theorem one_iv (l : List Int) : ∀ u ∈ iv l, u.oneCell' = true := fun u hu => by simp only [iv, List.mem_map] at hu; obtain ⟨b, _, rfl⟩ := hu; rfl
theorem Owns.rdi {w : World} {a : Option Addr} {n c : Nat} {l : List Int} (h : Owns w 3 (.slice a n c) (iv l)) : Rd .i64 w a l := by
  intro i hi
  obtain ⟨g, cap, e⟩ := h.pos (by simpa using Nat.lt_of_le_of_lt (Nat.zero_le _) hi)
  cases e
  refine ⟨g, 0, rfl, h.lt rfl, ?_⟩
  rw [Nat.zero_add, h.cell i (by simpa using hi), get_iv]; simp [hi]
theorem Rd.drewN {k : IntKind} {w : World} {a : Option Addr} {zs : List Int} (h : Rd k w a zs) (n : Nat) : Rd k (w.drewN n) a zs := h
theorem Rd.keep {k : IntKind} {w w' : World} {a : Option Addr} {zs : List Int} (h : Rd k w a zs) (hk : Keep (fun _ => False) w w') : Rd k w' a zs := h.below (hk.below (Nat.le_refl _) (fun _ h => h.elim))
end Go.Proofs.YtnljjdfajmjdjaaGreat
namespace Go.Proofs.YtnljjdfajmjdjaaGreat
open Go.RowKit
set_option maxRecDepth 100000

set_option maxHeartbeats 400000 in
theorem in_int (a : Option Addr) (ca : Nat) (zs : List Int) (x : Int) (b : Bool) (w : World) (hlen : zs.length ≤ 100000) (ha : Rd .i64 w a zs) (hb : decide (x ∈ zs) = b) :
    Calls Tryz.prog 104 #[.slice a zs.length ca, .int .i64 x] w fun e w' => e = .returned (.bool b) ∧ w = w' := by
  subst hb
  have HA := Lib.hid ha; clear ha
  go_enter Tryz.func104, Tryz.ntmps104
  go_wp2
  go_loop [5] (fun i => ∃ k : Nat, k ≤ zs.length ∧ i = .int .i64 k ∧ x ∉ zs.take k) (fun i => zs.length - (intOf i).toNat)
  case atStart => exact ⟨0, Nat.zero_le _, rfl, by simp⟩
  case round =>
    obtain ⟨k, hk, rfl, hnot⟩ := hrel
    by_cases hlt : k < zs.length
    · obtain ⟨b1, o1, rfl, _, c1⟩ := HA.out k hlt
      have hi1 : (k : Int) < (zs.length : Int) := by omega
      have hg : zs.getD k 0 = zs[k] := by simp [hlt]
      have hmem : zs.getD k 0 ∈ zs := by rw [hg]; exact List.getElem_mem _
      have htk : zs.take (k + 1) = zs.take k ++ [zs.getD k 0] := by rw [hg, List.take_succ_eq_append_getElem hlt]
      by_cases e : zs.getD k 0 = x
      · have HE : Hid (decide (x ∈ zs) = true) := Lib.hid (by rw [← e]; simpa using hmem)
        have hq : (zs.getD k 0 == x) = true := by simpa using e
        clear HA hmem htk hnot hg e
        generalize zs.getD k 0 = y at *
        go_wp2
        try rw [Exit.noGoto_ret]
        go_ret
        exact ⟨ret_b HE.out.symm, rfl⟩
      · have HN : Hid (x ∉ zs.take (k + 1)) := Lib.hid (by rw [htk]; simp; exact ⟨hnot, fun h => e (by rw [h]; simp)⟩)
        have hq : (zs.getD k 0 == x) = false := by simpa using e
        clear HA hmem htk hnot hg e
        generalize zs.getD k 0 = y at *
        go_wp2
        go_round
        case rel => exact ⟨k + 1, by omega, by go_num, HN.out⟩
        case measure => simp [intOf]; omega
    · have hk' : zs.take k = zs := List.take_of_length_le (by omega)
      have HE : Hid (decide (x ∈ zs) = false) := Lib.hid (by rw [hk'] at hnot; simpa using hnot)
      clear HA hnot hk'
      go_wp2
      go_ret
      exact ⟨ret_b HE.out.symm, rfl⟩
end Go.Proofs.YtnljjdfajmjdjaaGreat
namespace Go.Proofs.YtnljjdfajmjdjaaGreat

def nthOp : List Oper → Nat → Option Oper
  | [], _ => none
  | o :: _, 0 => some o
  | _ :: r, n + 1 => nthOp r n
theorem nthOp_get : ∀ (l : List Oper) (i : Nat), l.toArray[i]? = nthOp l i
  | [], i => by simp [nthOp]
  | o :: r, 0 => by simp [nthOp]
  | o :: r, n + 1 => by have := nthOp_get r n; simp at this; simp [nthOp, this]

/-- Is that order one in which each that is taken first may be, and each other one comes up alone? -/
def schOK (ops : List Oper) : List (Bool × Nat) → Array Bool → Bool
  | [], listed => (Region.ready .any ops.toArray listed).isEmpty
  | (true, i) :: r, listed => (Region.ready .any ops.toArray listed).contains i && Region.free .any ops.toArray listed i && schOK ops r (listed.setIfInBounds i true)
  | (false, i) :: r, listed => (Region.ready .any ops.toArray listed == [i]) && schOK ops r (listed.setIfInBounds i true)

section
variable {P : Program} {ops : List Oper} {Q : Exit → Act → World → Prop} {S : World → Prop}

/-- The walk in that order. -/
def wpSch (P : Program) (ops : List Oper) (Q : Exit → Act → World → Prop) (S : World → Prop) : List (Bool × Nat) → Act → World → Prop
  | [], a, w => Q .normal a w
  | (true, i) :: r, a, w => ∃ o v, nthOp ops i = some o ∧ (∀ c a w, Q (.panic c) (a.put o.dst v) w → Q (.panic c) a w) ∧ YieldsIf P ops.toArray S o v a ∧ wpSch P ops Q S r (a.put o.dst v) w
  | (false, i) :: r, a, w => ∃ o, nthOp ops i = some o ∧ ∀ K' : Act → World → Prop, Shut (∀ a w, S w → (S w → wpSch P ops Q S r a w) → K' a w) →
      if Region.wanted o (yielded ops.toArray a.tmps) = true then Oper.wp P o a w K' Q else K' (a.put o.dst undef) w

theorem wpAnyH_of_sch (hs : Region.noSelect ops.toArray = true) : ∀ (l : List (Bool × Nat)) (fuel : Nat) (listed : Array Bool) (a : Act) (w : World), l.length ≤ fuel → schOK ops l listed = true → S w → wpSch P ops Q S l a w → wpAnyH P .any ops.toArray Q S fuel listed a w
  | [], fuel, listed, a, w, _, hc, _, h => wpAnyH_done (by simpa [schOK] using hc) h fuel
  | (true, i) :: r, 0, listed, a, w, hf, _, _, _ => by simp at hf
  | (false, i) :: r, 0, listed, a, w, hf, _, _, _ => by simp at hf
  | (true, i) :: r, fuel + 1, listed, a, w, hf, hc, hS, h => by
    obtain ⟨o, v, ho, hQ, hy, h⟩ := h
    simp only [schOK, Bool.and_eq_true] at hc
    exact wpAnyH_take (by rw [nthOp_get, ho]) hs hc.1.2 hc.1.1 hQ hy hS (wpAnyH_of_sch hs r fuel _ _ _ (by simp at hf; omega) hc.2 hS h)
  | (false, i) :: r, fuel + 1, listed, a, w, hf, hc, hS, h => by
    obtain ⟨o, ho, h⟩ := h
    simp only [schOK, Bool.and_eq_true, beq_iff_eq] at hc
    refine wpAnyH_ready hc.1 (by simp) (AllReadyH.cons (o := o) (by rw [nthOp_get, ho]) (fun K hK => h K (fun a w hS' hW => ?_)) AllReadyH.nil)
    exact hK.out a w hS' (fun hS' => wpAnyH_of_sch hs r fuel _ _ _ (by simp at hf; omega) hc.2 hS' (hW hS'))

/-- The beginning. -/
theorem wp_region_sch (S : World → Prop) (l : List (Bool × Nat)) {id : Nat} {a : Act} {w : World} (hm : P.follows .mixedOrders = true) (hs : Region.noSelect ops.toArray = true) (hl : Nat.ble l.length ops.toArray.size = true)
    (hc : schOK ops l (Array.replicate ops.toArray.size false) = true) (hS : S w.drew) (h : wpSch P ops Q S l a w.drew) : (Code.region id ops.toArray true).wp P Q a w :=
  wp_region_held_drew hm hS (fun hS => wpAnyH_of_sch hs l _ _ _ _ (Nat.le_of_ble_eq_true hl) hc hS h)

theorem wpSch_nil {a : Act} {w : World} (h : Q .normal a w) : wpSch P ops Q S [] a w := h
/-- One that is wanted, and yields. -/
theorem wpSch_yes {i : Nat} {r : List (Bool × Nat)} {a : Act} {w : World} {o : Oper} {v : Value} (ho : nthOp ops i = some o) (hQ : ∀ c a w, Q (.panic c) (a.put o.dst v) w → Q (.panic c) a w)
    (hw : Region.wanted o (yielded ops.toArray a.tmps) = true) (hy : ∀ w, S w → (execOp a.eval o).run P w = .ok (.value v) w) (h : wpSch P ops Q S r (a.put o.dst v) w) : wpSch P ops Q S ((true, i) :: r) a w :=
  ⟨o, v, ho, hQ, .inl ⟨hw, hy⟩, h⟩
/-- One that is not wanted. -/
theorem wpSch_no {i : Nat} {r : List (Bool × Nat)} {a : Act} {w : World} {o : Oper} (ho : nthOp ops i = some o) (hQ : ∀ c a w, Q (.panic c) (a.put o.dst undef) w → Q (.panic c) a w)
    (hw : Region.wanted o (yielded ops.toArray a.tmps) = false) (h : wpSch P ops Q S r (a.put o.dst undef) w) : wpSch P ops Q S ((true, i) :: r) a w :=
  ⟨o, undef, ho, hQ, .inr ⟨hw, rfl⟩, h⟩
/-- One that is not wanted, a call. -/
theorem wpSch_not {i : Nat} {r : List (Bool × Nat)} {a : Act} {w : World} {o : Oper} (ho : nthOp ops i = some o)
    (hw : Region.wanted o (yielded ops.toArray a.tmps) = false) (hS : S w) (h : wpSch P ops Q S r (a.put o.dst undef) w) : wpSch P ops Q S ((false, i) :: r) a w :=
  ⟨o, ho, fun K hK => by rw [if_neg (by rw [hw]; simp)]; exact hK.out _ _ hS (fun _ => h)⟩
/-- A call that is wanted. -/
theorem wpSch_call {i : Nat} {r : List (Bool × Nat)} {a : Act} {w : World} {o : Oper} (ho : nthOp ops i = some o)
    (hw : Region.wanted o (yielded ops.toArray a.tmps) = true) (h : ∀ K' : Act → World → Prop, Shut (∀ a w, S w → (S w → wpSch P ops Q S r a w) → K' a w) → Oper.wp P o a w K' Q) : wpSch P ops Q S ((false, i) :: r) a w :=
  ⟨o, ho, fun K hK => by rw [if_pos hw]; exact h K hK⟩
end

/-! ### where two may come up -/
/-- An order: 'yes': it is taken as soon as it may be; 'one': it comes up alone; 'two': one of two comes up. -/
inductive Sch where
  | nil
  | yes (i : Nat) (r : Sch)
  | one (i : Nat) (r : Sch)
  | two (i : Nat) (r : Sch) (j : Nat) (s : Sch)
def Sch.len : Sch → Nat
  | .nil => 0
  | .yes _ r => r.len + 1
  | .one _ r => r.len + 1
  | .two _ r _ s => max r.len s.len + 1
def schOK2 (ops : List Oper) : Sch → Array Bool → Bool
  | .nil, listed => (Region.ready .any ops.toArray listed).isEmpty
  | .yes i r, listed => (Region.ready .any ops.toArray listed).contains i && Region.free .any ops.toArray listed i && schOK2 ops r (listed.setIfInBounds i true)
  | .one i r, listed => (Region.ready .any ops.toArray listed == [i]) && schOK2 ops r (listed.setIfInBounds i true)
  | .two i r j s, listed => (Region.ready .any ops.toArray listed == [i, j]) && schOK2 ops r (listed.setIfInBounds i true) && schOK2 ops s (listed.setIfInBounds j true)
section
variable {P : Program} {ops : List Oper} {Q : Exit → Act → World → Prop} {S : World → Prop}
def wpOne (P : Program) (ops : List Oper) (Q : Exit → Act → World → Prop) (S : World → Prop) (i : Nat) (R : Act → World → Prop) (a : Act) (w : World) : Prop :=
  ∃ o, nthOp ops i = some o ∧ ∀ K' : Act → World → Prop, Shut (∀ a w, S w → (S w → R a w) → K' a w) →
      if Region.wanted o (yielded ops.toArray a.tmps) = true then Oper.wp P o a w K' Q else K' (a.put o.dst undef) w
def wpSch2 (P : Program) (ops : List Oper) (Q : Exit → Act → World → Prop) (S : World → Prop) : Sch → Act → World → Prop
  | .nil, a, w => Q .normal a w
  | .yes i r, a, w => ∃ o v, nthOp ops i = some o ∧ (∀ c a w, Q (.panic c) (a.put o.dst v) w → Q (.panic c) a w) ∧ YieldsIf P ops.toArray S o v a ∧ wpSch2 P ops Q S r (a.put o.dst v) w
  | .one i r, a, w => wpOne P ops Q S i (wpSch2 P ops Q S r) a w
  | .two i r j s, a, w => wpOne P ops Q S i (wpSch2 P ops Q S r) a w ∧ wpOne P ops Q S j (wpSch2 P ops Q S s) a w
theorem wpAnyH_of_sch2 (hs : Region.noSelect ops.toArray = true) : ∀ (l : Sch) (fuel : Nat) (listed : Array Bool) (a : Act) (w : World), l.len ≤ fuel → schOK2 ops l listed = true → S w → wpSch2 P ops Q S l a w → wpAnyH P .any ops.toArray Q S fuel listed a w
  | .nil, fuel, listed, a, w, _, hc, _, h => wpAnyH_done (by simpa [schOK2] using hc) h fuel
  | .yes _ _, 0, _, _, _, hf, _, _, _ => by simp [Sch.len] at hf
  | .one _ _, 0, _, _, _, hf, _, _, _ => by simp [Sch.len] at hf
  | .two _ _ _ _, 0, _, _, _, hf, _, _, _ => by simp [Sch.len] at hf
  | .yes i r, fuel + 1, listed, a, w, hf, hc, hS, h => by
    obtain ⟨o, v, ho, hQ, hy, h⟩ := h
    simp only [schOK2, Bool.and_eq_true] at hc
    exact wpAnyH_take (by rw [nthOp_get, ho]) hs hc.1.2 hc.1.1 hQ hy hS (wpAnyH_of_sch2 hs r fuel _ _ _ (by simp [Sch.len] at hf; omega) hc.2 hS h)
  | .one i r, fuel + 1, listed, a, w, hf, hc, hS, h => by
    obtain ⟨o, ho, h⟩ := h
    simp only [schOK2, Bool.and_eq_true, beq_iff_eq] at hc
    refine wpAnyH_ready hc.1 (by simp) (AllReadyH.cons (o := o) (by rw [nthOp_get, ho]) (fun K hK => h K (fun a w hS' hW => ?_)) AllReadyH.nil)
    exact hK.out a w hS' (fun hS' => wpAnyH_of_sch2 hs r fuel _ _ _ (by simp [Sch.len] at hf; omega) hc.2 hS' (hW hS'))
  | .two i r j s, fuel + 1, listed, a, w, hf, hc, hS, h => by
    obtain ⟨⟨o, ho, h⟩, ⟨o', ho', h'⟩⟩ := h
    simp only [schOK2, Bool.and_eq_true, beq_iff_eq] at hc
    refine wpAnyH_ready hc.1.1 (by simp) (AllReadyH.cons (o := o) (by rw [nthOp_get, ho]) (fun K hK => h K (fun a w hS' hW => ?_)) (AllReadyH.cons (o := o') (by rw [nthOp_get, ho']) (fun K hK => h' K (fun a w hS' hW => ?_)) AllReadyH.nil))
    · exact hK.out a w hS' (fun hS' => wpAnyH_of_sch2 hs r fuel _ _ _ (by simp [Sch.len] at hf; omega) hc.1.2 hS' (hW hS'))
    · exact hK.out a w hS' (fun hS' => wpAnyH_of_sch2 hs s fuel _ _ _ (by simp [Sch.len] at hf; omega) hc.2 hS' (hW hS'))
theorem wp_region_sch2 (S : World → Prop) (l : Sch) {id : Nat} {a : Act} {w : World} (hm : P.follows .mixedOrders = true) (hs : Region.noSelect ops.toArray = true) (hl : Nat.ble l.len ops.toArray.size = true)
    (hc : schOK2 ops l (Array.replicate ops.toArray.size false) = true) (hS : S w.drew) (h : wpSch2 P ops Q S l a w.drew) : (Code.region id ops.toArray true).wp P Q a w :=
  wp_region_held_drew hm hS (fun hS => wpAnyH_of_sch2 hs l _ _ _ _ (Nat.le_of_ble_eq_true hl) hc hS h)
theorem wpSch2_nil {a : Act} {w : World} (h : Q .normal a w) : wpSch2 P ops Q S .nil a w := h
theorem wpSch2_yes {i : Nat} {r : Sch} {a : Act} {w : World} {o : Oper} {v : Value} (ho : nthOp ops i = some o) (hQ : ∀ c a w, Q (.panic c) (a.put o.dst v) w → Q (.panic c) a w)
    (hw : Region.wanted o (yielded ops.toArray a.tmps) = true) (hy : ∀ w, S w → (execOp a.eval o).run P w = .ok (.value v) w) (h : wpSch2 P ops Q S r (a.put o.dst v) w) : wpSch2 P ops Q S (.yes i r) a w :=
  ⟨o, v, ho, hQ, .inl ⟨hw, hy⟩, h⟩
theorem wpOne_call {i : Nat} {R : Act → World → Prop} {a : Act} {w : World} {o : Oper} (ho : nthOp ops i = some o)
    (hw : Region.wanted o (yielded ops.toArray a.tmps) = true) (h : ∀ K' : Act → World → Prop, Shut (∀ a w, S w → (S w → R a w) → K' a w) → Oper.wp P o a w K' Q) : wpOne P ops Q S i R a w :=
  ⟨o, ho, fun K hK => by rw [if_pos hw]; exact h K hK⟩
theorem wpSch2_one {i : Nat} {r : Sch} {a : Act} {w : World} (h : wpOne P ops Q S i (wpSch2 P ops Q S r) a w) : wpSch2 P ops Q S (.one i r) a w := h
theorem wpSch2_two {i j : Nat} {r s : Sch} {a : Act} {w : World} (h : wpOne P ops Q S i (wpSch2 P ops Q S r) a w) (h' : wpOne P ops Q S j (wpSch2 P ops Q S s) a w) : wpSch2 P ops Q S (.two i r j s) a w := ⟨h, h'⟩
end
end Go.Proofs.YtnljjdfajmjdjaaGreat
