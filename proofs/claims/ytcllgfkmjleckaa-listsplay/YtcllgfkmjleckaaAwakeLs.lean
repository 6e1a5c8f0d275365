/-
  Lists among other things in memory; canterlaw19.awake answers true. Conditions: none.
-/
import Derived.Test.YtcllgfkmjleckaaLstOps
import Derived.Test.YtcllgfkmjleckaaLstTold
import Derived.Test.YtcllgfkmjleckaaPlainI
namespace Go.Proofs.Ytcllgfkmjleckaa
open Go.RowKit

/-! ### Lists, and what told hands back, as things -/
def lsT (g : Nat) (N O : List Int) : Thing := ⟨fun w => Ls w g N O, fun k => k = g, fun h hk hs => h.keep hk (hs g rfl), fun h e => e ▸ h.lt⟩
def rowI (v : Value) (l : List Int) : Thing := rowT v 3 1 l.length (iv l)
def rowB (v : Value) (l : List Bool) : Thing := rowT v 4 1 l.length (bv l)
theorem rowI_owns {v : Value} {l : List Int} {w : World} (h : (rowI v l).at_ w) : Owns w 3 v (iv l) := by
  have : w.ownsRow 0 3 1 v l.length (iv l) := h
  unfold Owns; rwa [len_iv]
theorem owns_rowI {v : Value} {l : List Int} {w : World} (h : Owns w 3 v (iv l)) : (rowI v l).at_ w := by
  unfold Owns at h; rw [len_iv] at h; exact h
theorem rowB_owns {v : Value} {l : List Bool} {w : World} (h : (rowB v l).at_ w) : Owns w 4 v (bv l) := by
  have : w.ownsRow 0 4 1 v l.length (bv l) := h
  unfold Owns; rwa [len_bv]
theorem owns_rowB {v : Value} {l : List Bool} {w : World} (h : Owns w 4 v (bv l)) : (rowB v l).at_ w := by
  unfold Owns at h; rw [len_bv] at h; exact h
theorem Owns.rdi {w : World} {a : Option Addr} {n c : Nat} {l : List Int} (h : Owns w 3 (.slice a n c) (iv l)) : Rd .i64 w a l := by
  intro i hi
  obtain ⟨g, cap, e⟩ := h.pos (by simpa using Nat.lt_of_le_of_lt (Nat.zero_le _) hi)
  cases e
  refine ⟨g, 0, rfl, h.lt rfl, ?_⟩
  rw [Nat.zero_add, h.cell i (by simpa using hi), get_iv]; simp [hi]

section
variable {wB w : World} {L : List Thing} {g : Nat} {N O N' O' : List Int} {s v : Int} {b f : Bool}
theorem Room.lsnew (h : Room wB w L) : Calls Try.prog 7 #[] w fun e w' => e = .returned (.pointer (some ⟨w.heap.size, 0, none⟩)) ∧ Room wB w' (lsT w.heap.size [] [] :: L) :=
  (lsnew_any w).mono fun _ _ ⟨he, h1, hk⟩ => ⟨he, h.add (t := lsT w.heap.size [] []) h1 hk (fun k e => by subst e; exact Nat.le_refl _)⟩
theorem Room.lspush (h : Room wB w (lsT g N O :: L)) (f : Bool) (ev : pushV N O s = v) (en : pushN N O s f = N') (eo : pushO N O s f = O') :
    Calls Try.prog 15 #[.pointer (some ⟨g, 0, none⟩), .int .i64 s, .bool f] w fun e w' => e = .returned (.int .i64 v) ∧ Room wB w' (lsT g N' O' :: L) := by
  subst ev en eo
  exact (lspush_any g N O s f w h.get0).mono fun _ _ ⟨he, h1, hk⟩ => ⟨he, h.step0 (t' := lsT g (pushN N O s f) (pushO N O s f)) h1 hk own_same⟩
theorem Room.lsremove (h : Room wB w (lsT g N O :: L)) (eb : b = decide (s ∈ N ∨ s ∈ O)) (en : N.erase s = N') (eo : O.erase s = O') :
    Calls Try.prog 13 #[.pointer (some ⟨g, 0, none⟩), .int .i64 s] w fun e w' => e = .returned (.bool b) ∧ Room wB w' (lsT g N' O' :: L) := by
  subst en eo
  exact (lsremove_any g N O s b w h.get0 eb).mono fun _ _ ⟨he, h1, hk⟩ => ⟨he, h.step0 (t' := lsT g (N.erase s) (O.erase s)) h1 hk own_same⟩
theorem Room.lsdrop (h : Room wB w (lsT g N O :: L)) (eb : headB N O = b) (en : dropN N = N') (eo : dropO N O = O') :
    Calls Try.prog 9 #[.pointer (some ⟨g, 0, none⟩)] w fun e w' => e = .returned (.bool b) ∧ Room wB w' (lsT g N' O' :: L) := by
  subst eb en eo
  exact (lsdrop_any g N O w h.get0).mono fun _ _ ⟨he, h1, hk⟩ => ⟨he, h.step0 (t' := lsT g (dropN N) (dropO N O)) h1 hk own_same⟩
theorem Room.lsback (h : Room wB w (lsT g N O :: L)) (eb : headB N O = b) (en : dropN N = N') (eo : backO N O = O') :
    Calls Try.prog 11 #[.pointer (some ⟨g, 0, none⟩)] w fun e w' => e = .returned (.bool b) ∧ Room wB w' (lsT g N' O' :: L) := by
  subst eb en eo
  exact (lsback_any g N O w h.get0).mono fun _ _ ⟨he, h1, hk⟩ => ⟨he, h.step0 (t' := lsT g (dropN N) (backO N O)) h1 hk own_same⟩
theorem Room.lshead (h : Room wB w (lsT g N O :: L)) (es : headS N O = s) (ef : headF N O = f) (eb : headB N O = b) :
    Calls Try.prog 17 #[.pointer (some ⟨g, 0, none⟩)] w fun e w' => e = .returned (.tuple #[.int .i64 s, .bool f, .bool b]) ∧ Room wB w' (lsT g N O :: L) := by
  subst es ef eb
  have h0 : Ls w g N O := h.get0
  exact (head_any _ N O w h0.at_.is h0.ok.len1 h0.ok.len2).mono fun _ _ ⟨he, hk⟩ => ⟨he, h.kept hk⟩
theorem Room.lsplace (h : Room wB w (lsT g N O :: L)) (ev : placeV N O s = v) :
    Calls Try.prog 20 #[.pointer (some ⟨g, 0, none⟩), .int .i64 s] w fun e w' => e = .returned (.int .i64 v) ∧ Room wB w' (lsT g N O :: L) := by
  subst ev
  have h0 : Ls w g N O := h.get0
  exact (place_any _ N O s w h0.at_.is h0.ok.len1 h0.ok.len2).mono fun _ _ ⟨he, hk⟩ => ⟨he, h.kept hk⟩
theorem Room.lstold (h : Room wB w (lsT g N O :: L)) {m : Int} {T : List (Int × Bool)} (n : Nat) (eT : toldL N O m = T) (en : T.length = n) :
    Calls Try.prog 19 #[.pointer (some ⟨g, 0, none⟩), .int .i64 m] w fun e w' => ∃ a1 c1 a2 c2, e = .returned (.tuple #[.slice a1 n c1, .slice a2 n c2]) ∧
      Room wB w' (lsT g N O :: rowI (.slice a1 n c1) (fstL T) :: rowB (.slice a2 n c2) (sndL T) :: L) := by
  subst en
  have h0 : Ls w g N O := h.get0
  refine (told_any _ N O m T w h0.at_.is h0.ok.len1 h0.ok.len2 eT).mono ?_
  rintro e w' ⟨a1, c1, a2, c2, he, o1, o2, n1, n2, hk⟩
  have h1 := h.kept hk
  have r2 := h.add (t := rowB (.slice a2 T.length c2) (sndL T)) (owns_rowB o2) hk n2
  refine ⟨a1, c1, a2, c2, he, ?_⟩
  have hap : ∀ k, (rowI (.slice a1 T.length c1) (fstL T)).own k → ¬ (rowB (.slice a2 T.length c2) (sndL T)).own k := fun k e1 e2 => o1.apart o2 (by decide) (show (Value.slice a1 T.length c1).ownBlock = some k from e1) e2
  have r3 : Room wB w' (rowI (.slice a1 T.length c1) (fstL T) :: rowB (.slice a2 T.length c2) (sndL T) :: lsT g N O :: L) := by
    refine ⟨fun t ht => ?_, fun t ht k hk' => ?_, List.pairwise_cons.2 ⟨fun t ht k hk1 hk2 => ?_, r2.dis⟩, r2.bel⟩
    · rcases List.mem_cons.1 ht with rfl | ht
      · exact owns_rowI o1
      · exact r2.all t ht
    · rcases List.mem_cons.1 ht with rfl | ht
      · exact Nat.le_trans h.bel.size (n1 k hk')
      · exact r2.lo t ht k hk'
    · rcases List.mem_cons.1 ht with rfl | ht
      · exact hap k hk1 hk2
      · have hlt := t.lt (h.all t ht) hk2
        have := n1 k hk1
        omega
  exact (r3.perm (List.Perm.cons _ (List.Perm.swap _ _ _))).perm (List.Perm.swap _ _ _)
end

/-! ### nil -/
theorem lsnil_head (w : World) : Calls Try.prog 17 #[.pointer none] w fun e w' => e = .returned (.tuple #[.int .i64 0, .bool false, .bool false]) ∧ Keep (fun _ => False) w w' :=
  head_any none [] [] w (LsIs.none w) (Nat.zero_le _) (Nat.zero_le _)
theorem lsnil_place (s : Int) (w : World) : Calls Try.prog 20 #[.pointer none, .int .i64 s] w fun e w' => e = .returned (.int .i64 0) ∧ Keep (fun _ => False) w w' :=
  place_any none [] [] s w (LsIs.none w) (Nat.zero_le _) (Nat.zero_le _)
theorem lsnil_told (m : Int) (w : World) : Calls Try.prog 19 #[.pointer none, .int .i64 m] w fun e w' => ∃ a1 c1 a2 c2, e = .returned (.tuple #[.slice a1 0 c1, .slice a2 0 c2]) ∧ Keep (fun _ => False) w w' :=
  (told_any none [] [] m [] w (LsIs.none w) (Nat.zero_le _) (Nat.zero_le _) (by simp [toldL, tellL])).mono fun _ _ ⟨a1, c1, a2, c2, he, _, _, _, _, hk⟩ => ⟨a1, c1, a2, c2, he, hk⟩

set_option maxHeartbeats 1000000 in
set_option maxRecDepth 100000 in
theorem awakels_any (w : World) : Calls Try.prog 8 #[] w fun e w' => e = .returned (.bool true) ∧ Keep (fun _ => False) w w' := by
  have HR := Lib.hid (Room.begin w)
  go_enter Try.func8, Try.ntmps8
  go_wp2_with fail
  refine HR.out.lsnew.mono ?_
  rintro e w1 ⟨rfl, h1⟩
  have R1 := Lib.hid h1; clear h1
  generalize w.heap.size = g at *
  go_wp2_with fail
  refine (R1.out.lspush (v := 0) (N' := []) (O' := [1]) false (by decide) (by decide) (by decide)).mono ?_
  rintro e w2 ⟨rfl, h2⟩
  have R2 := Lib.hid h2; clear h2 R1
  go_wp2_with fail
  refine (R2.out.lspush (v := 0) (N' := [2]) (O' := [1]) true (by decide) (by decide) (by decide)).mono ?_
  rintro e w3 ⟨rfl, h3⟩
  have R3 := Lib.hid h3; clear h3 R2
  go_wp2_with fail
  refine (R3.out.lshead (s := 2) (f := true) (b := true) rfl rfl rfl).mono ?_
  rintro e w4 ⟨rfl, h4⟩
  have R4 := Lib.hid h4; clear h4 R3
  go_wp2_with fail
  refine (R4.out.lstold (T := [(2, true), (1, false)]) 2 (by decide) rfl).mono ?_
  rintro e w5 ⟨a1, c1, a2, c2, rfl, h5⟩
  have R5 := Lib.hid h5; clear h5 R4
  go_wp2_with fail
  refine (R5.out.lsplace (v := 2) (by decide)).mono ?_
  rintro e w6 ⟨rfl, h6⟩
  have R6 := Lib.hid h6; clear h6 R5
  have HL : Hid (Rd .i64 (w6.alloc (.cells #[.int .i64 2, .int .i64 1] 3)) (some ⟨w6.heap.size, 0, none⟩) [2, 1]) := Lib.hid (Owns.rdi (l := [2, 1]) (Owns.lit w6 3 (iv [2, 1]) (by decide)))
  have RA := Lib.hid (R6.out.box3 3 #[.int .i64 2, .int .i64 1])
  have H1 : Hid (Rd .i64 (w6.alloc (.cells #[.int .i64 2, .int .i64 1] 3)) a1 [2, 1]) := Lib.hid (rowI_owns RA.out.get1).rdi
  clear R6
  go_wp2_with fail
  refine (plain_int a1 (some ⟨w6.heap.size, 0, none⟩) c1 2 [2, 1] _ (by decide) H1.out HL.out).mono ?_
  rintro e w7 ⟨rfl, n7, rfl⟩
  go_wp2
  go_ret
  exact ⟨rfl, Keep.of_below (RA.out.drewN n7).bel⟩
end Go.Proofs.Ytcllgfkmjleckaa
