/-
  Red-black trees, as plain mathematics, more: black heights, putting in, cutting off, the least one, the next one. No program is spoken of. Conditions: none.
-/
import Derived.Test.YtfbbmpmgceghfaaRbMath
namespace Go.Proofs.Ytfbbmpmgceghfaa
set_option linter.unusedSimpArgs false

def RB : T → Nat → Prop
  | .nil, n => n = 0
  | .nd _ _ c l r, n => (c = true → l.col = false ∧ r.col = false) ∧ ∃ n', n = n' + (if c then 0 else 1) ∧ RB l n' ∧ RB r n'
def Fits : Z → Nat → Bool → Prop
  | .top, _, c => c = false
  | .st _ _ _ cz o z, n, c => (cz = true → c = false ∧ o.col = false) ∧ RB o n ∧ Fits z (n + if cz then 0 else 1) cz
def RBz (z : Z) (t : T) : Prop := ∃ n, RB t n ∧ Fits z n t.col
theorem RB_br {s : Bool} {i : Nat} {k : Key} {c : Bool} {x y : T} {n : Nat} : RB (br s i k c x y) n ↔ (c = true → x.col = false ∧ y.col = false) ∧ ∃ n', n = n' + (if c then 0 else 1) ∧ RB x n' ∧ RB y n' := by
  cases s
  · exact Iff.rfl
  · constructor
    · rintro ⟨h1, n', e, h2, h3⟩; exact ⟨fun h => (h1 h).symm, n', e, h3, h2⟩
    · rintro ⟨h1, n', e, h2, h3⟩; exact ⟨fun h => (h1 h).symm, n', e, h3, h2⟩
theorem Fits.weak : ∀ {z : Z} {n : Nat} {c : Bool}, Fits z n c → Fits z n false
  | .top, _, _, _ => rfl
  | .st _ _ _ _ _ _, _, _, h => ⟨fun e => ⟨rfl, (h.1 e).2⟩, h.2⟩
theorem RBz.down {s : Bool} {i : Nat} {k : Key} {c : Bool} {x y : T} {z : Z} (h : RBz z (br s i k c x y)) : RBz (.st s i k c y z) x := by
  obtain ⟨n, h1, h2⟩ := h
  rw [RB_br] at h1
  obtain ⟨h1, n', rfl, h3, h4⟩ := h1
  rw [col_br] at h2
  exact ⟨n', h3, h1, h4, h2⟩
theorem RBz.upw {s : Bool} {i : Nat} {k : Key} {c : Bool} {x y : T} {z : Z} (h : RBz (.st s i k c y z) x) : RBz z (br s i k c x y) := by
  obtain ⟨n, h1, h2, h3, h4⟩ := h
  exact ⟨_, RB_br.2 ⟨h2, n, rfl, h1, h3⟩, by rw [col_br]; exact h4⟩

/-- The tree with the place z and t there, and it is red-black. -/
structure RepB (m : Nat → Nd) (n tp : Nat) (z : Z) (t : T) (L : List (Nat × Key)) : Prop where
  rep : Rep m n tp z t L
  rb : RBz z t
section
variable {m m' : Nat → Nd} {n tp tp' : Nat} {z : Z} {t : T} {L : List (Nat × Key)}
theorem RepB.down {s : Bool} {i : Nat} {k : Key} {c : Bool} {x y : T} (h : RepB m n tp z (br s i k c x y) L) : RepB m n tp (.st s i k c y z) x L := ⟨h.rep.down, h.rb.down⟩
theorem RepB.upw {s : Bool} {i : Nat} {k : Key} {c : Bool} {x y : T} (h : RepB m n tp (.st s i k c y z) x L) : RepB m n tp z (br s i k c x y) L := ⟨h.rep.upw, h.rb.upw⟩
theorem RepB.top : ∀ {z : Z} {t : T}, RepB m n tp z t L → ∃ t', RepB m n tp .top t' L
  | .top, t, h => ⟨t, h⟩
  | .st _ _ _ _ _ _, _, h => h.upw.top

/-! ### heights -/
theorem RB.height : ∀ {t : T} {n : Nat}, RB t n → t.height ≤ 2 * n + (if t.col then 1 else 0)
  | .nil, n, h => by simp [T.height]
  | .nd i k c l r, n, ⟨h1, n', e, h2, h3⟩ => by
    have a := h2.height
    have b := h3.height
    cases c
    · simp only [T.height, T.col, Bool.false_eq_true, if_false] at e ⊢
      have : (if l.col = true then 1 else 0) ≤ 1 := by split <;> omega
      have : (if r.col = true then 1 else 0) ≤ 1 := by split <;> omega
      omega
    · obtain ⟨c1, c2⟩ := h1 rfl
      rw [c1] at a; rw [c2] at b
      simp only [T.height, T.col, Bool.false_eq_true, if_false, if_true] at e a b ⊢
      omega
theorem RB.size : ∀ {t : T} {n : Nat}, RB t n → 2 ^ n ≤ t.its.length + 1
  | .nil, n, h => by rw [show n = 0 from h]; simp
  | .nd i k c l r, n, ⟨h1, n', e, h2, h3⟩ => by
    have a := h2.size
    have b := h3.size
    simp only [T.its, List.length_append, List.length_cons]
    cases c
    · simp at e; subst e; rw [Nat.pow_succ]; omega
    · simp at e; subst e; omega
theorem T.height_pos {t : T} : 0 < t.height ↔ 0 < t.its.length := by
  cases t with
  | nil => simp [T.height, T.its]
  | nd i k c l r => simp [T.height, T.its]; omega
def bitsN (v : Nat) : Nat := if h : v = 0 then 0 else 1 + bitsN (v / 2)
termination_by v
decreasing_by omega
theorem bitsN_zero : bitsN 0 = 0 := by unfold bitsN; rfl
theorem bitsN_pos {v : Nat} (h : 0 < v) : bitsN v = 1 + bitsN (v / 2) := by rw [bitsN, dif_neg (by omega)]
theorem bitsN_ge : ∀ {n v : Nat}, 2 ^ n ≤ v → n + 1 ≤ bitsN v
  | 0, v, h => by rw [bitsN_pos (by have := h; simp at this; omega)]; omega
  | n + 1, v, h => by
    rw [Nat.pow_succ] at h
    have hp : 0 < 2 ^ n := Nat.pow_pos (by decide)
    rw [bitsN_pos (by omega)]
    have := bitsN_ge (n := n) (v := v / 2) (by omega)
    omega
theorem bitsN_le : ∀ {n v : Nat}, v < 2 ^ n → bitsN v ≤ n
  | 0, v, h => by have : v = 0 := by simpa using h
                  subst this; rw [bitsN_zero]; exact Nat.le_refl _
  | n + 1, v, h => by
    rw [Nat.pow_succ] at h
    by_cases e : v = 0
    · subst e; rw [bitsN_zero]; omega
    · rw [bitsN_pos (by omega)]
      have := bitsN_le (n := n) (v := v / 2) (by omega)
      omega
theorem RepB.height (h : RepB m n tp .top t L) : t.height ≤ 2 * bitsN (L.length + 1) ∧ (0 < t.height ↔ 0 < L.length) := by
  obtain ⟨n', h1, h2⟩ := h.rb
  have e : L = t.its := by rw [← h.rep.its]; simp [Z.zl, Z.zr]
  have c : t.col = false := h2
  subst e
  have a := h1.height
  rw [c] at a
  have b := bitsN_ge h1.size
  simp at a
  exact ⟨by omega, T.height_pos⟩

/-! ### putting in, cutting off -/
theorem hang_val (m : Nat → Nd) (a p : Nat) (s : Bool) (h : a ≠ 0 → p ≠ 0 → a ≠ p) (q : Nat) :
    hangM m a p s q = if a ≠ 0 ∧ q = a then (m q).setUp p else if p ≠ 0 ∧ q = p then (m q).setKid s a else m q := by
  unfold hangM upd
  by_cases e1 : a = 0
  · by_cases e2 : p = 0
    · simp [e1, e2]
    · by_cases e3 : q = p <;> simp [e1, e2, e3]
  · by_cases e2 : p = 0
    · by_cases e3 : q = a <;> simp [e1, e2, e3]
    · have e4 := h e1 e2
      by_cases e3 : q = a
      · simp [e1, e2, e3, e4]
      · by_cases e5 : q = p
        · subst e5; simp [e1, e2, e3]
        · simp [e1, e2, e3, e5]
theorem Rep.hangNew {k : Key} {a n' : Nat} (h : Rep m n tp z .nil L) (ha : a ∉ L.map (·.1)) (ha0 : 0 < a) (han : a < n') (hn : n ≤ n') :
    Rep (hangM (upd m a ⟨k, 0, 0, 0, true⟩) a z.par z.side) n' (hangT tp a z.par) z (.nd a k true .nil .nil) (z.zl ++ (a, k) :: z.zr) := by
  have hz0 := h.par0
  have hperm := h.perm
  simp only [T.its, List.map_nil, List.nil_append] at hperm
  have haz : a ∉ z.ids := fun e => ha (hperm.mem_iff.2 e)
  have hpa : z ≠ .top → z.par ≠ a := fun e e' => haz (e' ▸ Z.par_mem e)
  have hval : ∀ q, hangM (upd m a ⟨k, 0, 0, 0, true⟩) a z.par z.side q = if q = a then ⟨k, z.par, 0, 0, true⟩ else if z.par ≠ 0 ∧ q = z.par then (m q).setKid z.side a else m q := by
    intro q
    have hpa' : z.par ≠ 0 → z.par ≠ a := fun e => hpa (fun e' => e (hz0.2 e'))
    rw [hang_val _ _ _ _ (fun _ e => (hpa' e).symm)]
    by_cases e1 : q = a
    · subst e1; rw [if_pos ⟨by omega, rfl⟩, if_pos rfl, upd_same]; rfl
    · rw [if_neg (fun e => e1 e.2), if_neg e1, upd_ne _ _ e1]
  have hfar : ∀ q, q ≠ a → (z ≠ .top → q ≠ z.par) → hangM (upd m a ⟨k, 0, 0, 0, true⟩) a z.par z.side q = m q := fun q h1 h2 => by
    rw [hval, if_neg h1, if_neg (fun e => h2 (fun e' => e.1 (hz0.2 e')) e.2)]
  have eL : z.zl ++ z.zr = L := by rw [← h.its]; simp [T.its]
  have hnd : ((z.zl ++ z.zr).map (·.1)).Nodup := by rw [eL]; exact h.nodup
  refine ⟨?_, ?_, ?_, by simp [T.its], ?_, ?_⟩
  · rw [hfar 0 (by omega) (fun e e' => e (hz0.1 e'.symm))]; exact h.m0
  · exact ⟨by rw [hval, if_pos rfl]; rfl, trivial, trivial⟩
  · exact h.up.rehang (fun q hq hqp => hfar q (fun e => haz (e ▸ hq)) (fun _ => hqp)) (fun e => by rw [hval, if_neg (hpa e), if_pos ⟨fun e' => e (hz0.1 e'), rfl⟩]; rfl) ⟨fun e => by subst e; rfl, fun e => if_neg (fun e' => e (hz0.1 e'))⟩ h.ndZ
  · rw [List.map_append, List.map_cons]
    refine List.Perm.nodup_iff List.perm_middle |>.2 ?_
    rw [← List.map_append, List.nodup_cons]
    exact ⟨by rw [eL]; exact ha, hnd⟩
  · intro i hi
    rw [List.map_append, List.map_cons, List.mem_append, List.mem_cons] at hi
    have hh : i = a ∨ i ∈ L.map (·.1) := by
      rw [← eL, List.map_append, List.mem_append]
      rcases hi with hi | hi | hi
      · exact .inr (.inl hi)
      · exact .inl hi
      · exact .inr (.inr hi)
    rcases hh with rfl | hh
    · exact ⟨ha0, han⟩
    · have := h.pos i hh; exact ⟨this.1, Nat.lt_of_lt_of_le this.2 hn⟩

theorem Rep.cut {a : Nat} {k : Key} {c s : Bool} {x : T} (h : Rep m n tp z (br s a k c x .nil) L) :
    Rep (hangM m x.root z.par z.side) n (hangT tp x.root z.par) z x (z.zl ++ x.its ++ z.zr) ∧ a ∉ (z.zl ++ x.its ++ z.zr).map (·.1) := by
  have hz0 := h.par0
  have hd := h.down
  have hx0 := hd.root0
  have hX : Sub m a x := hd.sub
  have hxm : x ≠ .nil → x.root ∈ x.its.map (·.1) := T.mem_its
  have hnd := hd.nodup'
  rw [List.nodup_append] at hnd
  obtain ⟨hn1, hn2, hn3⟩ := hnd
  simp only [Z.ids, T.its, List.map_nil, List.append_nil, List.cons_append, List.nil_append, List.nodup_cons, List.mem_cons] at hn2 hn3
  have hne : x ≠ .nil → z ≠ .top → x.root ≠ z.par := fun e e' => hn3 _ (hxm e) _ (.inr (Z.par_mem e'))
  have hval : ∀ q, hangM m x.root z.par z.side q = if x.root ≠ 0 ∧ q = x.root then (m q).setUp z.par else if z.par ≠ 0 ∧ q = z.par then (m q).setKid z.side x.root else m q := by
    intro q
    have hne' : x.root ≠ 0 → z.par ≠ 0 → x.root ≠ z.par := fun e e' => hne (fun e2 => e (hx0.2 e2)) (fun e2 => e' (hz0.2 e2))
    exact hang_val _ _ _ _ hne' q
  have hfar : ∀ q, (x ≠ .nil → q ≠ x.root) → (z ≠ .top → q ≠ z.par) → hangM m x.root z.par z.side q = m q := fun q h1 h2 => by
    rw [hval, if_neg (fun e => h1 (fun e' => e.1 (hx0.2 e')) e.2), if_neg (fun e => h2 (fun e' => e.1 (hz0.2 e')) e.2)]
  have hsl : (z.zl ++ x.its ++ z.zr).Sublist L := by
    rw [← h.its, its_br]
    refine List.Sublist.append (List.Sublist.append (List.Sublist.refl _) ?_) (List.Sublist.refl _)
    cases s <;> simp [T.its]
  refine ⟨⟨?_, ?_, ?_, rfl, h.nodup.sublist (hsl.map _), fun i hi => h.pos i ((hsl.map _).subset hi)⟩, ?_⟩
  · rw [hfar 0 (fun e e' => e (hx0.1 e'.symm)) (fun e e' => e (hz0.1 e'.symm))]; exact h.m0
  · exact hX.reparent (fun q hq hqr => hfar q (fun _ => hqr) (fun e => hn3 q hq _ (.inr (Z.par_mem e)))) (fun e => by rw [hval, if_pos ⟨fun e' => e (hx0.1 e'), rfl⟩]) hn1
  · have hU := h.up
    exact hU.rehang (fun q hq hqp => hfar q (fun e e' => hn3 _ (hxm e) q (.inr hq) e'.symm) (fun _ => hqp)) (fun e => by rw [hval, if_neg (fun e' => hne (fun e2 => e'.1 (hx0.2 e2)) e e'.2.symm), if_pos ⟨fun e' => e (hz0.1 e'), rfl⟩]) ⟨fun e => by subst e; rfl, fun e => if_neg (fun e' => e (hz0.1 e'))⟩ h.ndZ
  · intro e
    rw [List.map_append, List.map_append, List.mem_append, List.mem_append] at e
    have : a ∈ x.its.map (·.1) ∨ a ∈ z.ids := by
      rcases e with (e | e) | e
      · exact .inr (z.ids_perm.mem_iff.1 (by rw [List.map_append, List.mem_append]; exact .inl e))
      · exact .inl e
      · exact .inr (z.ids_perm.mem_iff.1 (by rw [List.map_append, List.mem_append]; exact .inr e))
    rcases this with e | e
    · exact hn3 a e a (.inl rfl) rfl
    · exact hn2.1 e

/-- What is not in the tree may turn. -/
theorem Rep.other {a : Nat} {x : Nd} (h : Rep m n tp z t L) (ha : a ∉ L.map (·.1)) (ha0 : a ≠ 0) : Rep (upd m a x) n tp z t L := by
  have hm := fun {i : Nat} => h.perm.mem_iff (a := i)
  refine ⟨by rw [upd_ne _ _ ha0.symm]; exact h.m0, h.sub.frame fun i hi => upd_ne _ _ (fun e => ha (e ▸ hm.2 (by rw [List.mem_append]; exact .inl hi))), h.up.frame fun i hi => upd_ne _ _ (fun e => ha (e ▸ hm.2 (by rw [List.mem_append]; exact .inr hi))), h.its, h.nodup, h.pos⟩

theorem Rep.rekey {a : Nat} {k k' : Key} {c : Bool} {l r : T} (h : Rep m n tp z (.nd a k c l r) L) :
    Rep (upd m a { m a with k := k' }) n tp z (.nd a k' c l r) (z.zl ++ (l.its ++ (a, k') :: r.its) ++ z.zr) := by
  have hnd := h.nodup'
  have hpos := (h.posT (i := a) (by simp [T.its])).1
  have eL := h.its
  have hmap : (z.zl ++ (l.its ++ (a, k') :: r.its) ++ z.zr).map (·.1) = L.map (·.1) := by rw [← eL]; simp [T.its]
  simp only [T.its, List.map_append, List.map_cons, List.append_assoc, List.nodup_append, List.cons_append, List.nodup_cons, List.mem_append, List.mem_cons] at hnd
  obtain ⟨_, ⟨h1, _⟩, h2⟩ := hnd
  refine ⟨by rw [upd_ne _ _ (by omega)]; exact h.m0, ⟨?_, h.sub.2.1.frame fun i hi => upd_ne _ _ (h2 i hi a (.inl rfl)), h.sub.2.2.frame fun i hi => upd_ne _ _ (fun e => h1 (.inl (e ▸ hi)))⟩, h.up.frame fun i hi => upd_ne _ _ (fun e => h1 (.inr (e ▸ hi))), rfl, by rw [hmap]; exact h.nodup, by rw [hmap]; exact h.pos⟩
  rw [upd_same, h.sub.1]

/-! ### the least one, the next one -/
def hd (L : List (Nat × Key)) : Nat := match L with | [] => 0 | x :: _ => x.1
theorem T.lo_nil : ∀ {t : T}, t ≠ .nil → t.its ≠ []
  | .nil, h => absurd rfl h
  | .nd i k c l r, _ => by simp [T.its]
theorem hd_append {A B : List (Nat × Key)} (h : A ≠ []) : hd (A ++ B) = hd A := by cases A with | nil => exact absurd rfl h | cons a A => rfl
/-- The least one's place. -/
theorem RepB.leastAt : ∀ {t : T} {z : Z}, RepB m n tp z t L → t ≠ .nil → ∃ z' h kh ch rr, RepB m n tp z' (.nd h kh ch .nil rr) L ∧ z'.zl = z.zl ∧ (h, kh) :: rr.its ++ z'.zr = t.its ++ z.zr
  | .nil, _, _, h => absurd rfl h
  | .nd i k c .nil r, z, h, _ => ⟨z, i, k, c, r, h, rfl, by simp [T.its]⟩
  | .nd i k c (.nd i' k' c' l' r') r, z, h, _ => by
    obtain ⟨z', h1, kh, ch, rr, h2, h3, h4⟩ := RepB.leastAt (RepB.down (s := false) (x := .nd i' k' c' l' r') (y := r) h) (by simp)
    exact ⟨z', h1, kh, ch, rr, h2, h3, by rw [h4]; simp [T.its, Z.zr]⟩
/-- Each one of the tree has its place. -/
theorem RepB.locate {i : Nat} : ∀ {t : T} {z : Z}, RepB m n tp z t L → i ∈ t.its.map (·.1) → ∃ z' k c l r, RepB m n tp z' (.nd i k c l r) L
  | .nil, _, _, h => by simp [T.its] at h
  | .nd j k c l r, z, h, hi => by
    simp only [T.its, List.map_append, List.map_cons, List.mem_append, List.mem_cons] at hi
    rcases hi with hi | rfl | hi
    · exact (RepB.down (s := false) (x := l) (y := r) h).locate hi
    · exact ⟨z, k, c, l, r, h⟩
    · exact (RepB.down (s := true) (x := r) (y := l) h).locate hi
end
end Go.Proofs.Ytfbbmpmgceghfaa
