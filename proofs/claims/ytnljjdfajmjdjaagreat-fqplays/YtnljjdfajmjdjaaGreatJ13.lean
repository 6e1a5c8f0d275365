/-
  Red-black trees, as plain mathematics, more: black heights, putting in, cutting off, the least one, the next one. No program is spoken of. Conditions: none.
  Places that are given out: the plain mathematics, and how they lie in memory. Conditions: none.
-/
import Derived.Test.YtnljjdfajmjdjaaGreatJ12
import Derived.Test.YtnljjdfajmjdjaaGreatJ01
namespace Go.Proofs.YtnljjdfajmjdjaaGreat
set_option linter.unusedSimpArgs false

def RB : T → Nat → Prop
  | .nil, n => n = 0
  | .nd _ _ c l r, n => (c = true → l.col = false ∧ r.col = false) ∧ ∃ n', n = n' + (if c then 0 else 1) ∧ RB l n' ∧ RB r n'
def Fits : Z → Nat → Bool → Prop
  | .top, _, c => c = false
  | .st _ _ _ cz o z, n, c => (cz = true → c = false ∧ o.col = false) ∧ RB o n ∧ Fits z (n + if cz then 0 else 1) cz
def RBz (z : Z) (t : T) : Prop := ∃ n, RB t n ∧ Fits z n t.col
theorem RB_br {s : Bool} {i : Nat} {k : Key} {c : Bool} {x y : T} {n : Nat} : RB (br s i k c x y) n ↔ (c = true → x.col = false ∧ y.col = false) ∧ ∃ n', n = n' + (if c then 0 else 1) ∧ RB x n' ∧ RB y n' := by
  cases s
  · exact Iff.rfl
  · constructor
    · rintro ⟨h1, n', e, h2, h3⟩; exact ⟨fun h => (h1 h).symm, n', e, h3, h2⟩
    · rintro ⟨h1, n', e, h2, h3⟩; exact ⟨fun h => (h1 h).symm, n', e, h3, h2⟩
theorem Fits.weak : ∀ {z : Z} {n : Nat} {c : Bool}, Fits z n c → Fits z n false
  | .top, _, _, _ => rfl
  | .st _ _ _ _ _ _, _, _, h => ⟨fun e => ⟨rfl, (h.1 e).2⟩, h.2⟩
theorem RBz.down {s : Bool} {i : Nat} {k : Key} {c : Bool} {x y : T} {z : Z} (h : RBz z (br s i k c x y)) : RBz (.st s i k c y z) x := by
  obtain ⟨n, h1, h2⟩ := h
  rw [RB_br] at h1
  obtain ⟨h1, n', rfl, h3, h4⟩ := h1
  rw [col_br] at h2
  exact ⟨n', h3, h1, h4, h2⟩
theorem RBz.upw {s : Bool} {i : Nat} {k : Key} {c : Bool} {x y : T} {z : Z} (h : RBz (.st s i k c y z) x) : RBz z (br s i k c x y) := by
  obtain ⟨n, h1, h2, h3, h4⟩ := h
  exact ⟨_, RB_br.2 ⟨h2, n, rfl, h1, h3⟩, by rw [col_br]; exact h4⟩

/-- The tree with the place z and t there, and it is red-black. -/
structure RepB (m : Nat → Nd) (n tp : Nat) (z : Z) (t : T) (L : List (Nat × Key)) : Prop where
  rep : Rep m n tp z t L
  rb : RBz z t
section
variable {m m' : Nat → Nd} {n tp tp' : Nat} {z : Z} {t : T} {L : List (Nat × Key)}
theorem RepB.down {s : Bool} {i : Nat} {k : Key} {c : Bool} {x y : T} (h : RepB m n tp z (br s i k c x y) L) : RepB m n tp (.st s i k c y z) x L := ⟨h.rep.down, h.rb.down⟩
theorem RepB.upw {s : Bool} {i : Nat} {k : Key} {c : Bool} {x y : T} (h : RepB m n tp (.st s i k c y z) x L) : RepB m n tp z (br s i k c x y) L := ⟨h.rep.upw, h.rb.upw⟩
theorem RepB.top : ∀ {z : Z} {t : T}, RepB m n tp z t L → ∃ t', RepB m n tp .top t' L
  | .top, t, h => ⟨t, h⟩
  | .st _ _ _ _ _ _, _, h => h.upw.top

/-! ### heights -/
theorem RB.height : ∀ {t : T} {n : Nat}, RB t n → t.height ≤ 2 * n + (if t.col then 1 else 0)
  | .nil, n, h => by simp [T.height]
  | .nd i k c l r, n, ⟨h1, n', e, h2, h3⟩ => by
    have a := h2.height
    have b := h3.height
    cases c
    · simp only [T.height, T.col, Bool.false_eq_true, if_false] at e ⊢
      have : (if l.col = true then 1 else 0) ≤ 1 := by split <;> omega
      have : (if r.col = true then 1 else 0) ≤ 1 := by split <;> omega
      omega
    · obtain ⟨c1, c2⟩ := h1 rfl
      rw [c1] at a; rw [c2] at b
      simp only [T.height, T.col, Bool.false_eq_true, if_false, if_true] at e a b ⊢
      omega
theorem RB.size : ∀ {t : T} {n : Nat}, RB t n → 2 ^ n ≤ t.its.length + 1
  | .nil, n, h => by rw [show n = 0 from h]; simp
  | .nd i k c l r, n, ⟨h1, n', e, h2, h3⟩ => by
    have a := h2.size
    have b := h3.size
    simp only [T.its, List.length_append, List.length_cons]
    cases c
    · simp at e; subst e; rw [Nat.pow_succ]; omega
    · simp at e; subst e; omega
theorem T.height_pos {t : T} : 0 < t.height ↔ 0 < t.its.length := by
  cases t with
  | nil => simp [T.height, T.its]
  | nd i k c l r => simp [T.height, T.its]; omega
def bitsN (v : Nat) : Nat := if h : v = 0 then 0 else 1 + bitsN (v / 2)
termination_by v
decreasing_by omega
theorem bitsN_zero : bitsN 0 = 0 := by unfold bitsN; rfl
theorem bitsN_pos {v : Nat} (h : 0 < v) : bitsN v = 1 + bitsN (v / 2) := by rw [bitsN, dif_neg (by omega)]
theorem bitsN_ge : ∀ {n v : Nat}, 2 ^ n ≤ v → n + 1 ≤ bitsN v
  | 0, v, h => by rw [bitsN_pos (by have := h; simp at this; omega)]; omega
  | n + 1, v, h => by
    rw [Nat.pow_succ] at h
    have hp : 0 < 2 ^ n := Nat.pow_pos (by decide)
    rw [bitsN_pos (by omega)]
    have := bitsN_ge (n := n) (v := v / 2) (by omega)
    omega
theorem bitsN_le : ∀ {n v : Nat}, v < 2 ^ n → bitsN v ≤ n
  | 0, v, h => by have : v = 0 := by simpa using h
                  subst this; rw [bitsN_zero]; exact Nat.le_refl _
  | n + 1, v, h => by
    rw [Nat.pow_succ] at h
    by_cases e : v = 0
    · subst e; rw [bitsN_zero]; omega
    · rw [bitsN_pos (by omega)]
      have := bitsN_le (n := n) (v := v / 2) (by omega)
      omega
theorem RepB.height (h : RepB m n tp .top t L) : t.height ≤ 2 * bitsN (L.length + 1) ∧ (0 < t.height ↔ 0 < L.length) := by
  obtain ⟨n', h1, h2⟩ := h.rb
  have e : L = t.its := by rw [← h.rep.its]; simp [Z.zl, Z.zr]
  have c : t.col = false := h2
  subst e
  have a := h1.height
  rw [c] at a
  have b := bitsN_ge h1.size
  simp at a
  exact ⟨by omega, T.height_pos⟩

/-! ### putting in, cutting off -/
theorem hang_val (m : Nat → Nd) (a p : Nat) (s : Bool) (h : a ≠ 0 → p ≠ 0 → a ≠ p) (q : Nat) :
    hangM m a p s q = if a ≠ 0 ∧ q = a then (m q).setUp p else if p ≠ 0 ∧ q = p then (m q).setKid s a else m q := by
  unfold hangM upd
  by_cases e1 : a = 0
  · by_cases e2 : p = 0
    · simp [e1, e2]
    · by_cases e3 : q = p <;> simp [e1, e2, e3]
  · by_cases e2 : p = 0
    · by_cases e3 : q = a <;> simp [e1, e2, e3]
    · have e4 := h e1 e2
      by_cases e3 : q = a
      · simp [e1, e2, e3, e4]
      · by_cases e5 : q = p
        · subst e5; simp [e1, e2, e3]
        · simp [e1, e2, e3, e5]
theorem Rep.hangNew {k : Key} {a n' : Nat} (h : Rep m n tp z .nil L) (ha : a ∉ L.map (·.1)) (ha0 : 0 < a) (han : a < n') (hn : n ≤ n') :
    Rep (hangM (upd m a ⟨k, 0, 0, 0, true⟩) a z.par z.side) n' (hangT tp a z.par) z (.nd a k true .nil .nil) (z.zl ++ (a, k) :: z.zr) := by
  have hz0 := h.par0
  have hperm := h.perm
  simp only [T.its, List.map_nil, List.nil_append] at hperm
  have haz : a ∉ z.ids := fun e => ha (hperm.mem_iff.2 e)
  have hpa : z ≠ .top → z.par ≠ a := fun e e' => haz (e' ▸ Z.par_mem e)
  have hval : ∀ q, hangM (upd m a ⟨k, 0, 0, 0, true⟩) a z.par z.side q = if q = a then ⟨k, z.par, 0, 0, true⟩ else if z.par ≠ 0 ∧ q = z.par then (m q).setKid z.side a else m q := by
    intro q
    have hpa' : z.par ≠ 0 → z.par ≠ a := fun e => hpa (fun e' => e (hz0.2 e'))
    rw [hang_val _ _ _ _ (fun _ e => (hpa' e).symm)]
    by_cases e1 : q = a
    · subst e1; rw [if_pos ⟨by omega, rfl⟩, if_pos rfl, upd_same]; rfl
    · rw [if_neg (fun e => e1 e.2), if_neg e1, upd_ne _ _ e1]
  have hfar : ∀ q, q ≠ a → (z ≠ .top → q ≠ z.par) → hangM (upd m a ⟨k, 0, 0, 0, true⟩) a z.par z.side q = m q := fun q h1 h2 => by
    rw [hval, if_neg h1, if_neg (fun e => h2 (fun e' => e.1 (hz0.2 e')) e.2)]
  have eL : z.zl ++ z.zr = L := by rw [← h.its]; simp [T.its]
  have hnd : ((z.zl ++ z.zr).map (·.1)).Nodup := by rw [eL]; exact h.nodup
  refine ⟨?_, ?_, ?_, by simp [T.its], ?_, ?_⟩
  · rw [hfar 0 (by omega) (fun e e' => e (hz0.1 e'.symm))]; exact h.m0
  · exact ⟨by rw [hval, if_pos rfl]; rfl, trivial, trivial⟩
  · exact h.up.rehang (fun q hq hqp => hfar q (fun e => haz (e ▸ hq)) (fun _ => hqp)) (fun e => by rw [hval, if_neg (hpa e), if_pos ⟨fun e' => e (hz0.1 e'), rfl⟩]; rfl) ⟨fun e => by subst e; rfl, fun e => if_neg (fun e' => e (hz0.1 e'))⟩ h.ndZ
  · rw [List.map_append, List.map_cons]
    refine List.Perm.nodup_iff List.perm_middle |>.2 ?_
    rw [← List.map_append, List.nodup_cons]
    exact ⟨by rw [eL]; exact ha, hnd⟩
  · intro i hi
    rw [List.map_append, List.map_cons, List.mem_append, List.mem_cons] at hi
    have hh : i = a ∨ i ∈ L.map (·.1) := by
      rw [← eL, List.map_append, List.mem_append]
      rcases hi with hi | hi | hi
      · exact .inr (.inl hi)
      · exact .inl hi
      · exact .inr (.inr hi)
    rcases hh with rfl | hh
    · exact ⟨ha0, han⟩
    · have := h.pos i hh; exact ⟨this.1, Nat.lt_of_lt_of_le this.2 hn⟩

theorem Rep.cut {a : Nat} {k : Key} {c s : Bool} {x : T} (h : Rep m n tp z (br s a k c x .nil) L) :
    Rep (hangM m x.root z.par z.side) n (hangT tp x.root z.par) z x (z.zl ++ x.its ++ z.zr) ∧ a ∉ (z.zl ++ x.its ++ z.zr).map (·.1) := by
  have hz0 := h.par0
  have hd := h.down
  have hx0 := hd.root0
  have hX : Sub m a x := hd.sub
  have hxm : x ≠ .nil → x.root ∈ x.its.map (·.1) := T.mem_its
  have hnd := hd.nodup'
  rw [List.nodup_append] at hnd
  obtain ⟨hn1, hn2, hn3⟩ := hnd
  simp only [Z.ids, T.its, List.map_nil, List.append_nil, List.cons_append, List.nil_append, List.nodup_cons, List.mem_cons] at hn2 hn3
  have hne : x ≠ .nil → z ≠ .top → x.root ≠ z.par := fun e e' => hn3 _ (hxm e) _ (.inr (Z.par_mem e'))
  have hval : ∀ q, hangM m x.root z.par z.side q = if x.root ≠ 0 ∧ q = x.root then (m q).setUp z.par else if z.par ≠ 0 ∧ q = z.par then (m q).setKid z.side x.root else m q := by
    intro q
    have hne' : x.root ≠ 0 → z.par ≠ 0 → x.root ≠ z.par := fun e e' => hne (fun e2 => e (hx0.2 e2)) (fun e2 => e' (hz0.2 e2))
    exact hang_val _ _ _ _ hne' q
  have hfar : ∀ q, (x ≠ .nil → q ≠ x.root) → (z ≠ .top → q ≠ z.par) → hangM m x.root z.par z.side q = m q := fun q h1 h2 => by
    rw [hval, if_neg (fun e => h1 (fun e' => e.1 (hx0.2 e')) e.2), if_neg (fun e => h2 (fun e' => e.1 (hz0.2 e')) e.2)]
  have hsl : (z.zl ++ x.its ++ z.zr).Sublist L := by
    rw [← h.its, its_br]
    refine List.Sublist.append (List.Sublist.append (List.Sublist.refl _) ?_) (List.Sublist.refl _)
    cases s <;> simp [T.its]
  refine ⟨⟨?_, ?_, ?_, rfl, h.nodup.sublist (hsl.map _), fun i hi => h.pos i ((hsl.map _).subset hi)⟩, ?_⟩
  · rw [hfar 0 (fun e e' => e (hx0.1 e'.symm)) (fun e e' => e (hz0.1 e'.symm))]; exact h.m0
  · exact hX.reparent (fun q hq hqr => hfar q (fun _ => hqr) (fun e => hn3 q hq _ (.inr (Z.par_mem e)))) (fun e => by rw [hval, if_pos ⟨fun e' => e (hx0.1 e'), rfl⟩]) hn1
  · have hU := h.up
    exact hU.rehang (fun q hq hqp => hfar q (fun e e' => hn3 _ (hxm e) q (.inr hq) e'.symm) (fun _ => hqp)) (fun e => by rw [hval, if_neg (fun e' => hne (fun e2 => e'.1 (hx0.2 e2)) e e'.2.symm), if_pos ⟨fun e' => e (hz0.1 e'), rfl⟩]) ⟨fun e => by subst e; rfl, fun e => if_neg (fun e' => e (hz0.1 e'))⟩ h.ndZ
  · intro e
    rw [List.map_append, List.map_append, List.mem_append, List.mem_append] at e
    have : a ∈ x.its.map (·.1) ∨ a ∈ z.ids := by
      rcases e with (e | e) | e
      · exact .inr (z.ids_perm.mem_iff.1 (by rw [List.map_append, List.mem_append]; exact .inl e))
      · exact .inl e
      · exact .inr (z.ids_perm.mem_iff.1 (by rw [List.map_append, List.mem_append]; exact .inr e))
    rcases this with e | e
    · exact hn3 a e a (.inl rfl) rfl
    · exact hn2.1 e

/-- What is not in the tree may turn. -/
theorem Rep.other {a : Nat} {x : Nd} (h : Rep m n tp z t L) (ha : a ∉ L.map (·.1)) (ha0 : a ≠ 0) : Rep (upd m a x) n tp z t L := by
  have hm := fun {i : Nat} => h.perm.mem_iff (a := i)
  refine ⟨by rw [upd_ne _ _ ha0.symm]; exact h.m0, h.sub.frame fun i hi => upd_ne _ _ (fun e => ha (e ▸ hm.2 (by rw [List.mem_append]; exact .inl hi))), h.up.frame fun i hi => upd_ne _ _ (fun e => ha (e ▸ hm.2 (by rw [List.mem_append]; exact .inr hi))), h.its, h.nodup, h.pos⟩

theorem Rep.rekey {a : Nat} {k k' : Key} {c : Bool} {l r : T} (h : Rep m n tp z (.nd a k c l r) L) :
    Rep (upd m a { m a with k := k' }) n tp z (.nd a k' c l r) (z.zl ++ (l.its ++ (a, k') :: r.its) ++ z.zr) := by
  have hnd := h.nodup'
  have hpos := (h.posT (i := a) (by simp [T.its])).1
  have eL := h.its
  have hmap : (z.zl ++ (l.its ++ (a, k') :: r.its) ++ z.zr).map (·.1) = L.map (·.1) := by rw [← eL]; simp [T.its]
  simp only [T.its, List.map_append, List.map_cons, List.append_assoc, List.nodup_append, List.cons_append, List.nodup_cons, List.mem_append, List.mem_cons] at hnd
  obtain ⟨_, ⟨h1, _⟩, h2⟩ := hnd
  refine ⟨by rw [upd_ne _ _ (by omega)]; exact h.m0, ⟨?_, h.sub.2.1.frame fun i hi => upd_ne _ _ (h2 i hi a (.inl rfl)), h.sub.2.2.frame fun i hi => upd_ne _ _ (fun e => h1 (.inl (e ▸ hi)))⟩, h.up.frame fun i hi => upd_ne _ _ (fun e => h1 (.inr (e ▸ hi))), rfl, by rw [hmap]; exact h.nodup, by rw [hmap]; exact h.pos⟩
  rw [upd_same, h.sub.1]

/-! ### the least one, the next one -/
def hd (L : List (Nat × Key)) : Nat := match L with | [] => 0 | x :: _ => x.1
theorem T.lo_nil : ∀ {t : T}, t ≠ .nil → t.its ≠ []
  | .nil, h => absurd rfl h
  | .nd i k c l r, _ => by simp [T.its]
theorem hd_append {A B : List (Nat × Key)} (h : A ≠ []) : hd (A ++ B) = hd A := by cases A with | nil => exact absurd rfl h | cons a A => rfl
/-- The least one's place. -/
theorem RepB.leastAt : ∀ {t : T} {z : Z}, RepB m n tp z t L → t ≠ .nil → ∃ z' h kh ch rr, RepB m n tp z' (.nd h kh ch .nil rr) L ∧ z'.zl = z.zl ∧ (h, kh) :: rr.its ++ z'.zr = t.its ++ z.zr
  | .nil, _, _, h => absurd rfl h
  | .nd i k c .nil r, z, h, _ => ⟨z, i, k, c, r, h, rfl, by simp [T.its]⟩
  | .nd i k c (.nd i' k' c' l' r') r, z, h, _ => by
    obtain ⟨z', h1, kh, ch, rr, h2, h3, h4⟩ := RepB.leastAt (RepB.down (s := false) (x := .nd i' k' c' l' r') (y := r) h) (by simp)
    exact ⟨z', h1, kh, ch, rr, h2, h3, by rw [h4]; simp [T.its, Z.zr]⟩
/-- Each one of the tree has its place. -/
theorem RepB.locate {i : Nat} : ∀ {t : T} {z : Z}, RepB m n tp z t L → i ∈ t.its.map (·.1) → ∃ z' k c l r, RepB m n tp z' (.nd i k c l r) L
  | .nil, _, _, h => by simp [T.its] at h
  | .nd j k c l r, z, h, hi => by
    simp only [T.its, List.map_append, List.map_cons, List.mem_append, List.mem_cons] at hi
    rcases hi with hi | rfl | hi
    · exact (RepB.down (s := false) (x := l) (y := r) h).locate hi
    · exact ⟨z, k, c, l, r, h⟩
    · exact (RepB.down (s := true) (x := r) (y := l) h).locate hi
end
end Go.Proofs.YtnljjdfajmjdjaaGreat
namespace Go.Proofs.YtnljjdfajmjdjaaGreat
open Go.RowKit
set_option maxRecDepth 100000

theorem ret_pair {a b c d : Int} (h : a = c) (h' : b = d) : Ending.returned (.tuple #[.int .i64 a, .int .i64 b]) = .returned (.tuple #[.int .i64 c, .int .i64 d]) := by rw [h, h']

/-- How many places there are; of those ever given out, which are; those freed, in order. -/
structure St where
  N : Nat
  out : List Bool
  fr : List Nat

structure St.ok (s : St) : Prop where
  n : s.N ≤ 4096
  len : s.out.length ≤ s.N
  nodup : s.fr.Nodup
  off : ∀ i ∈ s.fr, s.out[i]? = some false
  cnt : s.out.count true + s.fr.length = s.out.length

def capN (n : Int) : Nat := if n < 0 then 0 else if n ≤ 4096 then n.toNat else 4096
def St.has (s : St) (i : Int) : Bool := decide (0 ≤ i) && (s.out[i.toNat]? == some true)
def St.getV (s : St) : Int := match s.fr.getLast? with | some i => i | none => if s.out.length = s.N then 0 else s.out.length
def St.getE (s : St) : Int := match s.fr.getLast? with | some _ => 0 | none => if s.out.length = s.N then 5 else 0
def St.getS (s : St) : St := match s.fr.getLast? with | some i => ⟨s.N, s.out.set i true, s.fr.dropLast⟩ | none => if s.out.length = s.N then s else ⟨s.N, s.out ++ [true], []⟩
def St.freeE (s : St) (i : Int) : Int := if i < 0 ∨ (s.N : Int) ≤ i then 1 else if s.has i then 0 else 7
def St.freeS (s : St) (i : Int) : St := if i < 0 ∨ (s.N : Int) ≤ i then s else if s.has i then ⟨s.N, s.out.set i.toNat false, s.fr ++ [i.toNat]⟩ else s
def allOf (bs : List Bool) : List Nat := (List.range bs.length).filter fun i => bs[i]?.getD false

theorem capN_ok (n : Int) : St.ok ⟨capN n, [], []⟩ := ⟨by show capN n ≤ 4096; unfold capN; split <;> (try split) <;> omega, Nat.zero_le _, List.nodup_nil, fun i hi => (by cases hi), rfl⟩

theorem get_last {N : Nat} {out : List Bool} {fr : List Nat} {i : Nat} : St.getV ⟨N, out, fr ++ [i]⟩ = i ∧ St.getE ⟨N, out, fr ++ [i]⟩ = 0 ∧ St.getS ⟨N, out, fr ++ [i]⟩ = ⟨N, out.set i true, fr⟩ := by
  simp [St.getV, St.getE, St.getS]
theorem get_full {N : Nat} {out : List Bool} (h : out.length = N) : St.getV ⟨N, out, []⟩ = 0 ∧ St.getE ⟨N, out, []⟩ = 5 ∧ St.getS ⟨N, out, []⟩ = ⟨N, out, []⟩ := by
  simp [St.getV, St.getE, St.getS, h]
theorem get_new {N : Nat} {out : List Bool} (h : out.length ≠ N) : St.getV ⟨N, out, []⟩ = out.length ∧ St.getE ⟨N, out, []⟩ = 0 ∧ St.getS ⟨N, out, []⟩ = ⟨N, out ++ [true], []⟩ := by
  simp [St.getV, St.getE, St.getS, h]

theorem count_set_true {l : List Bool} {i : Nat} (h : l[i]? = some false) : (l.set i true).count true = l.count true + 1 := by
  induction l generalizing i with
  | nil => simp at h
  | cons a l ih =>
    cases i with
    | zero => simp at h; subst h; simp
    | succ i => simp at h; have := ih h; simp only [List.set_cons_succ, List.count_cons, this]; omega
theorem count_set_false {l : List Bool} {i : Nat} (h : l[i]? = some true) : (l.set i false).count true + 1 = l.count true := by
  induction l generalizing i with
  | nil => simp at h
  | cons a l ih =>
    cases i with
    | zero => simp at h; subst h; simp
    | succ i => simp at h; have := ih h; simp only [List.set_cons_succ, List.count_cons]; omega

theorem ok_last {N : Nat} {out : List Bool} {fr : List Nat} {i : Nat} (h : St.ok ⟨N, out, fr ++ [i]⟩) : St.ok ⟨N, out.set i true, fr⟩ ∧ out[i]? = some false := by
  obtain ⟨h1, h2, h3, h4, h5⟩ := h
  have hi : out[i]? = some false := h4 i (by simp)
  rw [List.nodup_append] at h3
  refine ⟨⟨h1, by simpa using h2, h3.1, fun j hj => ?_, ?_⟩, hi⟩
  · have hne : i ≠ j := fun e => h3.2.2 j hj i (by simp) e.symm
    show (out.set i true)[j]? = _
    rw [List.getElem?_set_ne hne]; exact h4 j (by simp [hj])
  · show (out.set i true).count true + fr.length = (out.set i true).length
    rw [count_set_true hi]; simp at h5 ⊢; omega
theorem ok_new {N : Nat} {out : List Bool} (h : St.ok ⟨N, out, []⟩) (hn : out.length ≠ N) : St.ok ⟨N, out ++ [true], []⟩ := by
  obtain ⟨h1, h2, h3, h4, h5⟩ := h
  refine ⟨h1, ?_, h3, fun j hj => (by cases hj), ?_⟩
  · simp at h2 ⊢; omega
  · simp at h5 ⊢; omega
theorem has_parts {s : St} {i : Int} (h : s.has i = true) : ∃ k : Nat, i = k ∧ k < s.out.length ∧ s.out[k]? = some true := by
  unfold St.has at h
  simp at h
  refine ⟨i.toNat, by omega, ?_, h.2⟩
  exact (List.getElem?_eq_some_iff.1 h.2).1
theorem ok_free {N : Nat} {out : List Bool} {fr : List Nat} {k : Nat} (h : St.ok ⟨N, out, fr⟩) (hk : out[k]? = some true) : St.ok ⟨N, out.set k false, fr ++ [k]⟩ := by
  obtain ⟨h1, h2, h3, h4, h5⟩ := h
  have hlt : k < out.length := (List.getElem?_eq_some_iff.1 hk).1
  have hnot : k ∉ fr := fun hm => by have := h4 k hm; rw [hk] at this; cases this
  refine ⟨h1, by simpa using h2, ?_, fun j hj => ?_, ?_⟩
  · rw [List.nodup_append]; exact ⟨h3, by simp, fun a ha b hb => by simp at hb; subst hb; exact fun e => hnot (e ▸ ha)⟩
  · show (out.set k false)[j]? = _
    by_cases e : k = j
    · subst e; simp [hlt]
    · rw [List.getElem?_set_ne e]
      simp at hj
      rcases hj with hj | hj
      · exact h4 j hj
      · exact absurd hj.symm e
  · have := count_set_false hk
    show (out.set k false).count true + (fr ++ [k]).length = (out.set k false).length
    simp at h5 ⊢; omega
theorem St.getS_ok {s : St} (h : s.ok) : s.getS.ok := by
  obtain ⟨N, out, fr⟩ := s
  rcases List.eq_nil_or_concat fr with rfl | ⟨fr', i, rfl⟩
  · by_cases e : out.length = N
    · rw [(get_full e).2.2]; exact h
    · rw [(get_new e).2.2]; exact ok_new h e
  · rw [List.concat_eq_append] at h ⊢
    rw [get_last.2.2]; exact (ok_last h).1

/-- The struct at g, of type T, with its two slices. -/
def Raw (T : TypeId) (w : World) (g N : Nat) (vg vf : Value) (xs ys : List Value) : Prop := Whole w g T #[.int .i64 N, vg, vf] ∧ Owns w 4 vg xs ∧ Owns w 3 vf ys
def Foot (g : Nat) (vg vf : Value) (k : Nat) : Prop := k = g ∨ vg.ownBlock = some k ∨ vf.ownBlock = some k
def bools (l : List Bool) : List Value := l.map .bool
def ints (l : List Nat) : List Value := l.map fun (i : Nat) => .int .i64 (i : Int)
@[simp] theorem len_bools (l : List Bool) : (bools l).length = l.length := List.length_map _
@[simp] theorem len_ints (l : List Nat) : (ints l).length = l.length := List.length_map _
theorem get_bools (l : List Bool) (i : Nat) : (bools l)[i]? = l[i]?.map .bool := List.getElem?_map
theorem get_ints (l : List Nat) (i : Nat) : (ints l)[i]? = l[i]?.map (fun (i : Nat) => .int .i64 (i : Int)) := List.getElem?_map
theorem set_bools (l : List Bool) (i : Nat) (b : Bool) : (bools l).set i (.bool b) = bools (l.set i b) := List.map_set.symm
theorem app_bools (l : List Bool) (b : Bool) : bools l ++ [.bool b] = bools (l ++ [b]) := by simp [bools]
theorem app_ints (l : List Nat) (i : Nat) : ints l ++ [.int .i64 (i : Int)] = ints (l ++ [i]) := by simp [ints]
theorem one_bools (l : List Bool) : ∀ u ∈ bools l, u.oneCell' = true := fun u hu => by simp only [bools, List.mem_map] at hu; obtain ⟨b, _, rfl⟩ := hu; rfl
theorem one_ints (l : List Nat) : ∀ u ∈ ints l, u.oneCell' = true := fun u hu => by simp only [ints, List.mem_map] at hu; obtain ⟨b, _, rfl⟩ := hu; rfl
/-- .. as the arena s; S: the blocks that are its own. -/
def ArenaAt (T : TypeId) (w : World) (S : Nat → Prop) (g : Nat) (s : St) : Prop := ∃ vg vf, Raw T w g s.N vg vf (bools s.out) (ints s.fr) ∧ s.ok ∧ ∀ k, S k ↔ Foot g vg vf k

/-- A step on what is S, which is S' behind it: nothing else has turned; what is S' and was not S is new. -/
def Step (S S' : Nat → Prop) (w w' : World) : Prop := Keep S w w' ∧ ∀ k, S' k → S k ∨ w.heap.size ≤ k

section
variable {T : TypeId} {w w' w'' : World} {S S' S'' R R' : Nat → Prop} {g : Nat} {s : St}
theorem ArenaAt.lt (h : ArenaAt T w S g s) {k : Nat} (hk : S k) : k < w.heap.size := by
  obtain ⟨vg, vf, ⟨h1, h2, h3⟩, _, hS⟩ := h
  rcases (hS k).1 hk with rfl | e | e
  · exact h1.lt
  · exact h2.lt e
  · exact h3.lt e
theorem ArenaAt.ok (h : ArenaAt T w S g s) : s.ok := by obtain ⟨_, _, _, h, _⟩ := h; exact h
theorem ArenaAt.keep (h : ArenaAt T w S g s) (hk : Keep R w w') (ha : ∀ k, S k → ¬ R k) : ArenaAt T w' S g s := by
  obtain ⟨vg, vf, ⟨h1, h2, h3⟩, h4, hS⟩ := h
  exact ⟨vg, vf, ⟨h1.keep hk (ha g ((hS g).2 (.inl rfl))), h2.keep hk (fun k e => ha k ((hS k).2 (.inr (.inl e)))), h3.keep hk (fun k e => ha k ((hS k).2 (.inr (.inr e))))⟩, h4, hS⟩
theorem ArenaAt.open (h : ArenaAt T w S g s) : ∃ ag cg af cf, Raw T w g s.N (.slice ag s.out.length cg) (.slice af s.fr.length cf) (bools s.out) (ints s.fr) ∧ (∀ k, S k ↔ Foot g (.slice ag s.out.length cg) (.slice af s.fr.length cf) k) ∧
    w.cell? ⟨g, 0, none⟩ = some (.int .i64 s.N) ∧ w.cell? ⟨g, 1, none⟩ = some (.slice ag s.out.length cg) ∧ w.cell? ⟨g, 2, none⟩ = some (.slice af s.fr.length cf) ∧ (0 < s.out.length → ∃ gg, ag = some ⟨gg, 0, none⟩) ∧ (0 < s.fr.length → ∃ gf, af = some ⟨gf, 0, none⟩) ∧ (af = none → s.fr.length = 0 ∧ cf = 0) := by
  obtain ⟨vg, vf, ⟨h1, h2, h3⟩, h4, hS⟩ := h
  obtain ⟨ag, cg, rfl, hn, ha⟩ := h2.shape
  obtain ⟨af, cf, rfl, hn', ha'⟩ := h3.shape
  rw [len_bools] at h1 h2 hS
  rw [len_ints] at h1 h3 hS
  refine ⟨ag, cg, af, cf, ⟨h1, h2, h3⟩, hS, h1.cell 0, h1.cell 1, h1.cell 2, fun hp => ?_, fun hp => ?_, fun e => ?_⟩
  · cases ag with
    | none => have := congrArg List.length (hn rfl).2; simp at this; rw [this] at hp; simp at hp
    | some ad => obtain ⟨gg, rfl⟩ := ha ad rfl; exact ⟨gg, rfl⟩
  · cases af with
    | none => have := congrArg List.length (hn' rfl).2; simp at this; rw [this] at hp; simp at hp
    | some ad => obtain ⟨gg, rfl⟩ := ha' ad rfl; exact ⟨gg, rfl⟩
  · have h1 := congrArg List.length (hn' e).2; rw [len_ints] at h1; exact ⟨h1, (hn' e).1⟩
theorem ArenaAt.drew (h : ArenaAt T w S g s) : ArenaAt T w.drew S g s := h
theorem Raw.keep {N : Nat} {vg vf : Value} {xs ys : List Value} (h : Raw T w g N vg vf xs ys) (hk : Keep R w w') (ha : ∀ k, Foot g vg vf k → ¬ R k) : Raw T w' g N vg vf xs ys :=
  ⟨h.1.keep hk (ha g (.inl rfl)), h.2.1.keep hk (fun k e => ha k (.inr (.inl e))), h.2.2.keep hk (fun k e => ha k (.inr (.inr e)))⟩
theorem Raw.alloc {N : Nat} {vg vf : Value} {xs ys : List Value} (h : Raw T w g N vg vf xs ys) (o : Obj) : Raw T (w.alloc o) g N vg vf xs ys := ⟨h.1.alloc o, h.2.1.alloc o, h.2.2.alloc o⟩
theorem Raw.cells {N : Nat} {vg vf : Value} {xs ys : List Value} (h : Raw T w g N vg vf xs ys) : w.cell? ⟨g, 0, none⟩ = some (.int .i64 N) ∧ w.cell? ⟨g, 1, none⟩ = some vg ∧ w.cell? ⟨g, 2, none⟩ = some vf ∧ w.frozen? ⟨g, 1, none⟩ = false ∧ w.frozen? ⟨g, 2, none⟩ = false :=
  ⟨h.1.cell 0, h.1.cell 1, h.1.cell 2, h.1.free 1, h.1.free 2⟩
theorem Raw.putOut {N gg n cg : Nat} {vf : Value} {xs ys : List Value} (h : Raw T w g N (.slice (some ⟨gg, 0, none⟩) n cg) vf xs ys) (hT : T ≠ 4) (k : Nat) (u : Value) :
    Raw T (w.setCell ⟨gg, k, none⟩ u) g N (.slice (some ⟨gg, 0, none⟩) n cg) vf (xs.set k u) ys := by
  obtain ⟨h1, h2, h3⟩ := h
  have n1 := h2.ne h1 hT
  refine ⟨h1.far (fun e => n1 (by simp [Value.ownBlock, e])) u, h2.put k u, h3.far (fun e => ?_) u⟩
  exact (h2.apart h3 (by decide) rfl) e
theorem Raw.turnOut {N : Nat} {vg vf v : Value} {xs ys xs' : List Value} (h : Raw T w g N vg vf xs ys) (hT : T ≠ 4 ∧ T ≠ 3) (hv : Owns w 4 v xs') : Raw T (w.setCell ⟨g, 1, none⟩ v) g N v vf xs' ys := by
  obtain ⟨h1, h2, h3⟩ := h
  exact ⟨h1.put 1 v, hv.far (hv.ne h1 hT.1) _, h3.far (h3.ne h1 hT.2) _⟩
theorem Raw.turnFr {N : Nat} {vg vf v : Value} {xs ys ys' : List Value} (h : Raw T w g N vg vf xs ys) (hT : T ≠ 4 ∧ T ≠ 3) (hv : Owns w 3 v ys') : Raw T (w.setCell ⟨g, 2, none⟩ v) g N vg v xs ys' := by
  obtain ⟨h1, h2, h3⟩ := h
  exact ⟨h1.put 2 v, h2.far (h2.ne h1 hT.1) _, hv.far (hv.ne h1 hT.2) _⟩
theorem Raw.grownOut {w1 : World} {N : Nat} {vg vf v : Value} {xs ys xs' : List Value} (h : Raw T w g N vg vf xs ys) (hT : T ≠ 4 ∧ T ≠ 3) (hk : Keep (fun k => vg.ownBlock = some k) w w1) (hv : Owns w1 4 v xs') :
    Raw T (w1.setCell ⟨g, 1, none⟩ v) g N v vf xs' ys ∧ w1.cell? ⟨g, 1, none⟩ = some vg ∧ w1.frozen? ⟨g, 1, none⟩ = false := by
  obtain ⟨h1, h2, h3⟩ := h
  have e1 := h1.keep hk (h2.ne h1 hT.1)
  have e3 := h3.keep hk (fun k hk' hk2 => h3.apart h2 (by decide) hk' hk2)
  exact ⟨⟨e1.put 1 v, hv.far (hv.ne e1 hT.1) _, e3.far (e3.ne e1 hT.2) _⟩, e1.cell 1, e1.free 1⟩
theorem Raw.grownFr {w1 : World} {N : Nat} {vg vf v : Value} {xs ys ys' : List Value} (h : Raw T w g N vg vf xs ys) (hT : T ≠ 4 ∧ T ≠ 3) (hk : Keep (fun k => vf.ownBlock = some k) w w1) (hv : Owns w1 3 v ys') :
    Raw T (w1.setCell ⟨g, 2, none⟩ v) g N vg v xs ys' ∧ w1.cell? ⟨g, 2, none⟩ = some vf ∧ w1.frozen? ⟨g, 2, none⟩ = false := by
  obtain ⟨h1, h2, h3⟩ := h
  have e1 := h1.keep hk (h3.ne h1 hT.2)
  have e2 := h2.keep hk (fun k hk' hk2 => h2.apart h3 (by decide) hk' hk2)
  exact ⟨⟨e1.put 2 v, e2.far (e2.ne e1 hT.1) _, hv.far (hv.ne e1 hT.2) _⟩, e1.cell 2, e1.free 2⟩
theorem foot_out {vg vf v : Value} {B : Nat} (hS : ∀ k, S k ↔ Foot g vg vf k) (hnew : ∀ k, v.ownBlock = some k → vg.ownBlock = some k ∨ B ≤ k) (hB : w.heap.size ≤ B) : ∀ k, Foot g v vf k → S k ∨ w.heap.size ≤ k := fun k hk => by
  rcases hk with e | e | e
  · exact .inl ((hS k).2 (.inl e))
  · exact (hnew k e).elim (fun e => .inl ((hS k).2 (.inr (.inl e)))) (fun e => .inr (Nat.le_trans hB e))
  · exact .inl ((hS k).2 (.inr (.inr e)))
theorem foot_fr {vg vf v : Value} {B : Nat} (hS : ∀ k, S k ↔ Foot g vg vf k) (hnew : ∀ k, v.ownBlock = some k → vf.ownBlock = some k ∨ B ≤ k) (hB : w.heap.size ≤ B) : ∀ k, Foot g vg v k → S k ∨ w.heap.size ≤ k := fun k hk => by
  rcases hk with e | e | e
  · exact .inl ((hS k).2 (.inl e))
  · exact .inl ((hS k).2 (.inr (.inl e)))
  · exact (hnew k e).elim (fun e => .inl ((hS k).2 (.inr (.inr e)))) (fun e => .inr (Nat.le_trans hB e))
theorem Step.refl (S : Nat → Prop) (w : World) : Step S S w w := ⟨Keep.refl _ _, fun _ h => .inl h⟩
theorem Step.drewN (S : Nat → Prop) (w : World) (n : Nat) : Step S S w (w.drewN n) := ⟨(Keep.refl _ _).drewN n, fun _ h => .inl h⟩
theorem Step.trans (h : Step S S' w w') (h' : Step S' S'' w' w'') : Step S S'' w w'' :=
  ⟨h.1.then h'.1 (fun k hk hlt => (h.2 k hk).elim id (fun e => absurd hlt (by omega))), fun k hk => (h'.2 k hk).elim (h.2 k) (fun e => .inr (Nat.le_trans h.1.size e))⟩
theorem Step.mine {B : Nat} (h : Step S S' w w') (hS : ∀ k, S k → B ≤ k) (hB : B ≤ w.heap.size) : ∀ k, S' k → B ≤ k := fun k hk => (h.2 k hk).elim (hS k) (Nat.le_trans hB)
theorem Step.below {B : Nat} (h : Step S S' w w') (hS : ∀ k, S k → B ≤ k) (hB : B ≤ w.heap.size) : Below B w w' := h.1.below hB hS
/-- Another one stays apart. -/
theorem Step.apart (h : Step S S' w w') (hR : ∀ k, R k → k < w.heap.size) (ha : ∀ k, R k → ¬ S k) : ∀ k, R k → ¬ S' k := fun k hk hs => (h.2 k hs).elim (ha k hk) (fun e => by have := hR k hk; omega)
end
end Go.Proofs.YtnljjdfajmjdjaaGreat
