/-
  Red-black trees, as plain mathematics: nodes by number with what stands above and below them, a tree with a place in it, turning, painting. No program is spoken of. Conditions: none.
-/
namespace Go.Proofs.Ytfbbmpmgceghfaa
set_option linter.unusedSimpArgs false

structure Key where
  a : Int
  b : Int
  deriving DecidableEq
def KLt (x y : Key) : Prop := x.a < y.a ∨ (x.a = y.a ∧ x.b < y.b)
instance (x y : Key) : Decidable (KLt x y) := by unfold KLt; infer_instance
theorem KLt.trans {x y z : Key} (h : KLt x y) (h' : KLt y z) : KLt x z := by unfold KLt at *; omega
theorem KLt.irr {x : Key} (h : KLt x x) : False := by unfold KLt at *; omega
theorem KLt.ne {x y : Key} (h : KLt x y) : x ≠ y := fun e => (e ▸ h).irr
theorem KLt.asymm {x y : Key} (h : KLt x y) (h' : KLt y x) : False := (h.trans h').irr
theorem KLt.tri (x y : Key) : KLt x y ∨ x = y ∨ KLt y x := by
  obtain ⟨a, b⟩ := x; obtain ⟨c, d⟩ := y; unfold KLt; simp; omega

structure Nd where
  k : Key
  up : Nat
  lo : Nat
  hi : Nat
  red : Bool
def Nd.zero : Nd := ⟨⟨0, 0⟩, 0, 0, 0, false⟩
def Nd.kid (x : Nd) (s : Bool) : Nat := if s then x.hi else x.lo
def Nd.setKid (x : Nd) (s : Bool) (a : Nat) : Nd := if s then { x with hi := a } else { x with lo := a }
def Nd.setUp (x : Nd) (p : Nat) : Nd := { x with up := p }

inductive T where
  | nil
  | nd (i : Nat) (k : Key) (c : Bool) (l r : T)
def T.root : T → Nat | .nil => 0 | .nd i _ _ _ _ => i
def T.col : T → Bool | .nil => false | .nd _ _ c _ _ => c
def T.its : T → List (Nat × Key) | .nil => [] | .nd i k _ l r => l.its ++ (i, k) :: r.its
def T.size : T → Nat | .nil => 0 | .nd _ _ _ l r => l.size + r.size + 1
def T.height : T → Nat | .nil => 0 | .nd _ _ _ l r => 1 + max l.height r.height
def br (s : Bool) (i : Nat) (k : Key) (c : Bool) (x y : T) : T := if s then .nd i k c y x else .nd i k c x y
inductive Z where
  | top
  | st (s : Bool) (i : Nat) (k : Key) (c : Bool) (o : T) (z : Z)
def Z.par : Z → Nat | .top => 0 | .st _ i _ _ _ _ => i
def Z.side : Z → Bool | .top => false | .st s _ _ _ _ _ => s
def Z.depth : Z → Nat | .top => 0 | .st _ _ _ _ _ z => z.depth + 1
def Z.zl : Z → List (Nat × Key) | .top => [] | .st s i k _ o z => if s then z.zl ++ o.its ++ [(i, k)] else z.zl
def Z.zr : Z → List (Nat × Key) | .top => [] | .st s i k _ o z => if s then z.zr else (i, k) :: o.its ++ z.zr
/-- The numbers of a place's way up and what hangs beside it. -/
def Z.ids : Z → List Nat | .top => [] | .st _ i _ _ o z => i :: o.its.map (·.1) ++ z.ids

def Sub (m : Nat → Nd) : Nat → T → Prop
  | _, .nil => True
  | p, .nd i k c l r => m i = ⟨k, p, l.root, r.root, c⟩ ∧ Sub m i l ∧ Sub m i r
def Up (m : Nat → Nd) (tp : Nat) : Nat → Z → Prop
  | a, .top => tp = a
  | a, .st s i k c o z => m i = (if s then ⟨k, z.par, o.root, a, c⟩ else ⟨k, z.par, a, o.root, c⟩) ∧ Sub m i o ∧ Up m tp i z

theorem T.mem_its {t : T} (h : t ≠ .nil) : t.root ∈ t.its.map (·.1) := by
  cases t with
  | nil => exact absurd rfl h
  | nd i k c l r => simp [T.its, T.root]
theorem T.root_zero {t : T} (h : ∀ i ∈ t.its.map (·.1), 0 < i) : t.root = 0 ↔ t = .nil := by
  cases t with
  | nil => simp [T.root]
  | nd i k c l r => have := h i (by simp [T.its]); simp [T.root]; omega
theorem its_br (s : Bool) (i : Nat) (k : Key) (c : Bool) (x y : T) : (br s i k c x y).its = if s then y.its ++ (i, k) :: x.its else x.its ++ (i, k) :: y.its := by cases s <;> rfl
@[simp] theorem root_br (s : Bool) (i : Nat) (k : Key) (c : Bool) (x y : T) : (br s i k c x y).root = i := by cases s <;> rfl
@[simp] theorem col_br (s : Bool) (i : Nat) (k : Key) (c : Bool) (x y : T) : (br s i k c x y).col = c := by cases s <;> rfl
theorem br_not (s : Bool) (i : Nat) (k : Key) (c : Bool) (x y : T) : br (!s) i k c x y = br s i k c y x := by cases s <;> rfl
theorem T.as_br (s : Bool) {t : T} (h : t ≠ .nil) : ∃ i k c x y, t = br s i k c x y := by
  cases t with
  | nil => exact absurd rfl h
  | nd i k c l r => cases s; exact ⟨i, k, c, l, r, rfl⟩; exact ⟨i, k, c, r, l, rfl⟩

theorem Sub.frame {m m' : Nat → Nd} : ∀ {t : T} {p : Nat}, Sub m p t → (∀ i ∈ t.its.map (·.1), m' i = m i) → Sub m' p t
  | .nil, _, _, _ => trivial
  | .nd i k c l r, p, h, he => ⟨(he i (by simp [T.its])).trans h.1, h.2.1.frame (fun j hj => he j (by simp [T.its] at hj ⊢; exact .inl hj)), h.2.2.frame (fun j hj => he j (by simp [T.its] at hj ⊢; exact .inr (.inr hj)))⟩
/-- Its top one stands beneath another one now. -/
theorem Sub.reparent {m m' : Nat → Nd} {t : T} {p q : Nat} (h : Sub m p t) (he : ∀ i ∈ t.its.map (·.1), i ≠ t.root → m' i = m i) (hr : t ≠ .nil → m' t.root = (m t.root).setUp q)
    (hn : (t.its.map (·.1)).Nodup) : Sub m' q t := by
  cases t with
  | nil => trivial
  | nd i k c l r =>
    obtain ⟨h1, h2, h3⟩ := h
    simp only [T.its, T.root, List.map_append, List.map_cons] at he hr hn
    rw [List.nodup_append] at hn
    obtain ⟨_, hn2, hn3⟩ := hn
    rw [List.nodup_cons] at hn2
    refine ⟨by rw [hr (by simp), h1]; rfl, h2.frame (fun j hj => he j (by simp at hj ⊢; exact .inl hj) (fun e => ?_)), h3.frame (fun j hj => he j (by simp at hj ⊢; exact .inr (.inr hj)) (fun e => ?_))⟩
    · exact hn3 j hj i (by simp) e
    · exact hn2.1 (e ▸ hj)
theorem Up.frame {m m' : Nat → Nd} {tp : Nat} : ∀ {z : Z} {a : Nat}, Up m tp a z → (∀ i ∈ z.ids, m' i = m i) → Up m' tp a z
  | .top, _, h, _ => h
  | .st s i k c o z, a, h, he => ⟨(he i (by simp [Z.ids])).trans h.1, h.2.1.frame (fun j hj => he j (by simp [Z.ids] at hj ⊢; exact .inr (.inl hj))), h.2.2.frame (fun j hj => he j (by simp [Z.ids]; exact .inr (.inr hj)))⟩
/-- Another one hangs there now. -/
theorem Up.rehang {m m' : Nat → Nd} {tp tp' a b : Nat} {z : Z} (h : Up m tp a z) (he : ∀ i ∈ z.ids, i ≠ z.par → m' i = m i) (hp : z ≠ .top → m' z.par = (m z.par).setKid z.side b)
    (ht : (z = .top → tp' = b) ∧ (z ≠ .top → tp' = tp)) (hn : z.ids.Nodup) : Up m' tp' b z := by
  cases z with
  | top => exact ht.1 rfl
  | st s i k c o z =>
    obtain ⟨h1, h2, h3⟩ := h
    simp only [Z.ids, Z.par, Z.side, List.cons_append, List.nodup_cons] at he hp hn
    obtain rfl := ht.2 (by simp)
    refine ⟨?_, h2.frame (fun j hj => he j (by simp at hj ⊢; exact .inr (.inl hj)) (fun e => hn.1 (by simp [← e]; simp at hj; exact .inl hj))), h3.frame (fun j hj => he j (by simp; exact .inr (.inr hj)) (fun e => hn.1 (by simp [← e]; exact .inr hj)))⟩
    rw [hp (by simp), h1]
    cases s <;> rfl

/-- The tree with the place z, and t there, lies in m; L: what is in it, in order. -/
structure Rep (m : Nat → Nd) (n tp : Nat) (z : Z) (t : T) (L : List (Nat × Key)) : Prop where
  m0 : m 0 = Nd.zero
  sub : Sub m z.par t
  up : Up m tp t.root z
  its : z.zl ++ t.its ++ z.zr = L
  nodup : (L.map (·.1)).Nodup
  pos : ∀ i ∈ L.map (·.1), 0 < i ∧ i < n

theorem Z.ids_perm : ∀ z : Z, ((z.zl ++ z.zr).map (·.1)).Perm z.ids
  | .top => List.Perm.refl _
  | .st s i k c o z => by
    have ih := Z.ids_perm z
    rw [List.perm_iff_count] at ih ⊢
    intro x
    have := ih x
    cases s
    all_goals
      simp only [Z.zl, Z.zr, Z.ids, List.map_append, List.map_cons, Bool.false_eq_true, if_false, if_true, List.map_nil, List.count_append, List.count_cons, List.count_nil, List.cons_append] at this ⊢
      omega
section
variable {m m' : Nat → Nd} {n tp tp' : Nat} {z : Z} {t : T} {L : List (Nat × Key)}
theorem perm3 (a b c : List Nat) : (a ++ b ++ c).Perm (b ++ (a ++ c)) := by
  rw [List.append_assoc]; exact List.perm_append_comm_assoc _ _ _
theorem Rep.perm (h : Rep m n tp z t L) : (L.map (·.1)).Perm (t.its.map (·.1) ++ z.ids) := by
  rw [← h.its, List.map_append, List.map_append]
  refine (perm3 _ _ _).trans (List.Perm.append_left _ ?_)
  rw [← List.map_append]; exact z.ids_perm
theorem Rep.nodup' (h : Rep m n tp z t L) : (t.its.map (·.1) ++ z.ids).Nodup := h.perm.nodup_iff.1 h.nodup
theorem Rep.ndT (h : Rep m n tp z t L) : (t.its.map (·.1)).Nodup := (List.nodup_append.1 h.nodup').1
theorem Rep.ndZ (h : Rep m n tp z t L) : z.ids.Nodup := (List.nodup_append.1 h.nodup').2.1
theorem Rep.ne (h : Rep m n tp z t L) {i j : Nat} (hi : i ∈ t.its.map (·.1)) (hj : j ∈ z.ids) : i ≠ j := (List.nodup_append.1 h.nodup').2.2 i hi j hj
theorem Rep.posT (h : Rep m n tp z t L) {i : Nat} (hi : i ∈ t.its.map (·.1)) : 0 < i ∧ i < n := h.pos i (h.perm.mem_iff.2 (by simp only [List.mem_append]; exact .inl hi))
theorem Rep.posZ (h : Rep m n tp z t L) {i : Nat} (hi : i ∈ z.ids) : 0 < i ∧ i < n := h.pos i (h.perm.mem_iff.2 (by simp only [List.mem_append]; exact .inr hi))
theorem Z.par_mem (hz : z ≠ .top) : z.par ∈ z.ids := by
  cases z with
  | top => exact absurd rfl hz
  | st _ _ _ _ _ _ => simp [Z.par, Z.ids]
theorem Rep.par0 (h : Rep m n tp z t L) : z.par = 0 ↔ z = .top := by
  cases z with
  | top => simp [Z.par]
  | st s i k c o z => have := (h.posZ (i := i) (by simp [Z.ids])).1; simp [Z.par]; omega
theorem Rep.root0 (h : Rep m n tp z t L) : t.root = 0 ↔ t = .nil := T.root_zero fun _ hi => (h.posT hi).1
theorem Rep.rootLt (h : Rep m n tp z t L) (hn : 0 < n) : t.root < n := by
  by_cases e : t = .nil
  · subst e; exact hn
  · exact (h.posT (T.mem_its e)).2
theorem Rep.parLt (h : Rep m n tp z t L) (hn : 0 < n) : z.par < n := by
  by_cases e : z = .top
  · subst e; exact hn
  · exact (h.posZ (Z.par_mem e)).2

theorem Rep.down {s : Bool} {i : Nat} {k : Key} {c : Bool} {x y : T} (h : Rep m n tp z (br s i k c x y) L) : Rep m n tp (.st s i k c y z) x L := by
  obtain ⟨h0, h1, h2, h3, h4, h5⟩ := h
  cases s
  · exact ⟨h0, h1.2.1, ⟨h1.1, h1.2.2, h2⟩, by rw [← h3]; simp [Z.zl, Z.zr, br, T.its], h4, h5⟩
  · exact ⟨h0, h1.2.2, ⟨h1.1, h1.2.1, h2⟩, by rw [← h3]; simp [Z.zl, Z.zr, br, T.its], h4, h5⟩
theorem Rep.upw {s : Bool} {i : Nat} {k : Key} {c : Bool} {x y : T} (h : Rep m n tp (.st s i k c y z) x L) : Rep m n tp z (br s i k c x y) L := by
  obtain ⟨h0, h1, h2, h3, h4, h5⟩ := h
  cases s
  · exact ⟨h0, ⟨h2.1, h1, h2.2.1⟩, h2.2.2, by rw [← h3]; simp [Z.zl, Z.zr, br, T.its], h4, h5⟩
  · exact ⟨h0, ⟨h2.1, h2.2.1, h1⟩, h2.2.2, by rw [← h3]; simp [Z.zl, Z.zr, br, T.its], h4, h5⟩
theorem Rep.turn {s : Bool} {i : Nat} {k : Key} {c : Bool} {x y : T} (h : Rep m n tp (.st s i k c y z) x L) : Rep m n tp (.st (!s) i k c x z) y L := by
  have := h.upw
  rw [← br_not] at this
  exact this.down

def upd (m : Nat → Nd) (i : Nat) (x : Nd) (j : Nat) : Nd := if j = i then x else m j
@[simp] theorem upd_same (m : Nat → Nd) (i : Nat) (x : Nd) : upd m i x i = x := if_pos rfl
theorem upd_ne (m : Nat → Nd) {i j : Nat} (x : Nd) (h : j ≠ i) : upd m i x j = m j := if_neg h
def paint (m : Nat → Nd) (i : Nat) (b : Bool) : Nat → Nd := upd m i { m i with red := b }
theorem Rep.paint {s : Bool} {i : Nat} {k : Key} {c : Bool} {x y : T} (h : Rep m n tp z (br s i k c x y) L) (b : Bool) : Rep (paint m i b) n tp z (br s i k b x y) L := by
  have hnd := h.ndT
  have hpos := (h.posT (i := i) (by rw [its_br]; cases s <;> simp)).1
  have hne := fun {j : Nat} (hj : j ∈ z.ids) => h.ne (i := i) (by rw [its_br]; cases s <;> simp) hj
  obtain ⟨h0, h1, h2, h3, h4, h5⟩ := h
  have hup : Up (Proofs.Ytfbbmpmgceghfaa.paint m i b) tp i z := by
    rw [root_br] at h2
    exact h2.frame fun j hj => upd_ne _ _ (hne hj).symm
  rw [its_br] at hnd
  cases s
  all_goals
    simp only [if_true, Bool.false_eq_true, if_false, List.map_append, List.map_cons, List.nodup_append, List.nodup_cons, List.mem_cons] at hnd
    obtain ⟨_, ⟨hnn, _⟩, hnx⟩ := hnd
    refine ⟨by rw [← h0]; exact upd_ne _ _ (by omega), ⟨?_, h1.2.1.frame fun j hj => upd_ne _ _ ?_, h1.2.2.frame fun j hj => upd_ne _ _ ?_⟩, hup, h3, h4, h5⟩
    · have e := h1.1
      simp only [Proofs.Ytfbbmpmgceghfaa.paint, upd_same]
      rw [e]
    · exact hnx j hj i (.inl rfl)
    · exact fun e => hnn (e ▸ hj)

def sideM (m : Nat → Nd) (i : Nat) : Bool := decide ((m (m i).up).hi = i)
theorem Sub.root_up {p : Nat} (h : Sub m p t) (hn : t ≠ .nil) : (m t.root).up = p := by
  cases t with
  | nil => exact absurd rfl hn
  | nd i k c l r => rw [T.root, h.1]
theorem Rep.side (h : Rep m n tp z t L) (ht : t ≠ .nil) : sideM m t.root = z.side := by
  unfold sideM
  rw [h.sub.root_up ht]
  cases z with
  | top => rw [Z.par, h.m0]; have := (h.posT (T.mem_its ht)).1; exact decide_eq_false (show ¬ (0 : Nat) = t.root by omega)
  | st s i k c o z =>
    have h1 := h.up.1
    rw [Z.par, h1]
    cases s
    · simp only [Bool.false_eq_true, if_false, Z.side, decide_eq_false_iff_not]
      by_cases ho : o = .nil
      · subst ho; have := (h.posT (T.mem_its ht)).1; show ¬ (0 = t.root); omega
      · exact fun e => h.ne (T.mem_its ht) (j := o.root) (by have := T.mem_its ho; simp [Z.ids] at this ⊢; exact .inr (.inl this)) e.symm
    · simp [Z.side]

/-- a hangs beneath p on that side now. -/
def hangM (m : Nat → Nd) (a p : Nat) (s : Bool) : Nat → Nd :=
  let m1 := if p = 0 then m else upd m p ((m p).setKid s a)
  if a = 0 then m1 else upd m1 a ((m1 a).setUp p)
def hangT (tp a p : Nat) : Nat := if p = 0 then a else tp
def liftM (m : Nat → Nd) (j : Nat) : Nat → Nd :=
  let p := (m j).up
  let s := sideM m j
  let o := (m p).up
  let so := sideM m p
  hangM (hangM (hangM m ((m j).kid (!s)) p s) p j (!s)) j o so

/-! ### Turning -/
theorem lift_val (m : Nat → Nd) (i j yr zp : Nat) (s zs : Bool) (hj : j ≠ 0) (hi : i ≠ 0) (hji : j ≠ i) (hy : yr ≠ 0 → yr ≠ i ∧ yr ≠ j ∧ yr ≠ zp) (hz : zp ≠ 0 → zp ≠ i ∧ zp ≠ j) (q : Nat) :
    hangM (hangM (hangM m yr i s) i j (!s)) j zp zs q = if q = j then ((m j).setKid (!s) i).setUp zp else if q = i then ((m i).setKid s yr).setUp j else if yr ≠ 0 ∧ q = yr then (m q).setUp i else if zp ≠ 0 ∧ q = zp then (m q).setKid zs j else m q := by
  unfold hangM upd
  grind
/-- What a turn leaves, place by place. -/
theorem Rep.lift {s : Bool} {i : Nat} {k : Key} {c : Bool} {o : T} {j : Nat} {kj : Key} {cj : Bool} {x y : T} (h : Rep m n tp (.st s i k c o z) (br s j kj cj x y) L) :
    Rep (liftM m j) n (hangT tp j z.par) z (br s j kj cj x (br s i k c y o)) L := by
  have hside : sideM m j = s := by have := h.side (by cases s <;> simp [br]); simpa [Z.side] using this
  have hup : (m j).up = i := by have := h.sub.root_up (by cases s <;> simp [br]); simpa [Z.par] using this
  have hside2 : sideM m i = z.side := by have := h.upw.side (by cases s <;> simp [br]); simpa using this
  have hup2 : (m i).up = z.par := by have := h.upw.sub.root_up (by cases s <;> simp [br]); simpa using this
  have hkid : (m j).kid (!s) = y.root := by
    have := h.sub
    cases s
    · have e := this.1; simp [Nd.kid, e]
    · have e := this.1; simp [Nd.kid, e]
  have hj := h.posT (i := j) (by rw [its_br]; cases s <;> simp)
  have hi := h.posZ (i := i) (by simp [Z.ids])
  have hji : j ≠ i := h.ne (by rw [its_br]; cases s <;> simp) (by simp [Z.ids])
  have hnd := h.nodup'
  have hnd' : (x.its.map (·.1) ++ (j :: y.its.map (·.1)) ++ (i :: (o.its.map (·.1) ++ z.ids))).Nodup := by
    refine List.Perm.nodup_iff ?_ |>.1 hnd
    rw [its_br]
    cases s
    · simp [Z.ids]
    · simp only [Z.ids, if_true, List.map_append, List.map_cons, List.cons_append]
      refine List.Perm.append_right _ ?_
      refine List.Perm.trans List.perm_middle ?_
      refine List.Perm.trans (List.Perm.cons _ List.perm_append_comm) ?_
      exact List.perm_middle.symm
  have hpz := h.par0
  have hy0 : y.root = 0 ↔ y = .nil := T.root_zero fun a ha => (h.posT (by rw [its_br]; cases s <;> simp only [if_true, Bool.false_eq_true, if_false, List.map_append, List.mem_append, List.map_cons, List.mem_cons] <;> simp [ha])).1
  have hym : y ≠ .nil → y.root ∈ y.its.map (·.1) := T.mem_its
  have hzm : z ≠ .top → z.par ∈ z.ids := Z.par_mem
  have hz0 : z.par = 0 ↔ z = .top := h.upw.par0
  have hX : Sub m j x := by have := h.sub; cases s; exact this.2.1; exact this.2.2
  have hY : Sub m j y := by have := h.sub; cases s; exact this.2.2; exact this.2.1
  have hO : Sub m i o := h.up.2.1
  have hU : Up m tp i z := h.up.2.2
  have mj : m j = if s then ⟨kj, i, y.root, x.root, cj⟩ else ⟨kj, i, x.root, y.root, cj⟩ := by have := h.sub; cases s; exact this.1; exact this.1
  have mi : m i = if s then ⟨k, z.par, o.root, j, c⟩ else ⟨k, z.par, j, o.root, c⟩ := by have := h.up.1; simpa using this
  rw [List.append_assoc, List.nodup_append] at hnd'
  obtain ⟨hnx, hn2, hxa⟩ := hnd'
  rw [List.cons_append, List.nodup_cons, List.nodup_append, List.nodup_cons, List.nodup_append] at hn2
  obtain ⟨hjn, hny, ⟨hin, hno, hnz, hoz⟩, hya⟩ := hn2
  have m0 := h.m0
  -- the values
  have hM : liftM m j = hangM (hangM (hangM m y.root i s) i j (!s)) j z.par z.side := by
    unfold liftM; simp only [hup, hside, hup2, hside2, hkid]
  have hne_y : y ≠ .nil → y.root ≠ i ∧ y.root ≠ j ∧ (z ≠ .top → y.root ≠ z.par) := fun e =>
    ⟨fun e' => hya _ (hym e) i (by simp) e', fun e' => hjn (by simp only [List.mem_append]; exact .inl (e' ▸ hym e)), fun e2 e' => hya _ (hym e) _ (by simp only [List.mem_cons, List.mem_append]; exact .inr (.inr (hzm e2))) e'⟩
  have hne_z : z ≠ .top → z.par ≠ i ∧ z.par ≠ j := fun e =>
    ⟨fun e' => hin (by simp only [List.mem_append]; exact .inr (e' ▸ hzm e)), fun e' => hjn (by simp only [List.mem_append, List.mem_cons]; exact .inr (.inr (.inr (e' ▸ hzm e))))⟩
  have hval : ∀ q, liftM m j q = if q = j then ((m j).setKid (!s) i).setUp z.par else if q = i then ((m i).setKid s y.root).setUp j else if y.root ≠ 0 ∧ q = y.root then (m q).setUp i else if z.par ≠ 0 ∧ q = z.par then (m q).setKid z.side j else m q := by
    intro q
    rw [hM]
    refine lift_val m i j y.root z.par s z.side (by omega) (by omega) hji (fun e => ?_) (fun e => hne_z (fun e' => e (hz0.2 e'))) q
    obtain ⟨y1, y2, y3⟩ := hne_y (fun e' => e (hy0.2 e'))
    refine ⟨y1, y2, fun e2 => ?_⟩
    by_cases ez : z = .top
    · rw [hz0.2 ez] at e2; exact e e2
    · exact y3 ez e2
  have hT : z = .top → hangT tp j z.par = j := fun e => by subst e; rfl
  have hT' : z ≠ .top → hangT tp j z.par = tp := fun e => if_neg (fun e' => e (hz0.1 e'))
  have hfar : ∀ q, q ≠ j → q ≠ i → (y ≠ .nil → q ≠ y.root) → (z ≠ .top → q ≠ z.par) → liftM m j q = m q := fun q h1 h2 h3 h4 => by
    rw [hval q, if_neg h1, if_neg h2, if_neg (fun e => h3 (fun e' => e.1 (hy0.2 e')) e.2), if_neg (fun e => h4 (fun e' => e.1 (hz0.2 e')) e.2)]
  have hX' : Sub (liftM m j) j x := hX.frame fun q hq => hfar q (hxa q hq j (by simp)) (hxa q hq i (by simp)) (fun e => hxa q hq _ (by simp only [List.cons_append, List.mem_cons, List.mem_append]; exact .inr (.inl (hym e)))) (fun e => hxa q hq _ (by simp only [List.cons_append, List.mem_cons, List.mem_append]; exact .inr (.inr (.inr (.inr (hzm e))))))
  have hO' : Sub (liftM m j) i o := hO.frame fun q hq => hfar q (fun e => hjn (by subst e; simp only [List.mem_append, List.mem_cons]; exact .inr (.inr (.inl hq)))) (fun e => hin (by subst e; simp only [List.mem_append]; exact .inl hq)) (fun e => fun e' => hya _ (hym e) q (by simp only [List.mem_cons, List.mem_append]; exact .inr (.inl hq)) e'.symm) (fun e => hoz q hq _ (hzm e))
  have hY' : Sub (liftM m j) i y := hY.reparent (fun q hq hqr => hfar q (fun e => hjn (by subst e; simp only [List.mem_append]; exact .inl hq)) (fun e => hya q hq i (by simp) e) (fun _ => hqr) (fun e => hya q hq _ (by simp only [List.mem_cons, List.mem_append]; exact .inr (.inr (hzm e)))))
    (fun e => by obtain ⟨y1, y2, _⟩ := hne_y e; rw [hval, if_neg y2, if_neg y1, if_pos ⟨fun e' => e (hy0.1 e'), rfl⟩]) hny
  have hU' : Up (liftM m j) (hangT tp j z.par) j z := hU.rehang (fun q hq hqp => hfar q (fun e => hjn (by subst e; simp only [List.mem_append, List.mem_cons]; exact .inr (.inr (.inr hq)))) (fun e => hin (by subst e; simp only [List.mem_append]; exact .inr hq)) (fun e => fun e' => hya _ (hym e) q (by simp only [List.mem_cons, List.mem_append]; exact .inr (.inr hq)) e'.symm) (fun _ => hqp))
    (fun e => by obtain ⟨z1, z2⟩ := hne_z e; rw [hval, if_neg z2, if_neg z1, if_neg (fun e' => (hne_y (fun e'' => e'.1 (hy0.2 e''))).2.2 e e'.2.symm), if_pos ⟨fun e' => e (hz0.1 e'), rfl⟩]) ⟨hT, hT'⟩ hnz
  refine ⟨?_, ?_, by rw [root_br]; exact hU', ?_, h.nodup, h.pos⟩
  · rw [hfar 0 (by omega) (by omega) (fun e e' => e (hy0.1 e'.symm)) (fun e e' => e (hz0.1 e'.symm))]; exact m0
  · have v1 := hval j; rw [if_pos rfl, mj] at v1
    have v2 := hval i; rw [if_neg hji.symm, if_pos rfl, mi] at v2
    cases s
    · exact ⟨v1, hX', v2, hY', hO'⟩
    · exact ⟨v1, ⟨v2, hO', hY'⟩, hX'⟩
  · rw [← h.its]
    cases s <;> simp [Z.zl, Z.zr, br, T.its]
end
end Go.Proofs.Ytfbbmpmgceghfaa
