/-
  Red-black trees, as plain mathematics: the mending of a red one beneath a red one, and of a way with a black one less. No program is spoken of. Conditions: none.
-/
import Derived.Test.YtfbbmpmgceghfaaRbMore
namespace Go.Proofs.Ytfbbmpmgceghfaa
set_option linter.unusedSimpArgs false

theorem T.red_ne {t : T} (h : t.col = true) : t ≠ .nil := fun e => by subst e; simp [T.col] at h
section
variable {m m' : Nat → Nd} {n tp tp' : Nat} {z : Z} {t : T} {L : List (Nat × Key)} {N : Nat}
/-- t is red, and so may be the one above it; nothing else is amiss. -/
structure Red (m : Nat → Nd) (n tp : Nat) (z : Z) (t : T) (L : List (Nat × Key)) (N : Nat) : Prop where
  rep : Rep m n tp z t L
  col : t.col = true
  rb : RB t N
  fits : Fits z N false

theorem RepB.tops (h : RepB m n tp .top t L) (hL : L ≠ []) : t ≠ .nil ∧ tp = t.root ∧ 0 < tp ∧ tp < n := by
  have hn : t ≠ .nil := fun e => hL (by rw [← h.rep.its, e]; rfl)
  have e : tp = t.root := h.rep.up
  have := h.rep.posT (T.mem_its hn)
  exact ⟨hn, e, by omega, by omega⟩
theorem RepB.topBlack (h : RepB m n tp .top t L) (hL : L ≠ []) : RepB (paint m tp false) n tp .top t L := by
  obtain ⟨hn, e, _, _⟩ := h.tops hL
  obtain ⟨i, k, c, x, y, rfl⟩ := T.as_br false hn
  rw [root_br] at e
  subst e
  obtain ⟨N, h1, h2⟩ := h.rb
  have hc : c = false := by simpa [Fits] using h2
  subst hc
  exact ⟨h.rep.paint false, N, h1, h2⟩
theorem Rep.ne_nil (h : Rep m n tp z t L) (ht : t ≠ .nil) : L ≠ [] := fun e => by
  have := h.its
  rw [e] at this
  simp at this
  exact T.lo_nil ht this.2.1

/-- It is black above. -/
theorem Red.done (h : Red m n tp z t L N) (hb : (m z.par).red = false) : (0 < tp ∧ tp < n) ∧ ∃ t', RepB (paint m tp false) n tp .top t' L := by
  have hn := T.red_ne h.col
  have hL := h.rep.ne_nil hn
  cases z with
  | top =>
    have e : tp = t.root := h.rep.up
    have hp := h.rep.posT (T.mem_its hn)
    refine ⟨by rw [e]; exact hp, ?_⟩
    obtain ⟨i, k, c, x, y, rfl⟩ := T.as_br false hn
    rw [root_br] at e
    subst e
    refine ⟨_, h.rep.paint false, ?_⟩
    have h1 := h.rb
    rw [RB_br] at h1
    obtain ⟨_, N', e, h2, h3⟩ := h1
    exact ⟨N' + 1, RB_br.2 ⟨fun e => by simp at e, N', by simp, h2, h3⟩, by simp [Fits]⟩
  | st s i k c o z =>
    have hc : c = false := by
      have := h.rep.up.1
      rw [Z.par, this] at hb
      cases s <;> simpa using hb
    subst hc
    have hB : RepB m n tp (.st s i k false o z) t L := ⟨h.rep, N, h.rb, fun e => (by simp at e), h.fits.2⟩
    obtain ⟨t', ht'⟩ := hB.top
    exact ⟨(ht'.tops hL).2.2, t', ht'.topBlack hL⟩

/-- It is red above. -/
theorem Red.two (h : Red m n tp z t L N) (hb : (m z.par).red = true) : ∃ s a ka u s1 o ko b z2, z = .st s a ka true u (.st s1 o ko false b z2) ∧ u.col = false ∧ RB u N ∧ RB b N ∧ Fits z2 (N + 1) false := by
  cases z with
  | top => rw [Z.par, h.rep.m0] at hb; simp [Nd.zero] at hb
  | st s a ka c u z1 =>
    have hc : c = true := by
      have := h.rep.up.1
      rw [Z.par, this] at hb
      cases s <;> simpa using hb
    subst hc
    obtain ⟨f1, f2, f3⟩ := h.fits
    simp only [if_true, Nat.add_zero] at f3
    cases z1 with
    | top => simp [Fits] at f3
    | st s1 o ko c1 b z2 =>
      obtain ⟨g1, g2, g3⟩ := f3
      cases c1 with
      | true => exact absurd (g1 rfl).1 (by simp)
      | false => exact ⟨s, a, ka, u, s1, o, ko, b, z2, rfl, (f1 rfl).2, f2, g2, g3⟩

theorem Red.up2 {s : Bool} {a : Nat} {ka : Key} {u : T} {s1 : Bool} {o : Nat} {ko : Key} {ib : Nat} {kb : Key} {xb yb : T} {z2 : Z}
    (h : Red m n tp (.st s a ka true u (.st s1 o ko false (.nd ib kb true xb yb) z2)) t L N) (hU : RB u N) (hB : RB (.nd ib kb true xb yb) N) (hF : Fits z2 (N + 1) false) :
    Red (paint (paint (paint m a false) ib false) o true) n tp z2 (br s1 o ko true (br s a ka false t u) (.nd ib kb false xb yb)) L (N + 1) := by
  have r1 := (h.rep.upw.paint false)
  have r2 := (Rep.paint (s := false) (x := xb) (y := yb) r1.turn false)
  have r3 := r2.turn.upw.paint true
  rw [Bool.not_not] at r3
  obtain ⟨_, N', e, h2, h3⟩ := hB
  refine ⟨r3, by simp, ?_, hF⟩
  refine RB_br.2 ⟨fun _ => ⟨by simp, rfl⟩, N + 1, by simp, RB_br.2 ⟨fun e => by simp at e, N, by simp, h.rb, hU⟩, ?_⟩
  simp at e
  subst e
  exact ⟨fun e => by simp at e, N, by simp, h2, h3⟩

theorem Red.out1 {s : Bool} {a : Nat} {ka : Key} {u : T} {o : Nat} {ko : Key} {b : T} {z2 : Z}
    (h : Red m n tp (.st s a ka true u (.st s o ko false b z2)) t L N) (hu : u.col = false) (hU : RB u N) (hB : RB b N) (hb : b.col = false) (hF : Fits z2 (N + 1) false) :
    ∃ t', RepB (paint (paint (liftM m a) a false) o true) n (hangT tp a z2.par) .top t' L := by
  have r1 := h.rep.upw.lift
  have r2 := r1.paint false
  rw [← br_not] at r2
  have r3 := (r2.down.paint true).upw
  rw [br_not] at r3
  refine RepB.top (z := z2) ⟨r3, N + 1, RB_br.2 ⟨fun e => by simp at e, N, by simp, h.rb, RB_br.2 ⟨fun _ => ⟨hu, hb⟩, N, by simp, hU, hB⟩⟩, ?_⟩
  rw [col_br]; exact hF

theorem Red.out2 {s : Bool} {a : Nat} {ka : Key} {u : T} {o : Nat} {ko : Key} {b : T} {z2 : Z} {j : Nat} {kj : Key} {x y : T}
    (h : Red m n tp (.st s a ka true u (.st (!s) o ko false b z2)) (br s j kj true x y) L N) (hu : u.col = false) (hU : RB u N) (hB : RB b N) (hb : b.col = false) (hF : Fits z2 (N + 1) false) :
    Rep (liftM m j) n (hangT tp j o) (.st (!s) o ko false b z2) (br (!s) j kj true (br s a ka true y u) x) L ∧
    ∃ t', RepB (paint (paint (liftM (liftM m j) j) j false) o true) n (hangT (hangT tp j o) j z2.par) .top t' L := by
  have r1 := h.rep.lift
  rw [← br_not] at r1
  have r2 := r1.lift.paint false
  have r3 := r2
  rw [← br_not] at r3
  have r4 := (r3.down.paint true).upw
  rw [br_not] at r4
  refine ⟨r1, RepB.top (z := z2) ⟨r4, N + 1, ?_, ?_⟩⟩
  · have hR := h.rb
    rw [RB_br] at hR
    obtain ⟨c1, N', e, h1, h2⟩ := hR
    simp at e
    subst e
    obtain ⟨c1, c2⟩ := c1 rfl
    exact RB_br.2 ⟨fun e => by simp at e, N, by simp, RB_br.2 ⟨fun _ => ⟨c2, hu⟩, N, by simp, h2, hU⟩, RB_br.2 ⟨fun _ => ⟨c1, hb⟩, N, by simp, h1, hB⟩⟩
  · rw [col_br]; exact hF

/-! ### a black one less -/
/-- The ways to t have one black one less than the others. -/
structure Less (m : Nat → Nd) (n tp : Nat) (z : Z) (t : T) (L : List (Nat × Key)) (N : Nat) : Prop where
  rep : Rep m n tp z t L
  col : t.col = false
  rb : RB t N
  fits : Fits z (N + 1) false

theorem Less.done (h : Less m n tp .top t L N) : RepB m n tp .top t L := ⟨h.rep, N, h.rb, h.col⟩
/-- The one beside, and what is beneath it. -/
theorem Less.open {s : Bool} {a : Nat} {ka : Key} {ca : Bool} {B : T} {z : Z} (h : Less m n tp (.st s a ka ca B z) t L N) :
    ∃ b kb cb near far, B = br s b kb cb near far ∧ (ca = true → cb = false) := by
  obtain ⟨f1, f2, f3⟩ := h.fits
  cases hB : B with
  | nil => rw [hB] at f2; simp [RB] at f2
  | nd i k c l r =>
    obtain ⟨b, kb, cb, x, y, e⟩ := T.as_br s (t := .nd i k c l r) (by simp)
    refine ⟨b, kb, cb, x, y, e, fun hc => ?_⟩
    have := (f1 hc).2
    rw [hB, e] at this
    simpa using this

variable {s : Bool} {a : Nat} {ka : Key} {ca : Bool} {b : Nat} {kb : Key} {cb : Bool} {near far : T}
/-- It is red beside. -/
theorem Less.red (h : Less m n tp (.st s a ka false (br s b kb true near far) z) t L N) :
    Rep m n tp (.st (!s) a ka false t z) (br (!s) b kb true far near) L ∧
    Less (paint (paint (liftM m b) b false) a true) n (hangT tp b z.par) (.st s a ka true near (.st s b kb false far z)) t L N := by
  have r0 := h.rep.turn
  rw [← br_not] at r0
  have r1 := r0.lift.paint false
  rw [br_not] at r1
  have r2 := (r1.down.paint true)
  rw [br_not] at r2
  obtain ⟨f1, f2, f3⟩ := h.fits
  rw [RB_br] at f2
  obtain ⟨c1, N', e, f4, f5⟩ := f2
  simp at e
  subst e
  obtain ⟨c1, c2⟩ := c1 rfl
  exact ⟨r0, r2.down, h.col, h.rb, fun _ => ⟨rfl, c1⟩, f4, fun e => by simp at e, by simpa using f5, by simpa using f3⟩
/-- The far one is red. -/
theorem Less.farRed {fi : Nat} {fk : Key} {fx fy : T} (h : Less m n tp (.st s a ka ca (br s b kb false near (.nd fi fk true fx fy)) z) t L N) :
    Rep m n tp (.st (!s) a ka ca t z) (br (!s) b kb false (.nd fi fk true fx fy) near) L ∧ (liftM m b a).red = ca ∧
    ∃ t', RepB (paint (paint (paint (liftM m b) b ca) a false) fi false) n (hangT tp b z.par) .top t' L := by
  have r0 := h.rep.turn
  rw [← br_not] at r0
  have r1 := r0.lift
  have r1' := r1.paint ca
  rw [br_not] at r1'
  have r2 := (r1'.down.paint false)
  have r3 := (Rep.paint (s := false) (x := fx) (y := fy) r2.turn false)
  have r4 := r3.upw
  obtain ⟨f1, f2, f3⟩ := h.fits
  rw [RB_br] at f2
  obtain ⟨c1, N', e, f4, f5⟩ := f2
  simp at e
  subst e
  obtain ⟨c1, N', e, f6, f7⟩ := f5
  simp at e
  subst e
  refine ⟨r0, ?_, RepB.top (z := z) ⟨r4, N + 1 + (if ca then 0 else 1), ?_, ?_⟩⟩
  · rw [br_not] at r1
    have := r1.down.sub
    rw [br_not] at this
    cases s
    · have e := this.1; rw [e]
    · have e := this.1; rw [e]
  · refine RB_br.2 ⟨fun _ => ⟨rfl, by simp⟩, N + 1, by cases ca <;> simp, ⟨fun e => by simp at e, N, by simp, f6, f7⟩, ?_⟩
    refine RB_br.2 ⟨fun e => by simp at e, N, by simp, f4, h.rb⟩
  · rw [col_br]; exact f3
/-- The near one is red, the far one black. -/
theorem Less.nearRed {ci : Nat} {ck : Key} {p q : T} (h : Less m n tp (.st s a ka ca (br s b kb false (br s ci ck true p q) far) z) t L N) (hf : far.col = false) :
    Rep m n tp (.st s b kb false far (.st (!s) a ka ca t z)) (br s ci ck true p q) L ∧
    Less (paint (paint (liftM m ci) ci false) b true) n (hangT tp ci a) (.st s a ka ca (br s ci ck false p (br s b kb true q far)) z) t L N := by
  have r0 := h.rep.turn.down
  have r1 := r0.lift.paint false
  rw [← br_not] at r1
  have r2 := (r1.down.paint true).upw
  rw [br_not] at r2
  have r3 := r2.turn
  rw [Bool.not_not] at r3
  obtain ⟨f1, f2, f3⟩ := h.fits
  rw [RB_br] at f2
  obtain ⟨c1, N', e, f4, f5⟩ := f2
  simp at e
  subst e
  rw [RB_br] at f4
  obtain ⟨c2, N', e, f6, f7⟩ := f4
  simp at e
  subst e
  obtain ⟨c2, c3⟩ := c2 rfl
  exact ⟨r0, r3, h.col, h.rb, fun _ => ⟨rfl, by simp⟩, RB_br.2 ⟨fun e => by simp at e, N, by simp, f6, RB_br.2 ⟨fun _ => ⟨c3, hf⟩, N, by simp, f7, f5⟩⟩, f3⟩
/-- The one above is red; those beneath the one beside are black. -/
theorem Less.over (h : Less m n tp (.st s a ka true (br s b kb false near far) z) t L N) (hn : near.col = false) (hf : far.col = false) :
    ∃ t', RepB (paint (paint m a false) b true) n tp .top t' L := by
  have r1 := (h.rep.upw.paint false)
  have r2 := (r1.down.turn.paint true).upw
  rw [br_not] at r2
  obtain ⟨f1, f2, f3⟩ := h.fits
  rw [RB_br] at f2
  obtain ⟨c1, N', e, f4, f5⟩ := f2
  simp at e
  subst e
  refine RepB.top (z := z) ⟨r2, N + 1, RB_br.2 ⟨fun e => by simp at e, N, by simp, h.rb, RB_br.2 ⟨fun _ => ⟨hn, hf⟩, N, by simp, f4, f5⟩⟩, ?_⟩
  rw [col_br]
  simp at f3
  exact f3.weak
/-- All are black. -/
theorem Less.further (h : Less m n tp (.st s a ka false (br s b kb false near far) z) t L N) (hn : near.col = false) (hf : far.col = false) :
    Less (paint m b true) n tp z (br s a ka false t (br s b kb true near far)) L (N + 1) := by
  have r2 := (h.rep.turn.paint true).upw
  rw [br_not] at r2
  obtain ⟨f1, f2, f3⟩ := h.fits
  rw [RB_br] at f2
  obtain ⟨c1, N', e, f4, f5⟩ := f2
  simp at e
  subst e
  exact ⟨r2, by simp, RB_br.2 ⟨fun e => by simp at e, N, by simp, h.rb, RB_br.2 ⟨fun _ => ⟨hn, hf⟩, N, by simp, f4, f5⟩⟩, by simpa using f3⟩

def T.kidc (t : T) (s : Bool) : Bool := match t with | .nil => false | .nd _ _ _ l r => if s then r.col else l.col
/-- How many rounds are to come, at most. -/
def rank : Z → Nat
  | .top => 0
  | .st s _ _ ca B z => if B.col then 3 else if B.kidc (!s) then 1 else if B.kidc s then 2 else if ca then 1 else 4 * (z.depth + 1)
theorem rank_le (z : Z) : rank z ≤ 4 * z.depth := by
  cases z with
  | top => simp [rank, Z.depth]
  | st s i k c B z => simp only [rank, Z.depth]; split <;> (try split) <;> (try split) <;> (try split) <;> omega
theorem kidc_far : (br s b kb cb near far).kidc (!s) = far.col := by cases s <;> rfl
theorem kidc_near : (br s b kb cb near far).kidc s = near.col := by cases s <;> rfl
end
end Go.Proofs.Ytfbbmpmgceghfaa
