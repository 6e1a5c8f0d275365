/-
  Two lines of sockets, as lists; how they lie in memory. Conditions: none.
  The document's queue as plain numbers and lists: what each call answers and leaves; how many turns a pull takes at most. No program is spoken of. Conditions: none.
  The document's queue as plain numbers and lists: a pull ends; it is the same whatever number of turns is allowed, if they are enough. No program is spoken of. Conditions: none.
  The document's queue as plain numbers and lists: what holds of it all along (places and lists, credits, lengths), and that each call keeps it. No program is spoken of. Conditions: none.
-/
import Derived.Test.YtnljjdfajmjdjaaJ01
import Derived.Test.YtnljjdfajmjdjaaChecked
import Derived.Lib.SlicesCompact
import Derived.Lib.SlicesDelete
import Derived.Lib.SliceRun
import Derived.Laws.IdiomCopy
namespace Go.Proofs.Ytnljjdfajmjdjaa
open Go.RowKit
set_option maxRecDepth 100000

/-! ### Blocks, many cells at once -/
theorem Whole.puts {g : Nat} {t : TypeId} : ∀ (vs : List Value) (o : Nat) {w : World} {cs : Array Value}, Whole w g t cs → Whole (w.setCells g o vs) g t (Lib.lay cs o vs)
  | [], _, _, _, h => h
  | v :: vs, o, _, _, h => Whole.puts vs (o + 1) (h.put o v)
theorem Keep.setCells {S : Nat → Prop} {g : Nat} (hg : S g) : ∀ (vs : List Value) (o : Nat) {w w' : World}, Keep S w w' → Keep S w (w'.setCells g o vs)
  | [], _, _, _, h => h
  | v :: vs, o, _, _, h => Keep.setCells hg vs (o + 1) (h.setCell (p := ⟨g, o, none⟩) (.inl hg) v)
/-- What lies in an array behind a run laid into it. -/
theorem lay_at (vs : List Value) (cs : Array Value) (o j : Nat) (h : o + vs.length ≤ cs.size) : (Lib.lay cs o vs)[j]? = if o ≤ j ∧ j < o + vs.length then vs[j - o]? else cs[j]? := by
  rw [Lib.lay_get? _ _ _ _ h]

/-! ### A line -/
/-- What a line of sockets holds in its j-th cell. -/
def lineV (N : List Int) (j : Nat) : Value := if j < 8 then .int .i64 (N.getD j 0) else .int .i64 (N.length : Int)
/-- The nine cells from off on are the line N. -/
def LineC (cs : Array Value) (off : Nat) (N : List Int) : Prop := ∀ j, j < 9 → cs[off + j]? = some (lineV N j)
/-- All cells but the nine from off on are as they were. -/
def Else (off : Nat) (cs cs' : Array Value) : Prop := cs'.size = cs.size ∧ ∀ j, j < off ∨ off + 9 ≤ j → cs'[j]? = cs[j]?
theorem Else.refl (off : Nat) (cs : Array Value) : Else off cs cs := ⟨rfl, fun _ _ => rfl⟩
theorem Else.trans {off : Nat} {a b c : Array Value} (h : Else off a b) (k : Else off b c) : Else off a c := ⟨k.1.trans h.1, fun j hj => (k.2 j hj).trans (h.2 j hj)⟩
theorem LineC.els {off o : Nat} {cs cs' : Array Value} {N : List Int} (h : LineC cs o N) (k : Else off cs cs') (ho : o + 9 ≤ off ∨ off + 9 ≤ o) : LineC cs' o N := fun j hj => (k.2 _ (by omega)).trans (h j hj)
theorem LineC.count {cs : Array Value} {off : Nat} {N : List Int} (h : LineC cs off N) : cs[off + 8]? = some (.int .i64 (N.length : Int)) := (h 8 (by omega)).trans (by simp [lineV])
theorem LineC.cell {cs : Array Value} {off j : Nat} {N : List Int} (h : LineC cs off N) (hj : j < 8) : cs[off + j]? = some (.int .i64 (N.getD j 0)) := (h j (by omega)).trans (by simp [lineV, hj])
theorem LineC.room {cs : Array Value} {off : Nat} {N : List Int} (h : LineC cs off N) : off + 9 ≤ cs.size := by
  have := (Array.getElem?_eq_some_iff.1 (h 8 (by omega))).1; omega
theorem LineC.of {cs : Array Value} {off : Nat} {N : List Int} (h : ∀ j, j < 8 → cs[off + j]? = some (.int .i64 (N.getD j 0))) (hc : cs[off + 8]? = some (.int .i64 (N.length : Int))) : LineC cs off N := fun j hj => by
  by_cases e : j < 8
  · rw [h j e]; simp [lineV, e]
  · obtain rfl : j = 8 := by omega
    rw [hc]; simp [lineV]

/-! ### Two lines -/
/-- The two lines: the new one, and the old one. -/
structure LsC (cs : Array Value) (N O : List Int) : Prop where
  size : cs.size = 18
  new : LineC cs 0 N
  old : LineC cs 9 O
/-- The block g is lists with those lines. -/
def LsAt (w : World) (g : Nat) (N O : List Int) : Prop := ∃ cs, Whole w g 80 cs ∧ LsC cs N O
theorem LsAt.lt {w : World} {g : Nat} {N O : List Int} (h : LsAt w g N O) : g < w.heap.size := by obtain ⟨_, h, _⟩ := h; exact h.lt
theorem LsAt.keep {S : Nat → Prop} {w w' : World} {g : Nat} {N O : List Int} (h : LsAt w g N O) (hk : Keep S w w') (hs : ¬ S g) : LsAt w' g N O := by
  obtain ⟨cs, h, hc⟩ := h; exact ⟨cs, h.keep hk hs, hc⟩
/-- What an array of eighteen cells is that holds two empty lines. -/
def zero18 : Array Value := #[.int .i64 0, .int .i64 0, .int .i64 0, .int .i64 0, .int .i64 0, .int .i64 0, .int .i64 0, .int .i64 0, .int .i64 0, .int .i64 0, .int .i64 0, .int .i64 0, .int .i64 0, .int .i64 0, .int .i64 0, .int .i64 0, .int .i64 0, .int .i64 0]
theorem zero18_ls : LsC zero18 [] [] := by
  refine ⟨rfl, fun j hj => ?_, fun j hj => ?_⟩
  all_goals
    have : j = 0 ∨ j = 1 ∨ j = 2 ∨ j = 3 ∨ j = 4 ∨ j = 5 ∨ j = 6 ∨ j = 7 ∨ j = 8 := by omega
    rcases this with rfl | rfl | rfl | rfl | rfl | rfl | rfl | rfl | rfl <;> rfl

/-- What may be in lists: sockets, each once. -/
structure LsOk (N O : List Int) : Prop where
  all : ∀ x ∈ N ++ O, 0 ≤ x ∧ x < 8
  once : (N ++ O).Nodup

theorem nodup_le : ∀ (m : Nat) {l : List Int}, l.Nodup → (∀ x ∈ l, 0 ≤ x ∧ x < (m : Int)) → l.length ≤ m
  | 0, [], _, _ => Nat.le_refl _
  | 0, x :: _, _, h => by have := h x (List.mem_cons_self ..); omega
  | m + 1, l, hn, h => by
    by_cases e : (m : Int) ∈ l
    · have h2 := nodup_le m (hn.erase (m : Int)) (fun x hx => by
        have h3 := hn.mem_erase_iff.1 hx
        have := h x h3.2
        have := h3.1
        omega)
      rw [List.length_erase_of_mem e] at h2
      omega
    · have h2 := nodup_le m hn (fun x hx => by
        have := h x hx
        have : x ≠ (m : Int) := fun e' => e (e' ▸ hx)
        omega)
      omega
theorem LsOk.len {N O : List Int} (h : LsOk N O) : N.length + O.length ≤ 8 := by
  have := nodup_le 8 h.once (fun x hx => by have := h.all x hx; omega)
  simpa using this
theorem LsOk.nil : LsOk [] [] := ⟨fun _ h => (by cases h), List.nodup_nil⟩
theorem LsOk.len1 {N O : List Int} (h : LsOk N O) : N.length ≤ 8 := by have := h.len; omega
theorem LsOk.len2 {N O : List Int} (h : LsOk N O) : O.length ≤ 8 := by have := h.len; omega
/-- One that is in none leaves room. -/
theorem LsOk.room {N O : List Int} (h : LsOk N O) {s : Int} (hs : 0 ≤ s ∧ s < 8) (hn : s ∉ N ++ O) : LsOk (s :: N) O ∧ N.length + O.length < 8 := by
  have h2 : LsOk (s :: N) O := ⟨fun x hx => by
    rcases List.mem_cons.1 hx with rfl | hx
    · exact hs
    · exact h.all x hx, List.nodup_cons.2 ⟨hn, h.once⟩⟩
  have := h2.len
  simp at this
  exact ⟨h2, by omega⟩
theorem LsOk.perm {N O N' O' : List Int} (h : LsOk N O) (p : (N' ++ O').Perm (N ++ O)) : LsOk N' O' := ⟨fun x hx => h.all x (p.mem_iff.1 hx), p.nodup_iff.2 h.once⟩
theorem LsOk.sub {N O N' O' : List Int} (h : LsOk N O) (p : (N' ++ O').Sublist (N ++ O)) : LsOk N' O' := ⟨fun x hx => h.all x (p.subset hx), h.once.sublist p⟩
theorem LsOk.pushNew {N O : List Int} (h : LsOk N O) {s : Int} (hs : 0 ≤ s ∧ s < 8) (hn : s ∉ N ++ O) : LsOk (N ++ [s]) O :=
  (h.room hs hn).1.perm (by rw [List.append_assoc]; exact List.perm_middle)
theorem LsOk.pushOld {N O : List Int} (h : LsOk N O) {s : Int} (hs : 0 ≤ s ∧ s < 8) (hn : s ∉ N ++ O) : LsOk N (O ++ [s]) :=
  (h.room hs hn).1.perm (by rw [← List.append_assoc]; exact List.perm_append_comm)
theorem LsOk.erase {N O : List Int} (h : LsOk N O) (s : Int) : LsOk (N.erase s) (O.erase s) := h.sub (List.Sublist.append List.erase_sublist List.erase_sublist)

/-! ### What the document says -/
def isSock (s : Int) : Bool := decide (0 ≤ s ∧ s < 8)
def placeV (N O : List Int) (s : Int) : Int := if s ∈ N then 1 else if s ∈ O then 2 else 0
def pushV (N O : List Int) (s : Int) : Int := if s < 0 ∨ 8 ≤ s then 8 else if s ∈ N ∨ s ∈ O then 6 else 0
def pushN (N O : List Int) (s : Int) (f : Bool) : List Int := if pushV N O s = 0 ∧ f = true then N ++ [s] else N
def pushO (N O : List Int) (s : Int) (f : Bool) : List Int := if pushV N O s = 0 ∧ f = false then O ++ [s] else O
def headS (N O : List Int) : Int := (N ++ O).headD 0
def headF (N _O : List Int) : Bool := !N.isEmpty
def headB (N O : List Int) : Bool := !(N ++ O).isEmpty
def dropN (N : List Int) : List Int := N.tail
def dropO (N O : List Int) : List Int := if N.isEmpty then O.tail else O
def backO (N O : List Int) : List Int := if N.isEmpty then (match O with | [] => [] | x :: r => r ++ [x]) else O ++ [N.headD 0]
theorem placeV_ne {N O : List Int} {s : Int} (h : s ∉ N ++ O) : placeV N O s = 0 := by
  rw [List.mem_append, not_or] at h
  unfold placeV; rw [if_neg h.1, if_neg h.2]
theorem placeV_eq {N O : List Int} {s : Int} : placeV N O s = 0 ↔ s ∉ N ++ O := by
  unfold placeV
  rw [List.mem_append]
  by_cases h1 : s ∈ N <;> by_cases h2 : s ∈ O <;> simp [h1, h2]
theorem LsOk.push {N O : List Int} (h : LsOk N O) (s : Int) (f : Bool) : LsOk (pushN N O s f) (pushO N O s f) := by
  unfold pushN pushO
  by_cases h0 : pushV N O s = 0
  · have hs : 0 ≤ s ∧ s < 8 := by
      unfold pushV at h0
      by_cases h1 : s < 0 ∨ 8 ≤ s
      · rw [if_pos h1] at h0; cases h0
      · omega
    have hn : s ∉ N ++ O := by
      unfold pushV at h0
      rw [if_neg (by omega)] at h0
      by_cases h1 : s ∈ N ∨ s ∈ O
      · rw [if_pos h1] at h0; cases h0
      · rwa [List.mem_append]
    cases f
    · simp only [h0, and_true, if_true, Bool.false_eq_true, and_false, if_false]
      exact h.pushOld hs hn
    · simp only [h0, and_true, if_true, Bool.true_eq_false, and_false, if_false]
      exact h.pushNew hs hn
  · simp only [h0, false_and, if_false]
    exact h
theorem LsOk.drop {N O : List Int} (h : LsOk N O) : LsOk (dropN N) (dropO N O) := by
  refine h.sub ?_
  cases N with
  | nil => exact List.tail_sublist O
  | cons x r => exact List.sublist_cons_self x (r ++ O)
theorem LsOk.back {N O : List Int} (h : LsOk N O) : LsOk (dropN N) (backO N O) := by
  refine h.perm ?_
  cases N with
  | nil =>
    cases O with
    | nil => exact List.Perm.refl _
    | cons x r => exact List.perm_append_singleton x r
  | cons x r =>
    show (r ++ (O ++ [x])).Perm (x :: (r ++ O))
    rw [← List.append_assoc]
    exact List.perm_append_singleton x (r ++ O)
/-- The head taken out by its number. -/
theorem erase_head {N O : List Int} (hok : LsOk N O) (hb : headB N O = true) : N.erase (headS N O) = dropN N ∧ (if N.isEmpty then O.erase (headS N O) else O) = dropO N O := by
  cases N with
  | nil =>
    cases O with
    | nil => cases hb
    | cons x r => exact ⟨rfl, List.erase_cons_head ..⟩
  | cons x r => exact ⟨List.erase_cons_head .., rfl⟩
end Go.Proofs.Ytnljjdfajmjdjaa
namespace Go.Proofs.Ytnljjdfajmjdjaa
open Go.RowKit
set_option maxRecDepth 100000

/-- A segment: its socket, first byte, length, stamp, whether it goes again. -/
structure Sg where
  s : Int
  f : Int
  l : Int
  t : Int
  a : Bool
/-- A flow: its socket, credit, place, next time, since when it is nowhere, segments. -/
structure Fl where
  s : Int
  c : Int
  p : Int
  n : Int
  u : Int
  q : List Sg
/-- A config: quantum, first credit, limits, horizon, rate, what is done beyond the horizon, cap, mss. -/
structure Cf where
  q : Int
  f : Int
  l : Int
  w : Int
  h : Int
  r : Int
  d : Bool
  k : Int
  m : Int
structure Qm where
  c : Cf
  F : Nat → Fl
  T : Nat → Bool
  N : List Int
  O : List Int

def Sg.zero : Sg := ⟨0, 0, 0, 0, false⟩
def Fl.zero : Fl := ⟨0, 0, 0, 0, 0, []⟩
def addS (a b : Int) : Int := if a + b ≤ 18446744073709551615 then a + b else 18446744073709551615
def upF {α : Type} (F : Nat → α) (i : Nat) (v : α) : Nat → α := fun j => if j = i then v else F j
@[simp] theorem upF_at {α : Type} (F : Nat → α) (i : Nat) (v : α) : upF F i v i = v := by simp [upF]
theorem upF_ne {α : Type} (F : Nat → α) {i j : Nat} (v : α) (h : j ≠ i) : upF F i v j = F j := by simp [upF, h]

/-! ### What is told -/
def lenQ (x : Qm) : Nat := ((List.range 8).map fun i => (x.F i).q.length).sum
/-- The time of a flow with segments. -/
def timeF (f : Fl) : Int := max f.n (f.q.headD Sg.zero).t
/-- Of the first k flows the one that waits with the least time. -/
def firstN (x : Qm) : Nat → Option Nat
  | 0 => none
  | k + 1 => match firstN x k with
    | none => if x.T k = true ∧ (x.F k).p = 3 then some k else none
    | some b => if (x.T k = true ∧ (x.F k).p = 3) ∧ timeF (x.F k) < timeF (x.F b) then some k else some b
def firstQ (x : Qm) : Option Nat := firstN x 8
theorem firstN_some {x : Qm} : ∀ {k b : Nat}, firstN x k = some b → b < k ∧ x.T b = true ∧ (x.F b).p = 3
  | k + 1, b, h => by
    unfold firstN at h
    split at h
    · split at h
      · cases h; rename_i hc; exact ⟨by omega, hc⟩
      · cases h
    · rename_i b0 hb0
      have := firstN_some hb0
      split at h
      · cases h; rename_i hc; exact ⟨by omega, hc.1⟩
      · cases h; exact ⟨by omega, this.2⟩
theorem firstN_none {x : Qm} : ∀ {k : Nat}, firstN x k = none → ∀ i, i < k → ¬ (x.T i = true ∧ (x.F i).p = 3)
  | k + 1, h, i, hi => by
    unfold firstN at h
    split at h
    · rename_i h0
      split at h
      · cases h
      · rename_i hc
        by_cases e : i = k
        · subst e; exact hc
        · exact firstN_none h0 i (by omega)
    · split at h <;> cases h
theorem firstN_least {x : Qm} : ∀ {k b : Nat}, firstN x k = some b → ∀ i, i < k → x.T i = true → (x.F i).p = 3 → timeF (x.F b) ≤ timeF (x.F i) ∧ (timeF (x.F i) = timeF (x.F b) → b ≤ i)
  | k + 1, b, h, i, hi, ht, hp => by
    unfold firstN at h
    split at h
    · rename_i h0
      split at h
      · cases h
        by_cases e : i = k
        · subst e; exact ⟨Int.le_refl _, fun _ => Nat.le_refl _⟩
        · exact absurd ⟨ht, hp⟩ (firstN_none h0 i (by omega))
      · cases h
    · rename_i b0 hb0
      have hlt := (firstN_some hb0).1
      split at h
      · cases h; rename_i hc
        by_cases e : i = k
        · subst e; exact ⟨Int.le_refl _, fun _ => Nat.le_refl _⟩
        · have := firstN_least hb0 i (by omega) ht hp
          exact ⟨by omega, fun e2 => by omega⟩
      · cases h; rename_i hc
        by_cases e : i = k
        · subst e
          have : ¬ timeF (x.F i) < timeF (x.F b) := fun hlt => hc ⟨⟨ht, hp⟩, hlt⟩
          exact ⟨by omega, fun _ => by omega⟩
        · exact firstN_least hb0 i (by omega) ht hp

/-! ### What is done -/
def deadF (x : Qm) (now : Int) (i : Nat) : Bool := x.T i && ((x.F i).p == 0) && decide (addS (x.F i).u 3000000000 ≤ now)
def collQ (x : Qm) (now : Int) : Qm := { x with F := fun i => if deadF x now i = true then Fl.zero else x.F i, T := fun i => x.T i && !deadF x now i }
def putQ (x : Qm) (i : Nat) (p : Int) : Qm := { x with F := upF x.F i { x.F i with p := p }, N := if p = 1 then x.N.erase (i : Int) ++ [(i : Int)] else x.N.erase (i : Int), O := if p = 2 then x.O.erase (i : Int) ++ [(i : Int)] else x.O.erase (i : Int) }
/-- The fate of a segment that may be put in. -/
def fateQ (x : Qm) (s : Sg) (now : Int) : Int :=
  if x.c.l ≤ (lenQ x : Int) then 2 else if x.c.w ≤ ((x.F s.s.toNat).q.length : Int) then 3 else if addS now x.c.h < s.t ∧ x.c.d = true then 4 else 0
/-- The flow, ahead of what is put in. -/
def preF (x : Qm) (s : Sg) (now : Int) : Fl :=
  if x.T s.s.toNat = true then (if (x.F s.s.toNat).p = 0 ∧ addS (x.F s.s.toNat).u 40000000 ≤ now then { x.F s.s.toNat with c := max (x.F s.s.toNat).c x.c.q } else x.F s.s.toNat)
  else { Fl.zero with s := s.s, c := x.c.f }
/-- What is put in. -/
def segF (x : Qm) (s : Sg) (now : Int) : Sg := { s with t := min s.t (addS now x.c.h) }
/-- It is put in. -/
def takeF (x : Qm) (s : Sg) (now : Int) : Fl :=
  { preF x s now with q := (preF x s now).q ++ [segF x s now], p := if (preF x s now).p = 0 then 1 else (preF x s now).p, u := if (preF x s now).p = 0 then 0 else (preF x s now).u }
def takeQ (x : Qm) (s : Sg) (now : Int) : Qm :=
  { x with F := upF x.F s.s.toNat (takeF x s now), T := upF x.T s.s.toNat true,
           N := if (if x.T s.s.toNat = true then (x.F s.s.toNat).p else 0) = 0 then x.N ++ [s.s] else x.N }
def enqE (s : Sg) : Int := if s.s < 0 ∨ 8 ≤ s.s then 8 else if s.l < 1 ∨ 65536 < s.l then 1 else 0
def enqV (x : Qm) (s : Sg) (now : Int) : Int := if enqE s = 0 then fateQ (collQ x now) s now else 0
def enqQ (x : Qm) (s : Sg) (now : Int) : Qm := if enqE s = 0 then (if fateQ (collQ x now) s now = 0 then takeQ (collQ x now) s now else collQ x now) else x

/-- Those whose time has come go behind all old ones: k at most. -/
def wakeN (now : Int) : Nat → Qm → Qm
  | 0, x => x
  | k + 1, x => match firstQ x with
    | none => x
    | some i => if timeF (x.F i) ≤ now then wakeN now k (putQ x i 2) else x

/-- One turn of a pull: on with another queue, or its end: what departs. -/
inductive Turn where
  | on (x : Qm)
  | stop (x : Qm) (s : Option Sg)
def turnQ (dly : Int → Int → Int) (x : Qm) (now : Int) : Turn :=
  if headB x.N x.O = false then .stop x none
  else
    let i := (headS x.N x.O).toNat
    let f := x.F i
    if f.c ≤ 0 then .on (putQ { x with F := upF x.F i { f with c := f.c + x.c.q } } i 2)
    else match f.q with
      | [] => if headF x.N x.O = true ∧ x.O ≠ [] then .on (putQ x i 2) else .on { putQ x i 0 with F := upF (putQ x i 0).F i { (putQ x i 0).F i with u := now } }
      | s :: r => if now < timeF f then .on (putQ x i 3) else .stop { x with F := upF x.F i { f with q := r, c := f.c - s.l, n := addS now (dly s.l (i : Int)) } } (some s)
def runQ (dly : Int → Int → Int) (now : Int) : Nat → Qm → Qm × Option Sg
  | 0, x => (x, none)
  | k + 1, x => match turnQ dly x now with
    | .on y => runQ dly now k y
    | .stop y s => (y, s)

/-! ### How many turns a pull takes -/
/-- How often a flow's credit must be more by q till it is above 0. -/
def needK (q c : Int) : Nat := if c ≤ 0 then ((-c) / q).toNat + 1 else 0
theorem needK_less {q c : Int} (hq : 0 < q) (hc : c ≤ 0) : needK q (c + q) + 1 ≤ needK q c := by
  unfold needK
  rw [if_pos hc]
  split
  · rename_i h
    have h1 : -c = -(c + q) + q := by omega
    have h2 : (-c) / q = (-(c + q)) / q + 1 := by rw [h1, Int.add_ediv_of_dvd_right (Int.dvd_refl q), Int.ediv_self (by omega)]
    have h3 : 0 ≤ (-(c + q)) / q := Int.ediv_nonneg (by omega) (by omega)
    omega
  · omega
def costQ (x : Qm) (w : Nat) (l : List Int) : Nat := (l.map fun z => needK x.c.q (x.F z.toNat).c + w).sum
/-- No pull takes more turns than that, and one. -/
def turnsQ (x : Qm) : Nat := costQ x 2 x.N + costQ x 1 x.O

theorem sum_erase : ∀ {l : List Int} (g : Int → Nat) {z : Int}, z ∈ l → ((l.erase z).map g).sum + g z = (l.map g).sum
  | y :: r, g, z, h => by
    by_cases e : y = z
    · subst e; rw [List.erase_cons_head]; simp; omega
    · have hz : z ∈ r := by rcases List.mem_cons.1 h with h | h; exact absurd h.symm e; exact h
      have := sum_erase g hz
      rw [List.erase_cons_tail (by simpa using e)]
      simp only [List.map_cons, List.sum_cons]
      omega
theorem sum_eq {l : List Int} {g g' : Int → Nat} (h : ∀ z ∈ l, g z = g' z) : (l.map g).sum = (l.map g').sum := by
  rw [List.map_congr_left h]
end Go.Proofs.Ytnljjdfajmjdjaa
namespace Go.Proofs.Ytnljjdfajmjdjaa
open Go.RowKit
set_option maxRecDepth 100000

/-! ### The lists behind a move -/
theorem LsOk.gone {N O : List Int} (h : LsOk N O) (z : Int) : z ∉ N.erase z ++ O.erase z := fun hm => by
  have hn := List.nodup_append.1 h.once
  rcases List.mem_append.1 hm with h1 | h1
  · exact hn.1.not_mem_erase h1
  · exact hn.2.1.not_mem_erase h1
theorem LsOk.put {N O : List Int} (h : LsOk N O) {z : Int} (hz : 0 ≤ z ∧ z < 8) (p : Int) :
    LsOk (if p = 1 then N.erase z ++ [z] else N.erase z) (if p = 2 then O.erase z ++ [z] else O.erase z) := by
  have he := h.erase z
  have hg := h.gone z
  by_cases h1 : p = 1
  · subst h1; exact he.pushNew hz hg
  · rw [if_neg h1]
    by_cases h2 : p = 2
    · rw [if_pos h2]; exact he.pushOld hz hg
    · rw [if_neg h2]; exact he
theorem head_sock {N O : List Int} (h : LsOk N O) (hb : headB N O = true) : 0 ≤ headS N O ∧ headS N O < 8 := by
  refine h.all _ ?_
  cases N with
  | nil =>
    cases O with
    | nil => cases hb
    | cons x r => exact List.mem_cons_self ..
  | cons x r => exact List.mem_cons_self ..
theorem sock_nat {z : Int} (h : 0 ≤ z) : ((z.toNat : Nat) : Int) = z := by omega

/-! ### Costs -/
theorem cost_eq {x y : Qm} {w : Nat} {l : List Int} (hc : y.c.q = x.c.q) (h : ∀ z ∈ l, (y.F z.toNat).c = (x.F z.toNat).c) : costQ y w l = costQ x w l :=
  sum_eq fun z hz => by rw [hc, h z hz]
theorem cost_cons (x : Qm) (w : Nat) (z : Int) (l : List Int) : costQ x w (z :: l) = needK x.c.q (x.F z.toNat).c + w + costQ x w l := rfl
theorem cost_app (x : Qm) (w : Nat) (l m : List Int) : costQ x w (l ++ m) = costQ x w l + costQ x w m := by simp [costQ]
theorem cost_one (x : Qm) (w : Nat) (z : Int) : costQ x w [z] = needK x.c.q (x.F z.toNat).c + w := by simp [costQ]

/-- What a turn leaves of the lists and the credits, whatever it does: the head goes to p, its credit is c. -/
structure Moved (x y : Qm) (z c p : Int) : Prop where
  N : y.N = if p = 1 then x.N.erase z ++ [z] else x.N.erase z
  O : y.O = if p = 2 then x.O.erase z ++ [z] else x.O.erase z
  k : y.c = x.c
  at_ : (y.F z.toNat).c = c
  els : ∀ i, i ≠ z.toNat → y.F i = x.F i
  T : y.T = x.T
theorem Moved.ok {x y : Qm} {z c p : Int} (m : Moved x y z c p) (h : LsOk x.N x.O) (hz : 0 ≤ z ∧ z < 8) : LsOk y.N y.O := by
  rw [m.N, m.O]; exact h.put hz p
theorem Moved.others {x y : Qm} {z c p : Int} (m : Moved x y z c p) (hz : 0 ≤ z) {w : Nat} {l : List Int} (hl : ∀ u ∈ l, 0 ≤ u) (hn : z ∉ l) : costQ y w l = costQ x w l :=
  cost_eq (by rw [m.k]) fun u hu => by
    have h0 := hl u hu
    have : u ≠ z := fun e => hn (e ▸ hu)
    rw [m.els u.toNat (by omega)]
theorem Moved.turns {x y : Qm} {c p : Int} (h : LsOk x.N x.O) (hb : headB x.N x.O = true) (m : Moved x y (headS x.N x.O) c p) (hp : p ≠ 1) :
    turnsQ y + needK x.c.q (x.F (headS x.N x.O).toNat).c + (if headF x.N x.O = true then 2 else 1) = turnsQ x + (if p = 2 then needK x.c.q c + 1 else 0) := by
  have hz := head_sock h hb
  have hnn : ∀ u ∈ x.N ++ x.O, 0 ≤ u := fun u hu => (h.all u hu).1
  obtain ⟨z, hzz⟩ : ∃ z, z = headS x.N x.O := ⟨_, rfl⟩
  rw [← hzz] at m hz ⊢
  have hN := m.N
  rw [if_neg hp] at hN
  unfold turnsQ
  rw [hN, m.O]
  have hnd := h.once
  cases hxN : x.N with
  | nil =>
    rw [hxN] at hzz hb hnd hnn
    cases hxO : x.O with
    | nil => rw [hxO] at hb; cases hb
    | cons u r =>
      rw [hxO] at hzz hnd hnn
      obtain rfl : z = u := hzz
      have hur : z ∉ r := (List.nodup_cons.1 hnd).1
      have hl : ∀ a ∈ r, 0 ≤ a := fun a ha => hnn a (List.mem_cons_of_mem _ ha)
      rw [List.erase_cons_head, show headF ([] : List Int) (z :: r) = false from rfl, cost_cons]
      have e0 := m.others hz.1 (w := 1) hl hur
      have e1 := m.at_
      by_cases h2 : p = 2
      · rw [if_pos h2, if_pos h2, cost_app, cost_one, e0, m.k, e1]
        simp [costQ]; omega
      · rw [if_neg h2, if_neg h2, e0]
        simp [costQ]; omega
  | cons u r =>
    rw [hxN] at hzz hnd hnn
    obtain rfl : z = u := hzz
    have hzr : z ∉ r ++ x.O := (List.nodup_cons.1 hnd).1
    rw [List.mem_append, not_or] at hzr
    have hl1 : ∀ a ∈ r, 0 ≤ a := fun a ha => hnn a (List.mem_cons_of_mem _ (List.mem_append_left _ ha))
    have hl2 : ∀ a ∈ x.O, 0 ≤ a := fun a ha => hnn a (List.mem_cons_of_mem _ (List.mem_append_right _ ha))
    rw [List.erase_cons_head, List.erase_of_not_mem hzr.2, show headF (z :: r) x.O = true from rfl, cost_cons]
    have e0 := m.others hz.1 (w := 2) hl1 hzr.1
    have e2 := m.others hz.1 (w := 1) hl2 hzr.2
    have e1 := m.at_
    by_cases h2 : p = 2
    · rw [if_pos h2, if_pos h2, cost_app, cost_one, e0, e2, m.k, e1]
      simp; omega
    · rw [if_neg h2, if_neg h2, e0, e2]
      simp; omega

/-- What a turn that goes on does. -/
theorem turn_on {d : Int → Int → Int} {x y : Qm} {now : Int} (h : LsOk x.N x.O) (ht : turnQ d x now = .on y) :
    headB x.N x.O = true ∧ ∃ c p, Moved x y (headS x.N x.O) c p ∧ p ≠ 1 ∧
      (((x.F (headS x.N x.O).toNat).c ≤ 0 ∧ p = 2 ∧ c = (x.F (headS x.N x.O).toNat).c + x.c.q) ∨
       (¬ (x.F (headS x.N x.O).toNat).c ≤ 0 ∧ c = (x.F (headS x.N x.O).toNat).c ∧ (p ≠ 2 ∨ headF x.N x.O = true))) := by
  unfold turnQ at ht
  by_cases hb : headB x.N x.O = false
  · rw [if_pos hb] at ht; cases ht
  · rw [if_neg hb] at ht
    have hb' : headB x.N x.O = true := by simpa using hb
    have hz := head_sock h hb'
    refine ⟨hb', ?_⟩
    obtain ⟨z, hzz⟩ : ∃ z, z = headS x.N x.O := ⟨_, rfl⟩
    rw [← hzz] at ht hz ⊢
    have hzn := sock_nat hz.1
    dsimp only at ht
    by_cases hc : (x.F z.toNat).c ≤ 0
    · rw [if_pos hc] at ht
      cases ht
      refine ⟨_, 2, ⟨by simp [putQ, hzn], by simp [putQ, hzn], rfl, rfl, fun i hi => ?_, rfl⟩, by decide, .inl ⟨hc, rfl, ?_⟩⟩
      · simp [putQ, upF, hi]
      · simp [putQ, upF]
    · rw [if_neg hc] at ht
      split at ht
      · split at ht
        · rename_i hf
          cases ht
          refine ⟨_, 2, ⟨by simp [putQ, hzn], by simp [putQ, hzn], rfl, rfl, fun i hi => ?_, rfl⟩, by decide, .inr ⟨hc, ?_, .inr hf.1⟩⟩
          · simp [putQ, upF, hi]
          · simp [putQ, upF]
        · cases ht
          refine ⟨_, 0, ⟨by simp [putQ, hzn], by simp [putQ, hzn], rfl, rfl, fun i hi => ?_, rfl⟩, by decide, .inr ⟨hc, ?_, .inl (by decide)⟩⟩
          · simp [putQ, upF, hi]
          · simp [putQ, upF]
      · split at ht
        · cases ht
          refine ⟨_, 3, ⟨by simp [putQ, hzn], by simp [putQ, hzn], rfl, rfl, fun i hi => ?_, rfl⟩, by decide, .inr ⟨hc, ?_, .inl (by decide)⟩⟩
          · simp [putQ, upF, hi]
          · simp [putQ, upF]
        · cases ht

theorem turn_less {d : Int → Int → Int} {x y : Qm} {now : Int} (h : LsOk x.N x.O) (hq : 0 < x.c.q) (ht : turnQ d x now = .on y) : turnsQ y < turnsQ x ∧ LsOk y.N y.O ∧ y.c = x.c := by
  obtain ⟨hb, c, p, m, hp, hor⟩ := turn_on h ht
  refine ⟨?_, m.ok h (head_sock h hb), m.k⟩
  have e := m.turns h hb hp
  rcases hor with ⟨hc, rfl, rfl⟩ | ⟨hc, rfl, hor⟩
  · rw [if_pos rfl] at e
    have := needK_less hq hc
    split at e <;> omega
  · have h0 : needK x.c.q (x.F (headS x.N x.O).toNat).c = 0 := by unfold needK; rw [if_neg hc]
    rw [h0] at e
    by_cases h2 : p = 2
    · rw [if_pos h2] at e
      rcases hor with h3 | h3
      · exact absurd h2 h3
      · rw [if_pos h3] at e; omega
    · rw [if_neg h2] at e
      split at e <;> omega

theorem run_enough (d : Int → Int → Int) (now : Int) : ∀ (k m : Nat) (x : Qm), LsOk x.N x.O → 0 < x.c.q → turnsQ x < k → turnsQ x < m → runQ d now k x = runQ d now m x
  | 0, _, _, _, _, h, _ => absurd h (Nat.not_lt_zero _)
  | _ + 1, 0, _, _, _, _, h => absurd h (Nat.not_lt_zero _)
  | k + 1, m + 1, x, hok, hq, hk, hm => by
    unfold runQ
    cases ht : turnQ d x now with
    | on y =>
      obtain ⟨h1, h2, h3⟩ := turn_less hok hq ht
      exact run_enough d now k m y h2 (by rw [h3]; exact hq) (by omega) (by omega)
    | stop y s => rfl
/-- A pull: what it leaves, and what departs. -/
def pullQ (d : Int → Int → Int) (x : Qm) (now : Int) : Qm × Option Sg := runQ d now (turnsQ x + 1) x
theorem pull_on {d : Int → Int → Int} {x y : Qm} {now : Int} (h : LsOk x.N x.O) (hq : 0 < x.c.q) (ht : turnQ d x now = .on y) : pullQ d x now = pullQ d y now := by
  obtain ⟨h1, h2, h3⟩ := turn_less h hq ht
  unfold pullQ
  conv => lhs; unfold runQ
  rw [ht]
  exact run_enough d now _ _ y h2 (by rw [h3]; exact hq) (by omega) (by omega)
theorem pull_stop {d : Int → Int → Int} {x y : Qm} {now : Int} {s : Option Sg} (ht : turnQ d x now = .stop y s) : pullQ d x now = (y, s) := by
  unfold pullQ runQ
  rw [ht]
def deqQ (d : Int → Int → Int) (x : Qm) (now : Int) : Qm × Option Sg := pullQ d (wakeN now 8 x) now
end Go.Proofs.Ytnljjdfajmjdjaa
namespace Go.Proofs.Ytnljjdfajmjdjaa
open Go.RowKit
set_option maxRecDepth 100000

def U64 (n : Int) : Prop := 0 ≤ n ∧ n ≤ 18446744073709551615
theorem addS_fit {a b : Int} (ha : 0 ≤ a) (hb : 0 ≤ b) : U64 (addS a b) := by unfold addS U64; split <;> omega

/-- What a segment that is queued is. -/
structure Sg.Ok (s : Sg) (i : Nat) : Prop where
  hs : s.s = (i : Int)
  hf : U64 s.f
  hl : 1 ≤ s.l ∧ s.l ≤ 65536
  ht : U64 s.t
/-- What a flow that is there is. -/
structure Fl.Ok (f : Fl) (i : Nat) : Prop where
  hs : f.s = (i : Int)
  hc : -65536 ≤ f.c ∧ f.c ≤ 65536
  hp : 0 ≤ f.p ∧ f.p ≤ 3
  hn : U64 f.n
  hu : U64 f.u
  no : f.p ≠ 0 → f.u = 0
  em : f.p = 0 → f.q = []
  wt : f.p = 3 → f.q ≠ []
  hq : ∀ s ∈ f.q, s.Ok i
/-- What May says of a config. -/
structure Cf.Ok (c : Cf) : Prop where
  hq : 100 ≤ c.q ∧ c.q ≤ 65536
  hf : 100 ≤ c.f ∧ c.f ≤ 65536
  hl : 1 ≤ c.l ∧ c.l ≤ 512
  hw : 1 ≤ c.w ∧ c.w ≤ 512
  hh : 0 ≤ c.h ∧ c.h ≤ 4611686018427387904
  hr : U64 c.r
  hk : 1 ≤ c.k ∧ c.k ≤ 1073741824
  hm : 100 ≤ c.m ∧ c.m ≤ 9000
structure Qm.Ok (x : Qm) : Prop where
  hc : x.c.Ok
  ls : LsOk x.N x.O
  new : ∀ i : Nat, i < 8 → ((i : Int) ∈ x.N ↔ x.T i = true ∧ (x.F i).p = 1)
  old : ∀ i : Nat, i < 8 → ((i : Int) ∈ x.O ↔ x.T i = true ∧ (x.F i).p = 2)
  is : ∀ i : Nat, i < 8 → x.T i = true → (x.F i).Ok i
  no : ∀ i : Nat, i < 8 → x.T i = false → x.F i = Fl.zero
  len : lenQ x ≤ 512

/-! ### Lengths -/
theorem lenQ_eq (x : Qm) : lenQ x = (x.F 0).q.length + (x.F 1).q.length + (x.F 2).q.length + (x.F 3).q.length + (x.F 4).q.length + (x.F 5).q.length + (x.F 6).q.length + (x.F 7).q.length := by
  simp [lenQ, List.range_succ]; omega
theorem lenQ_same {x y : Qm} (h : ∀ i, i < 8 → (y.F i).q.length = (x.F i).q.length) : lenQ y = lenQ x := by
  rw [lenQ_eq, lenQ_eq, h 0 (by decide), h 1 (by decide), h 2 (by decide), h 3 (by decide), h 4 (by decide), h 5 (by decide), h 6 (by decide), h 7 (by decide)]
theorem lenQ_up {x y : Qm} {i : Nat} (hi : i < 8) (h : ∀ j : Nat, j ≠ i → y.F j = x.F j) : lenQ y + (x.F i).q.length = lenQ x + (y.F i).q.length := by
  rw [lenQ_eq, lenQ_eq]
  have h0 := h 0; have h1 := h 1; have h2 := h 2; have h3 := h 3; have h4 := h 4; have h5 := h 5; have h6 := h 6; have h7 := h 7
  match i, hi with
  | 0, _ => rw [h1 (by decide), h2 (by decide), h3 (by decide), h4 (by decide), h5 (by decide), h6 (by decide), h7 (by decide)]; omega
  | 1, _ => rw [h0 (by decide), h2 (by decide), h3 (by decide), h4 (by decide), h5 (by decide), h6 (by decide), h7 (by decide)]; omega
  | 2, _ => rw [h0 (by decide), h1 (by decide), h3 (by decide), h4 (by decide), h5 (by decide), h6 (by decide), h7 (by decide)]; omega
  | 3, _ => rw [h0 (by decide), h1 (by decide), h2 (by decide), h4 (by decide), h5 (by decide), h6 (by decide), h7 (by decide)]; omega
  | 4, _ => rw [h0 (by decide), h1 (by decide), h2 (by decide), h3 (by decide), h5 (by decide), h6 (by decide), h7 (by decide)]; omega
  | 5, _ => rw [h0 (by decide), h1 (by decide), h2 (by decide), h3 (by decide), h4 (by decide), h6 (by decide), h7 (by decide)]; omega
  | 6, _ => rw [h0 (by decide), h1 (by decide), h2 (by decide), h3 (by decide), h4 (by decide), h5 (by decide), h7 (by decide)]; omega
  | 7, _ => rw [h0 (by decide), h1 (by decide), h2 (by decide), h3 (by decide), h4 (by decide), h5 (by decide), h6 (by decide)]; omega
theorem lenQ_le {x : Qm} {i : Nat} (hi : i < 8) : (x.F i).q.length ≤ lenQ x := by
  have := lenQ_up (y := { x with F := upF x.F i Fl.zero }) hi (fun j hj => upF_ne _ _ hj)
  have e : ({ x with F := upF x.F i Fl.zero } : Qm).F i = Fl.zero := upF_at _ _ _
  rw [e] at this
  simp [Fl.zero] at this
  omega

/-! ### One flow turns -/
theorem Qm.Ok.turn {x y : Qm} (h : x.Ok) {i : Nat} (hi : i < 8) (hF : ∀ j : Nat, j ≠ i → y.F j = x.F j) (hT : ∀ j : Nat, j ≠ i → y.T j = x.T j) (hc : y.c.Ok)
    (fl : y.T i = true → (y.F i).Ok i) (go : y.T i = false → y.F i = Fl.zero) (ls : LsOk y.N y.O)
    (n : ∀ z : Int, z ≠ (i : Int) → (z ∈ y.N ↔ z ∈ x.N)) (o : ∀ z : Int, z ≠ (i : Int) → (z ∈ y.O ↔ z ∈ x.O))
    (ni : (i : Int) ∈ y.N ↔ y.T i = true ∧ (y.F i).p = 1) (oi : (i : Int) ∈ y.O ↔ y.T i = true ∧ (y.F i).p = 2) (len : lenQ y ≤ 512) : y.Ok where
  hc := hc
  ls := ls
  new := fun j hj => by
    by_cases e : j = i
    · subst e; exact ni
    · rw [n j (by omega), hT j e, hF j e]; exact h.new j hj
  old := fun j hj => by
    by_cases e : j = i
    · subst e; exact oi
    · rw [o j (by omega), hT j e, hF j e]; exact h.old j hj
  is := fun j hj => by
    by_cases e : j = i
    · subst e; exact fl
    · rw [hT j e, hF j e]; exact h.is j hj
  no := fun j hj => by
    by_cases e : j = i
    · subst e; exact go
    · rw [hT j e, hF j e]; exact h.no j hj
  len := len
/-- A flow that is there goes to another place. -/
theorem Qm.Ok.put {x y : Qm} (h : x.Ok) {i : Nat} (hi : i < 8) (hF : ∀ j : Nat, j ≠ i → y.F j = x.F j) (hT : ∀ j : Nat, y.T j = x.T j) (hc : y.c = x.c) (ht : x.T i = true)
    (fl : (y.F i).Ok i) (hn : y.N = if (y.F i).p = 1 then x.N.erase (i : Int) ++ [(i : Int)] else x.N.erase (i : Int)) (ho : y.O = if (y.F i).p = 2 then x.O.erase (i : Int) ++ [(i : Int)] else x.O.erase (i : Int))
    (hq : (y.F i).q.length ≤ (x.F i).q.length) : y.Ok := by
  have hz : (0 : Int) ≤ (i : Int) ∧ (i : Int) < 8 := by omega
  have hg := h.ls.gone (i : Int)
  rw [List.mem_append, not_or] at hg
  refine h.turn hi hF (fun j _ => hT j) (hc ▸ h.hc) (fun _ => fl) (fun e => ?_) ?_ (fun z hzi => ?_) (fun z hzi => ?_) ?_ ?_ ?_
  · rw [hT, ht] at e; cases e
  · rw [hn, ho]; exact h.ls.put hz _
  · rw [hn]; split
    · rw [List.mem_append, List.mem_erase_of_ne hzi, List.mem_singleton]; exact or_iff_left hzi
    · exact List.mem_erase_of_ne hzi
  · rw [ho]; split
    · rw [List.mem_append, List.mem_erase_of_ne hzi, List.mem_singleton]; exact or_iff_left hzi
    · exact List.mem_erase_of_ne hzi
  · rw [hn, hT, ht]; split
    · rename_i e; simp [e]
    · rename_i e; simp [e, hg.1]
  · rw [ho, hT, ht]; split
    · rename_i e; simp [e]
    · rename_i e; simp [e, hg.2]
  · have := lenQ_up hi hF
    have := h.len
    omega
end Go.Proofs.Ytnljjdfajmjdjaa
