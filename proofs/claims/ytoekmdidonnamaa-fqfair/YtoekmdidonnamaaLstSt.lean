/-
  Two lines of sockets, as lists; how they lie in memory. Conditions: none.
-/
import Derived.Test.YtoekmdidonnamaaNum
import Derived.Test.YtoekmdidonnamaaRoom
import Derived.Test.YtoekmdidonnamaaChecked
import Derived.Lib.SlicesCompact
import Derived.Lib.SlicesDelete
import Derived.Lib.SliceRun
import Derived.Laws.IdiomCopy
namespace Go.Proofs.Ytoekmdidonnamaa
open Go.RowKit
set_option maxRecDepth 100000

/-! ### Blocks, many cells at once -/
theorem Whole.puts {g : Nat} {t : TypeId} : ∀ (vs : List Value) (o : Nat) {w : World} {cs : Array Value}, Whole w g t cs → Whole (w.setCells g o vs) g t (Lib.lay cs o vs)
  | [], _, _, _, h => h
  | v :: vs, o, _, _, h => Whole.puts vs (o + 1) (h.put o v)
theorem Keep.setCells {S : Nat → Prop} {g : Nat} (hg : S g) : ∀ (vs : List Value) (o : Nat) {w w' : World}, Keep S w w' → Keep S w (w'.setCells g o vs)
  | [], _, _, _, h => h
  | v :: vs, o, _, _, h => Keep.setCells hg vs (o + 1) (h.setCell (p := ⟨g, o, none⟩) (.inl hg) v)
/-- What lies in an array behind a run laid into it. -/
theorem lay_at (vs : List Value) (cs : Array Value) (o j : Nat) (h : o + vs.length ≤ cs.size) : (Lib.lay cs o vs)[j]? = if o ≤ j ∧ j < o + vs.length then vs[j - o]? else cs[j]? := by
  rw [Lib.lay_get? _ _ _ _ h]

/-! ### A line -/
/-- What a line of sockets holds in its j-th cell. -/
def lineV (N : List Int) (j : Nat) : Value := if j < 8 then .int .i64 (N.getD j 0) else .int .i64 (N.length : Int)
/-- The nine cells from off on are the line N. -/
def LineC (cs : Array Value) (off : Nat) (N : List Int) : Prop := ∀ j, j < 9 → cs[off + j]? = some (lineV N j)
/-- All cells but the nine from off on are as they were. -/
def Else (off : Nat) (cs cs' : Array Value) : Prop := cs'.size = cs.size ∧ ∀ j, j < off ∨ off + 9 ≤ j → cs'[j]? = cs[j]?
theorem Else.refl (off : Nat) (cs : Array Value) : Else off cs cs := ⟨rfl, fun _ _ => rfl⟩
theorem Else.trans {off : Nat} {a b c : Array Value} (h : Else off a b) (k : Else off b c) : Else off a c := ⟨k.1.trans h.1, fun j hj => (k.2 j hj).trans (h.2 j hj)⟩
theorem LineC.els {off o : Nat} {cs cs' : Array Value} {N : List Int} (h : LineC cs o N) (k : Else off cs cs') (ho : o + 9 ≤ off ∨ off + 9 ≤ o) : LineC cs' o N := fun j hj => (k.2 _ (by omega)).trans (h j hj)
theorem LineC.count {cs : Array Value} {off : Nat} {N : List Int} (h : LineC cs off N) : cs[off + 8]? = some (.int .i64 (N.length : Int)) := (h 8 (by omega)).trans (by simp [lineV])
theorem LineC.cell {cs : Array Value} {off j : Nat} {N : List Int} (h : LineC cs off N) (hj : j < 8) : cs[off + j]? = some (.int .i64 (N.getD j 0)) := (h j (by omega)).trans (by simp [lineV, hj])
theorem LineC.room {cs : Array Value} {off : Nat} {N : List Int} (h : LineC cs off N) : off + 9 ≤ cs.size := by
  have := (Array.getElem?_eq_some_iff.1 (h 8 (by omega))).1; omega
theorem LineC.of {cs : Array Value} {off : Nat} {N : List Int} (h : ∀ j, j < 8 → cs[off + j]? = some (.int .i64 (N.getD j 0))) (hc : cs[off + 8]? = some (.int .i64 (N.length : Int))) : LineC cs off N := fun j hj => by
  by_cases e : j < 8
  · rw [h j e]; simp [lineV, e]
  · obtain rfl : j = 8 := by omega
    rw [hc]; simp [lineV]

/-! ### Two lines -/
/-- The two lines: the new one, and the old one. -/
structure LsC (cs : Array Value) (N O : List Int) : Prop where
  size : cs.size = 18
  new : LineC cs 0 N
  old : LineC cs 9 O
/-- The block g is lists with those lines. -/
def LsAt (w : World) (g : Nat) (N O : List Int) : Prop := ∃ cs, Whole w g 70 cs ∧ LsC cs N O
theorem LsAt.lt {w : World} {g : Nat} {N O : List Int} (h : LsAt w g N O) : g < w.heap.size := by obtain ⟨_, h, _⟩ := h; exact h.lt
theorem LsAt.keep {S : Nat → Prop} {w w' : World} {g : Nat} {N O : List Int} (h : LsAt w g N O) (hk : Keep S w w') (hs : ¬ S g) : LsAt w' g N O := by
  obtain ⟨cs, h, hc⟩ := h; exact ⟨cs, h.keep hk hs, hc⟩
/-- What an array of eighteen cells is that holds two empty lines. -/
def zero18 : Array Value := #[.int .i64 0, .int .i64 0, .int .i64 0, .int .i64 0, .int .i64 0, .int .i64 0, .int .i64 0, .int .i64 0, .int .i64 0, .int .i64 0, .int .i64 0, .int .i64 0, .int .i64 0, .int .i64 0, .int .i64 0, .int .i64 0, .int .i64 0, .int .i64 0]
theorem zero18_ls : LsC zero18 [] [] := by
  refine ⟨rfl, fun j hj => ?_, fun j hj => ?_⟩
  all_goals
    have : j = 0 ∨ j = 1 ∨ j = 2 ∨ j = 3 ∨ j = 4 ∨ j = 5 ∨ j = 6 ∨ j = 7 ∨ j = 8 := by omega
    rcases this with rfl | rfl | rfl | rfl | rfl | rfl | rfl | rfl | rfl <;> rfl

/-- What may be in lists: sockets, each once. -/
structure LsOk (N O : List Int) : Prop where
  all : ∀ x ∈ N ++ O, 0 ≤ x ∧ x < 8
  once : (N ++ O).Nodup

theorem nodup_le : ∀ (m : Nat) {l : List Int}, l.Nodup → (∀ x ∈ l, 0 ≤ x ∧ x < (m : Int)) → l.length ≤ m
  | 0, [], _, _ => Nat.le_refl _
  | 0, x :: _, _, h => by have := h x (List.mem_cons_self ..); omega
  | m + 1, l, hn, h => by
    by_cases e : (m : Int) ∈ l
    · have h2 := nodup_le m (hn.erase (m : Int)) (fun x hx => by
        have h3 := hn.mem_erase_iff.1 hx
        have := h x h3.2
        have := h3.1
        omega)
      rw [List.length_erase_of_mem e] at h2
      omega
    · have h2 := nodup_le m hn (fun x hx => by
        have := h x hx
        have : x ≠ (m : Int) := fun e' => e (e' ▸ hx)
        omega)
      omega
theorem LsOk.len {N O : List Int} (h : LsOk N O) : N.length + O.length ≤ 8 := by
  have := nodup_le 8 h.once (fun x hx => by have := h.all x hx; omega)
  simpa using this
theorem LsOk.nil : LsOk [] [] := ⟨fun _ h => (by cases h), List.nodup_nil⟩
theorem LsOk.len1 {N O : List Int} (h : LsOk N O) : N.length ≤ 8 := by have := h.len; omega
theorem LsOk.len2 {N O : List Int} (h : LsOk N O) : O.length ≤ 8 := by have := h.len; omega
/-- One that is in none leaves room. -/
theorem LsOk.room {N O : List Int} (h : LsOk N O) {s : Int} (hs : 0 ≤ s ∧ s < 8) (hn : s ∉ N ++ O) : LsOk (s :: N) O ∧ N.length + O.length < 8 := by
  have h2 : LsOk (s :: N) O := ⟨fun x hx => by
    rcases List.mem_cons.1 hx with rfl | hx
    · exact hs
    · exact h.all x hx, List.nodup_cons.2 ⟨hn, h.once⟩⟩
  have := h2.len
  simp at this
  exact ⟨h2, by omega⟩
theorem LsOk.perm {N O N' O' : List Int} (h : LsOk N O) (p : (N' ++ O').Perm (N ++ O)) : LsOk N' O' := ⟨fun x hx => h.all x (p.mem_iff.1 hx), p.nodup_iff.2 h.once⟩
theorem LsOk.sub {N O N' O' : List Int} (h : LsOk N O) (p : (N' ++ O').Sublist (N ++ O)) : LsOk N' O' := ⟨fun x hx => h.all x (p.subset hx), h.once.sublist p⟩
theorem LsOk.pushNew {N O : List Int} (h : LsOk N O) {s : Int} (hs : 0 ≤ s ∧ s < 8) (hn : s ∉ N ++ O) : LsOk (N ++ [s]) O :=
  (h.room hs hn).1.perm (by rw [List.append_assoc]; exact List.perm_middle)
theorem LsOk.pushOld {N O : List Int} (h : LsOk N O) {s : Int} (hs : 0 ≤ s ∧ s < 8) (hn : s ∉ N ++ O) : LsOk N (O ++ [s]) :=
  (h.room hs hn).1.perm (by rw [← List.append_assoc]; exact List.perm_append_comm)
theorem LsOk.erase {N O : List Int} (h : LsOk N O) (s : Int) : LsOk (N.erase s) (O.erase s) := h.sub (List.Sublist.append List.erase_sublist List.erase_sublist)

/-! ### What the document says -/
def isSock (s : Int) : Bool := decide (0 ≤ s ∧ s < 8)
def placeV (N O : List Int) (s : Int) : Int := if s ∈ N then 1 else if s ∈ O then 2 else 0
def pushV (N O : List Int) (s : Int) : Int := if s < 0 ∨ 8 ≤ s then 8 else if s ∈ N ∨ s ∈ O then 6 else 0
def pushN (N O : List Int) (s : Int) (f : Bool) : List Int := if pushV N O s = 0 ∧ f = true then N ++ [s] else N
def pushO (N O : List Int) (s : Int) (f : Bool) : List Int := if pushV N O s = 0 ∧ f = false then O ++ [s] else O
def headS (N O : List Int) : Int := (N ++ O).headD 0
def headF (N _O : List Int) : Bool := !N.isEmpty
def headB (N O : List Int) : Bool := !(N ++ O).isEmpty
def dropN (N : List Int) : List Int := N.tail
def dropO (N O : List Int) : List Int := if N.isEmpty then O.tail else O
def backO (N O : List Int) : List Int := if N.isEmpty then (match O with | [] => [] | x :: r => r ++ [x]) else O ++ [N.headD 0]
theorem placeV_ne {N O : List Int} {s : Int} (h : s ∉ N ++ O) : placeV N O s = 0 := by
  rw [List.mem_append, not_or] at h
  unfold placeV; rw [if_neg h.1, if_neg h.2]
theorem placeV_eq {N O : List Int} {s : Int} : placeV N O s = 0 ↔ s ∉ N ++ O := by
  unfold placeV
  rw [List.mem_append]
  by_cases h1 : s ∈ N <;> by_cases h2 : s ∈ O <;> simp [h1, h2]
theorem LsOk.push {N O : List Int} (h : LsOk N O) (s : Int) (f : Bool) : LsOk (pushN N O s f) (pushO N O s f) := by
  unfold pushN pushO
  by_cases h0 : pushV N O s = 0
  · have hs : 0 ≤ s ∧ s < 8 := by
      unfold pushV at h0
      by_cases h1 : s < 0 ∨ 8 ≤ s
      · rw [if_pos h1] at h0; cases h0
      · omega
    have hn : s ∉ N ++ O := by
      unfold pushV at h0
      rw [if_neg (by omega)] at h0
      by_cases h1 : s ∈ N ∨ s ∈ O
      · rw [if_pos h1] at h0; cases h0
      · rwa [List.mem_append]
    cases f
    · simp only [h0, and_true, if_true, Bool.false_eq_true, and_false, if_false]
      exact h.pushOld hs hn
    · simp only [h0, and_true, if_true, Bool.true_eq_false, and_false, if_false]
      exact h.pushNew hs hn
  · simp only [h0, false_and, if_false]
    exact h
theorem LsOk.drop {N O : List Int} (h : LsOk N O) : LsOk (dropN N) (dropO N O) := by
  refine h.sub ?_
  cases N with
  | nil => exact List.tail_sublist O
  | cons x r => exact List.sublist_cons_self x (r ++ O)
theorem LsOk.back {N O : List Int} (h : LsOk N O) : LsOk (dropN N) (backO N O) := by
  refine h.perm ?_
  cases N with
  | nil =>
    cases O with
    | nil => exact List.Perm.refl _
    | cons x r => exact List.perm_append_singleton x r
  | cons x r =>
    show (r ++ (O ++ [x])).Perm (x :: (r ++ O))
    rw [← List.append_assoc]
    exact List.perm_append_singleton x (r ++ O)
/-- The head taken out by its number. -/
theorem erase_head {N O : List Int} (hok : LsOk N O) (hb : headB N O = true) : N.erase (headS N O) = dropN N ∧ (if N.isEmpty then O.erase (headS N O) else O) = dropO N O := by
  cases N with
  | nil =>
    cases O with
    | nil => cases hb
    | cons x r => exact ⟨rfl, List.erase_cons_head ..⟩
  | cons x r => exact ⟨List.erase_cons_head .., rfl⟩
end Go.Proofs.Ytoekmdidonnamaa
