/-
  Words on memory: things that lie apart from each other, each with blocks of its own, all new since a world: a step that turns the blocks of one leaves all others. No program is spoken of. Conditions: none.
-/
import Derived.Test.YthkehdoolnjjeaaOwn
import Derived.Test.YthkehdoolnjjeaaOwnN
namespace Go.Proofs.Ythkehdoolnjjeaa
open Go.RowKit
set_option maxRecDepth 100000

/-- A thing in memory: what is said of a world, and which blocks are its own: as long as none of them turns, it is so still. -/
structure Thing where
  at_ : World → Prop
  own : Nat → Prop
  keep : ∀ {w w' : World} {S : Nat → Prop}, at_ w → Keep S w w' → (∀ k, own k → ¬ S k) → at_ w'
  lt : ∀ {w : World} {k : Nat}, at_ w → own k → k < w.heap.size
def Apart (s t : Thing) : Prop := ∀ k, s.own k → ¬ t.own k
theorem Apart.symm {s t : Thing} (h : Apart s t) : Apart t s := fun k ht hs => h k hs ht
/-- A block known whole. -/
def blkT (g : Nat) (t : TypeId) (cs : Array Value) : Thing := ⟨fun w => Whole w g t cs, fun k => k = g, fun h hk hs => h.keep hk (hs g rfl), fun h e => e ▸ h.lt⟩
theorem ownsRow_keep {w w' : World} {S : Nat → Prop} {e : TypeId} {sz n : Nat} {v : Value} {xs : List Value} (h : w.ownsRow 0 e sz v n xs) (hk : Keep S w w') (hs : ∀ k, v.ownBlock = some k → ¬ S k) : w'.ownsRow 0 e sz v n xs := by
  refine ⟨h.1, ?_⟩
  rcases h.2 with hn | ⟨g, cap, cur, rfl, h0, hgg, rest⟩
  · exact .inl hn
  · exact .inr ⟨g, cap, cur, rfl, h0, (hk.block g (Array.getElem?_eq_some_iff.1 hgg).1 (hs g rfl)).trans hgg, rest⟩
/-- A slice that has its row for itself, or nil. -/
def rowT (v : Value) (e : TypeId) (sz n : Nat) (xs : List Value) : Thing := ⟨fun w => w.ownsRow 0 e sz v n xs, fun k => v.ownBlock = some k, fun h hk hs => ownsRow_keep h hk hs, fun h e => (World.ownsRow.lt h _ e).2⟩

structure Room (wB w : World) (L : List Thing) : Prop where
  all : ∀ t ∈ L, t.at_ w
  lo : ∀ t ∈ L, ∀ k, t.own k → wB.heap.size ≤ k
  dis : L.Pairwise Apart
  bel : Below wB.heap.size wB w
section
variable {wB w w' : World} {L M : List Thing} {a b c t t' : Thing}
theorem Room.begin (w : World) : Room w w [] := ⟨fun _ h => by (cases h), fun _ h => by (cases h), List.Pairwise.nil, Below.refl _ _⟩
theorem Room.get (h : Room wB w L) (ht : t ∈ L) : t.at_ w := h.all t ht
theorem Room.get0 (h : Room wB w (t :: L)) : t.at_ w := h.all t (List.Mem.head _)
theorem Room.get1 (h : Room wB w (a :: t :: L)) : t.at_ w := h.all t (List.Mem.tail _ (List.Mem.head _))
theorem Room.get2 (h : Room wB w (a :: b :: t :: L)) : t.at_ w := h.all t (List.Mem.tail _ (List.Mem.tail _ (List.Mem.head _)))
theorem Room.get3 (h : Room wB w (a :: b :: c :: t :: L)) : t.at_ w := h.all t (List.Mem.tail _ (List.Mem.tail _ (List.Mem.tail _ (List.Mem.head _))))
theorem Room.perm (h : Room wB w L) (p : L.Perm M) : Room wB w M := ⟨fun t ht => h.all t (p.mem_iff.2 ht), fun t ht => h.lo t (p.mem_iff.2 ht), h.dis.perm p (fun k => k.symm), h.bel⟩
theorem Room.less (h : Room wB w L) (s : M.Sublist L) : Room wB w M := ⟨fun t ht => h.all t (s.subset ht), fun t ht => h.lo t (s.subset ht), h.dis.sublist s, h.bel⟩
theorem Room.tail (h : Room wB w (t :: L)) : Room wB w L := h.less (List.sublist_cons_self _ _)
theorem Room.kept (h : Room wB w L) (hk : Keep (fun _ => False) w w') : Room wB w' L :=
  ⟨fun t ht => t.keep (h.all t ht) hk (fun _ _ => id), h.lo, h.dis, h.bel.trans (hk.below h.bel.size (fun _ h => h.elim))⟩
theorem Room.drew (h : Room wB w L) : Room wB w.drew L := h.kept (Keep.refl _ _).drew
theorem Room.drewN (h : Room wB w L) (n : Nat) : Room wB (w.drewN n) L := h.kept ((Keep.refl _ _).drewN n)
theorem Room.alloc (h : Room wB w L) (o : Obj) : Room wB (w.alloc o) L := h.kept ((Keep.refl _ _).alloc o)
/-- A new thing. -/
theorem Room.add (h : Room wB w L) (ht : t.at_ w') (hk : Keep (fun _ => False) w w') (hn : ∀ k, t.own k → w.heap.size ≤ k) : Room wB w' (t :: L) := by
  have h' := h.kept hk
  refine ⟨fun s hs => ?_, fun s hs k hk' => ?_, List.pairwise_cons.2 ⟨fun s hs k hk' hk2 => ?_, h.dis⟩, h'.bel⟩
  · rcases List.mem_cons.1 hs with rfl | hs
    · exact ht
    · exact h'.all s hs
  · rcases List.mem_cons.1 hs with rfl | hs
    · exact Nat.le_trans h.bel.size (hn k hk')
    · exact h.lo s hs k hk'
  · have := s.lt (h.all s hs) hk2
    have := hn k hk'
    omega
theorem Room.box (h : Room wB w L) (ty : TypeId) (cs : Array Value) : Room wB (w.alloc (.cells cs ty)) (blkT w.heap.size ty cs :: L) :=
  h.add (t := blkT w.heap.size ty cs) (Whole.new w ty cs) ((Keep.refl _ _).alloc _) (fun k e => by subst e; exact Nat.le_refl _)
/-- .. behind the first. -/
theorem Room.box1 (h : Room wB w (a :: L)) (ty : TypeId) (cs : Array Value) : Room wB (w.alloc (.cells cs ty)) (a :: blkT w.heap.size ty cs :: L) := (h.box ty cs).perm (List.Perm.swap _ _ _)
theorem Room.box2 (h : Room wB w (a :: b :: L)) (ty : TypeId) (cs : Array Value) : Room wB (w.alloc (.cells cs ty)) (a :: b :: blkT w.heap.size ty cs :: L) := (h.box1 ty cs).perm (List.Perm.cons _ (List.Perm.swap _ _ _))
theorem Room.box3 (h : Room wB w (a :: b :: c :: L)) (ty : TypeId) (cs : Array Value) : Room wB (w.alloc (.cells cs ty)) (a :: b :: c :: blkT w.heap.size ty cs :: L) := (h.box2 ty cs).perm (List.Perm.cons _ (List.Perm.cons _ (List.Perm.swap _ _ _)))
/-- The first thing turns. -/
theorem Room.step0 (h : Room wB w (t :: L)) (ht : t'.at_ w') (hk : Keep t.own w w') (hn : ∀ k, t'.own k → t.own k ∨ w.heap.size ≤ k) : Room wB w' (t' :: L) := by
  have hd := List.pairwise_cons.1 h.dis
  have hlo := h.lo t (List.Mem.head _)
  refine ⟨fun s hs => ?_, fun s hs k hk' => ?_, List.pairwise_cons.2 ⟨fun s hs k hk' hk2 => ?_, hd.2⟩, h.bel.trans (hk.below h.bel.size hlo)⟩
  · rcases List.mem_cons.1 hs with rfl | hs
    · exact ht
    · exact s.keep (h.all s (List.Mem.tail _ hs)) hk (fun k hk1 hk2 => hd.1 s hs k hk2 hk1)
  · rcases List.mem_cons.1 hs with rfl | hs
    · rcases hn k hk' with hk1 | hk1
      · exact hlo k hk1
      · exact Nat.le_trans h.bel.size hk1
    · exact h.lo s (List.Mem.tail _ hs) k hk'
  · rcases hn k hk' with hk1 | hk1
    · exact hd.1 s hs k hk1 hk2
    · have := s.lt (h.all s (List.Mem.tail _ hs)) hk2
      omega
theorem Room.step1 (h : Room wB w (a :: t :: L)) (ht : t'.at_ w') (hk : Keep t.own w w') (hn : ∀ k, t'.own k → t.own k ∨ w.heap.size ≤ k) : Room wB w' (a :: t' :: L) :=
  ((h.perm (List.Perm.swap _ _ _)).step0 ht hk hn).perm (List.Perm.swap _ _ _)
theorem Room.step2 (h : Room wB w (a :: b :: t :: L)) (ht : t'.at_ w') (hk : Keep t.own w w') (hn : ∀ k, t'.own k → t.own k ∨ w.heap.size ≤ k) : Room wB w' (a :: b :: t' :: L) :=
  ((h.perm ((List.Perm.cons _ (List.Perm.swap _ _ _)).trans (List.Perm.swap _ _ _))).step0 ht hk hn).perm ((List.Perm.swap _ _ _).trans (List.Perm.cons _ (List.Perm.swap _ _ _)))
theorem Room.step3 (h : Room wB w (a :: b :: c :: t :: L)) (ht : t'.at_ w') (hk : Keep t.own w w') (hn : ∀ k, t'.own k → t.own k ∨ w.heap.size ≤ k) : Room wB w' (a :: b :: c :: t' :: L) := by
  have p : (a :: b :: c :: t :: L).Perm (t :: a :: b :: c :: L) := ((List.Perm.cons _ (List.Perm.cons _ (List.Perm.swap _ _ _))).trans (List.Perm.cons _ (List.Perm.swap _ _ _))).trans (List.Perm.swap _ _ _)
  have q : (t' :: a :: b :: c :: L).Perm (a :: b :: c :: t' :: L) := (List.Perm.swap _ _ _).trans ((List.Perm.cons _ (List.Perm.swap _ _ _)).trans (List.Perm.cons _ (List.Perm.cons _ (List.Perm.swap _ _ _))))
  exact ((h.perm p).step0 ht hk hn).perm q
/-- Two of the same room lie in different blocks. -/
theorem Room.ne01 {g k : Nat} (h : Room wB w (a :: b :: L)) (ha : a.own g) (hb : b.own k) : g ≠ k := fun e => (List.pairwise_cons.1 h.dis).1 b (List.Mem.head _) g ha (e ▸ hb)
/-- A thing that turns within its own blocks. -/
theorem own_same {own : Nat → Prop} {n : Nat} : ∀ k, own k → own k ∨ n ≤ k := fun _ h => .inl h
end
end Go.Proofs.Ythkehdoolnjjeaa
