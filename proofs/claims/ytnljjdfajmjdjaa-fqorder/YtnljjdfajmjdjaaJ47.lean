/-
  A slice of numbers of the call's own, as a thing among others in memory. Conditions: none.
  An array of eight slices of numbers in a block of its own, each slice with a row of its own. Conditions: none.
  An append as one operation of a region that draws its order. No program is spoken of. Conditions: those of the theorem.
  canterhelp.Plain tells whether two lists of numbers are alike. Conditions: the lists lie in memory as slices do.
-/
import Derived.Test.YtnljjdfajmjdjaaJ01
import Derived.Test.YtnljjdfajmjdjaaChecked
import Derived.Test.YtnljjdfajmjdjaaJ02
import Derived.ProofKit
import Derived.OpenShut
import Derived.WalkSpells
import Derived.WalkLawsBesides
import Derived.LoopTactic
import Derived.OwnWalk
import Derived.Deep.QuietTactic
import Derived.BigQuiet
import Derived.Deep.Draws
namespace Go.Proofs.Ytnljjdfajmjdjaa
open Go.ChangeShapes Go.WideShapes Go.ChangeAt Go.RowKit
set_option maxRecDepth 100000

theorem Try.infoUR : (Try.prog.info? 22).map (fun i => (i.zero, i.size, i.bytes)) = some (some (.int .u64 0), 1, 8) := by kernel_rfl
theorem Try.partsUR : ∃ i : TypeInfo, Try.prog.info? 22 = some i ∧ i.zero = some (.int .u64 0) ∧ i.size = 1 ∧ i.bytes = 8 := by
  have h := Try.infoUR
  cases hi : Try.prog.info? 22 with
  | none => rw [hi] at h; cases h
  | some i =>
    rw [hi] at h
    simp at h
    exact ⟨i, rfl, h.1, h.2.1, h.2.2⟩
def uvs (l : List Int) : List Value := l.map fun i => .int .u64 i
theorem uvs_len (l : List Int) : (uvs l).length = l.length := List.length_map _
theorem uvs_app (l : List Int) (i : Int) : uvs l ++ [.int .u64 i] = uvs (l ++ [i]) := by simp [uvs]
theorem uvs_one (l : List Int) : ∀ u ∈ uvs l, u.oneCell' = true := fun u hu => by simp only [uvs, List.mem_map] at hu; obtain ⟨b, _, rfl⟩ := hu; rfl
/-- v holds what is listed in l, in a row of its own, or is nil. -/
def uvsT (v : Value) (l : List Int) : Thing := rowT v 22 1 l.length (uvs l)
section
variable {w : World} {v : Value} {l : List Int}
theorem uvs_nil (w : World) : (uvsT (.slice none 0 0) []).at_ w := World.ownsRow_nil _ _ _ _
theorem uvs_shape (h : (uvsT v l).at_ w) : ∃ a cap, v = .slice a l.length cap := by
  rcases (show w.ownsRow 0 22 1 v l.length (uvs l) from h).2 with ⟨rfl, h0⟩ | ⟨g, cap, cur, rfl, _⟩
  · exact ⟨none, 0, by rw [h0]⟩
  · exact ⟨_, cap, rfl⟩
theorem uvs_get {a : Option Addr} {n cap i : Nat} {x : Int} (h : (uvsT (.slice a n cap) l).at_ w) (hn : n = l.length) (hx : l[i]? = some x) :
    ∃ r, a = some ⟨r, 0, none⟩ ∧ w.cell? ⟨r, i, none⟩ = some (.int .u64 x) := by
  have h' : w.ownsRow 0 22 1 (.slice a n cap) l.length (uvs l) := h
  have hi := (List.getElem?_eq_some_iff.1 hx).1
  rcases h'.2 with ⟨e, h0⟩ | ⟨g, cap', cur, e, _⟩
  · omega
  · cases e
    exact ⟨g, rfl, by rw [World.ownsRow.cellAt h' i (by omega)]; simp [uvs, hx]⟩
end
/-- Another one appended. -/
theorem uvs_more {w' : World} {v' : Value} {l : List Int} {x : Int} (h : w'.ownsRow 0 22 1 v' (l.length + 1) (uvs l ++ [.int .u64 x])) : (uvsT v' (l ++ [x])).at_ w' := by
  show w'.ownsRow 0 22 1 v' (l ++ [x]).length (uvs (l ++ [x]))
  rw [List.length_append, List.length_singleton, ← uvs_app]
  exact h
end Go.Proofs.Ytnljjdfajmjdjaa
namespace Go.Proofs.Ytnljjdfajmjdjaa
open Go.RowKit
set_option maxRecDepth 100000

def arC (v : Nat → Value) : Array Value := #[v 0, v 1, v 2, v 3, v 4, v 5, v 6, v 7]
theorem arC_get (v : Nat → Value) {k : Nat} (hk : k < 8) : (arC v)[k]? = some (v k) := by
  match k, hk with
  | 0, _ => rfl
  | 1, _ => rfl
  | 2, _ => rfl
  | 3, _ => rfl
  | 4, _ => rfl
  | 5, _ => rfl
  | 6, _ => rfl
  | 7, _ => rfl
theorem arC_set (v : Nat → Value) {k : Nat} {u : Value} (hk : k < 8) : (arC v).setIfInBounds k u = arC (upF v k u) := by
  match k, hk with
  | 0, _ => rfl
  | 1, _ => rfl
  | 2, _ => rfl
  | 3, _ => rfl
  | 4, _ => rfl
  | 5, _ => rfl
  | 6, _ => rfl
  | 7, _ => rfl
structure ArrAt (w : World) (P : Nat) (v : Nat → Value) (l : Nat → List Int) : Prop where
  whole : Whole w P 66 (arC v)
  q : ∀ i, i < 8 → Owns w 22 (v i) (uvs (l i))
  ap : ∀ i j, i < 8 → j < 8 → i ≠ j → ∀ k, (v i).ownBlock = some k → (v j).ownBlock ≠ some k
def ArrOwn (P : Nat) (v : Nat → Value) (k : Nat) : Prop := k = P ∨ ∃ i, i < 8 ∧ (v i).ownBlock = some k
section
variable {w w' w1 : World} {P : Nat} {v : Nat → Value} {l : Nat → List Int} {S : Nat → Prop}
theorem ArrAt.keep (h : ArrAt w P v l) (hk : Keep S w w') (hs : ∀ k, ArrOwn P v k → ¬ S k) : ArrAt w' P v l :=
  ⟨h.whole.keep hk (hs P (.inl rfl)), fun i hi => (h.q i hi).keep hk fun k e => hs k (.inr ⟨i, hi, e⟩), h.ap⟩
theorem ArrAt.lt (h : ArrAt w P v l) {k : Nat} (hk : ArrOwn P v k) : k < w.heap.size := by
  rcases hk with rfl | ⟨i, hi, e⟩
  · exact h.whole.lt
  · exact (h.q i hi).lt e
def arrT (P : Nat) (v : Nat → Value) (l : Nat → List Int) : Thing := ⟨fun w => ArrAt w P v l, ArrOwn P v, fun h hk hs => h.keep hk hs, fun h e => h.lt e⟩
theorem ArrAt.ne (h : ArrAt w P v l) {i : Nat} (hi : i < 8) : (v i).ownBlock ≠ some P := (h.q i hi).ne h.whole (by decide)
theorem ArrAt.new (h : Whole w P 66 (arC fun _ => .slice none 0 0)) : ArrAt w P (fun _ => .slice none 0 0) (fun _ => []) :=
  ⟨h, fun _ _ => Owns.nil _ _, fun _ _ _ _ _ k e => by cases e⟩
/-- One slice has one more. -/
theorem ArrAt.more (h : ArrAt w P v l) {i : Nat} (hi : i < 8) {v' : Value} {x : Int} (ho : Owns w1 22 v' (uvs (l i) ++ [.int .u64 x])) (hk : Keep (fun k => (v i).ownBlock = some k) w w1) (hn : ∀ k, v'.ownBlock = some k → (v i).ownBlock = some k ∨ w.heap.size ≤ k) :
    ArrAt (w1.setCell ⟨P, i, none⟩ v') P (upF v i v') (upF l i (l i ++ [x])) ∧ Keep (ArrOwn P v) w (w1.setCell ⟨P, i, none⟩ v') ∧ ∀ k, ArrOwn P (upF v i v') k → ArrOwn P v k ∨ w.heap.size ≤ k := by
  have hP : ¬ (v i).ownBlock = some P := h.ne hi
  have hw1 : Whole w1 P 66 (arC v) := h.whole.keep hk hP
  have hv' : v'.ownBlock ≠ some P := fun e => by
    rcases hn P e with a | a
    · exact hP a
    · have := h.whole.lt; omega
  refine ⟨⟨by have := hw1.put i v'; rwa [arC_set v hi] at this, fun j hj => ?_, fun a b ha hb hab k e e2 => ?_⟩, (hk.mono fun k e => .inr ⟨i, hi, e⟩).setCell (p := ⟨P, i, none⟩) (.inl (.inl rfl)) v', fun k e => ?_⟩
  · by_cases e : j = i
    · subst e
      rw [upF_at, upF_at, ← uvs_app]
      exact ho.far (p := ⟨P, j, none⟩) hv' v'
    · rw [upF_ne _ _ e, upF_ne _ _ e]
      exact ((h.q j hj).keep hk fun k e1 e2 => h.ap j i hj hi e k e1 e2).far (p := ⟨P, i, none⟩) (h.ne hj) v'
  · by_cases ea : a = i
    · subst ea
      rw [upF_at] at e
      rw [upF_ne _ _ (fun h => hab h.symm)] at e2
      rcases hn k e with c | c
      · exact h.ap a b ha hb hab k c e2
      · have := (h.q b hb).lt e2; omega
    · rw [upF_ne _ _ ea] at e
      by_cases eb : b = i
      · subst eb
        rw [upF_at] at e2
        rcases hn k e2 with c | c
        · exact h.ap a b ha hb hab k e c
        · have := (h.q a ha).lt e; omega
      · rw [upF_ne _ _ eb] at e2
        exact h.ap a b ha hb hab k e e2
  · rcases e with e | ⟨j, hj, e⟩
    · exact .inl (.inl e)
    · by_cases ej : j = i
      · subst ej
        rw [upF_at] at e
        exact (hn k e).imp (fun c => .inr ⟨j, hj, c⟩) id
      · rw [upF_ne _ _ ej] at e
        exact .inl (.inr ⟨j, hj, e⟩)
/-- A slice of numbers read. -/
theorem Owns.rdu {a : Option Addr} {n c : Nat} {l : List Int} (h : Owns w 22 (.slice a n c) (uvs l)) : Rd .u64 w a l := by
  intro i hi
  obtain ⟨g, cap, e⟩ := h.pos (by rw [uvs_len]; exact Nat.lt_of_le_of_lt (Nat.zero_le _) hi)
  cases e
  refine ⟨g, 0, rfl, h.lt rfl, ?_⟩
  rw [Nat.zero_add, h.cell i (by rw [uvs_len]; exact hi)]
  simp [uvs, hi]
end
end Go.Proofs.Ytnljjdfajmjdjaa
namespace Go.Proofs.Ytnljjdfajmjdjaa
open Go.RowKit
set_option maxRecDepth 100000

theorem oper_append_owns {P : Program} {w : World} {o : Oper} {a : Act} {K : Act → World → Prop} {Q : Exit → Act → World → Prop} (s x : Operand) (t : TypeId)
    (ho : o.op = .call { callee := .builtin .append, args := #[s, x], argTypes := #[t, t] })
    (e : TypeId) (i : TypeInfo) (z : Value) (bytes : Nat) (ht : P.underlying t = some (.slice e)) (hi : P.info? e = some i) (hz : i.zero = some z)
    (hsize : i.size = 1) (hby : i.bytes = bytes) (hzs : z.cells.size = 1) (v : Value) (xs : List Value) (hs : a.eval s = v) (hown : Owns w e v xs)
    (src : Option Addr) (m c : Nat) (news : List Value) (hx : a.eval x = .slice src m c) (hl : news.length = m) (hn : src = none → m = 0 ∧ c = 0) (hnews : ∀ a, src = some a → ∀ j u, news[j]? = some u → w.cell? (a.add j) = some u) (h1 : ∀ u ∈ news, u.oneCell' = true)
    (h63 : xs.length + m ≤ maxLen) (hbytes : (xs.length + m) * bytes ≤ 140737488355328)
    (h : ∀ v' w', Owns w' e v' (xs ++ news) → Keep (fun k => v.ownBlock = some k) w w' → (∀ k, v'.ownBlock = some k → v.ownBlock = some k ∨ w.heap.size ≤ k) → (v' = .slice none 0 0 ↔ v = .slice none 0 0 ∧ m = 0) → K (a.put o.dst v') w') : Oper.wp P o a w K Q := by
  obtain ⟨v', w', hr, h2, h3, h4, h5⟩ := run_append_owns (P := P) w t o.type e i z bytes ht hi hz hsize hby hzs v xs hown src m c news hl hn hnews h1 h63 hbytes
  unfold Oper.wp execOp
  simp only [ho, resolve, invoke, builtin, Sem.run_bind, Sem.run_pure, Result.andThen_ok, List.map_toArray, List.map_cons, List.map_nil, hs, hx, hr]
  exact h v' w' h2 h3 h4 h5
end Go.Proofs.Ytnljjdfajmjdjaa
namespace Go.Proofs.Ytnljjdfajmjdjaa
open Go.RowKit
set_option maxRecDepth 100000

theorem eq_any (x y : Int) (w : World) :
    Calls Try.prog 56 #[.int .u64 x, .int .u64 y] w fun e w' => e = .returned (.bool (x == y)) ∧ w = w' := by
  go_enter Try.func56, Try.ntmps56
  go_wp2
  go_ret
  exact ⟨rfl, rfl⟩

theorem eq_quiet (x y : Int) (w : World) :
    Calls Try.prog 56 #[.int .u64 x, .int .u64 y] w fun e w' => e = .returned (.bool (x == y)) ∧ w' = w :=
  (eq_any x y w).mono fun _ _ ⟨he, hw⟩ => ⟨he, hw.symm⟩

theorem drewN_below (w : World) (n : Nat) : Below w.heap.size w (w.drewN n) := ⟨rfl, rfl, rfl, Nat.le_refl _, fun _ _ => rfl⟩

set_option maxHeartbeats 400000 in
theorem same_any (a b : Option Addr) (ca cb : Nat) (zs : List Int) (w : World) (hlen : zs.length ≤ 1000) (ha : Rd .u64 w a zs) (hb : Rd .u64 w b zs) :
    Calls Try.prog 55 #[.slice a zs.length ca, .slice b zs.length cb, .func (.func 56) #[] #[]] w fun e w' => e = .returned (.bool true) ∧ ∃ n, w' = w.drewN n := by
  have HA := Lib.hid ha; have HB := Lib.hid hb; clear ha hb
  go_enter Try.func55, Try.ntmps55
  go_wp2
  go_loopw [7] (fun i wr => ∃ k n : Nat, k ≤ zs.length ∧ i = .int .i64 k ∧ wr = w.drewN n) (fun i _ => zs.length - (intOf i).toNat)
  case atStart => exact ⟨0, 0, Nat.zero_le _, rfl, rfl⟩
  case round =>
    obtain ⟨k, n, hk, rfl, hw⟩ := hrel
    by_cases hlt : k < zs.length
    · obtain ⟨b1, o1, rfl, _, c1⟩ := HA.out k hlt
      obtain ⟨b2, o2, rfl, _, c2⟩ := HB.out k hlt
      have g1 : wr.cell? ⟨b1, o1 + k, none⟩ = some (.int .u64 (zs.getD k 0)) := by rw [hw]; exact c1
      have g2 : wr.cell? ⟨b2, o2 + k, none⟩ = some (.int .u64 (zs.getD k 0)) := by rw [hw]; exact c2
      clear c1 c2
      have HW := Lib.hid hw
      clear HA HB hw
      generalize zs.getD k 0 = x at *
      have hx : (x == x) = true := by simp
      have hi1 : (k : Int) < (zs.length : Int) := by omega
      go_wp2
      go_quiet ((go_at_call 56; exact Calls.quiet_of_same (eq_quiet _ _ _)))
      go_wp2
      go_roundw
      case rel => exact ⟨k + 1, _, by omega, by go_num, by rw [HW.out, World.drewN_drewN]⟩
      case measure => simp [intOf]; omega
    · have HW := Lib.hid hw
      clear hw HA HB
      go_wp2
      go_ret
      exact ⟨rfl, n, HW.out⟩

theorem plainu_any (a b : Option Addr) (ca cb : Nat) (zs : List Int) (w : World) (hlen : zs.length ≤ 1000) (ha : Rd .u64 w a zs) (hb : Rd .u64 w b zs) :
    Calls Try.prog 32 #[.slice a zs.length ca, .slice b zs.length cb] w fun e w' => e = .returned (.bool true) ∧ ∃ n, w' = w.drewN n := by
  have HA := Lib.hid ha; have HB := Lib.hid hb; clear ha hb
  go_enter Try.func32, Try.ntmps32
  go_wp2_with fail
  refine (same_any a b ca cb zs w hlen HA.out HB.out).mono ?_
  rintro e w' ⟨rfl, n, hw⟩
  have HW := Lib.hid hw; clear hw
  go_wp2
  go_ret
  exact ⟨rfl, n, HW.out⟩

end Go.Proofs.Ytnljjdfajmjdjaa
