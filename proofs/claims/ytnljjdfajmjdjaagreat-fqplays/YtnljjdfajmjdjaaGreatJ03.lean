/-
  The document's queue as plain numbers and lists: what holds of it all along (places and lists, credits, lengths), and that each call keeps it. No program is spoken of. Conditions: none.
  Segments, flows and a config as cells; a slice of segments in a row of its own. Conditions: none.
  A line of sockets: what is in it, one more behind all, one taken out. slices.Index, slices.Delete at []int. Conditions: the line lies in memory as a line does.
-/
import Derived.Test.YtnljjdfajmjdjaaGreatJ02
import Derived.Test.YtnljjdfajmjdjaaGreatJ01
import Derived.WalkSpells
import Derived.WalkLawsBesides
import Derived.LoopTactic
import Derived.OwnWalk
import Derived.Deep.QuietTactic
import Derived.BigQuiet
import Derived.BigRegion
import Derived.Deep.RegionLaw
import Derived.Deep.Draws
namespace Go.Proofs.YtnljjdfajmjdjaaGreat
open Go.RowKit
set_option maxRecDepth 100000

def U64 (n : Int) : Prop := 0 ≤ n ∧ n ≤ 18446744073709551615
theorem addS_fit {a b : Int} (ha : 0 ≤ a) (hb : 0 ≤ b) : U64 (addS a b) := by unfold addS U64; split <;> omega

/-- What a segment that is queued is. -/
structure Sg.Ok (s : Sg) (i : Nat) : Prop where
  hs : s.s = (i : Int)
  hf : U64 s.f
  hl : 1 ≤ s.l ∧ s.l ≤ 65536
  ht : U64 s.t
/-- What a flow that is there is. -/
structure Fl.Ok (f : Fl) (i : Nat) : Prop where
  hs : f.s = (i : Int)
  hc : -65536 ≤ f.c ∧ f.c ≤ 65536
  hp : 0 ≤ f.p ∧ f.p ≤ 3
  hn : U64 f.n
  hu : U64 f.u
  no : f.p ≠ 0 → f.u = 0
  em : f.p = 0 → f.q = []
  wt : f.p = 3 → f.q ≠ []
  hq : ∀ s ∈ f.q, s.Ok i
/-- What May says of a config. -/
structure Cf.Ok (c : Cf) : Prop where
  hq : 100 ≤ c.q ∧ c.q ≤ 65536
  hf : 100 ≤ c.f ∧ c.f ≤ 65536
  hl : 1 ≤ c.l ∧ c.l ≤ 512
  hw : 1 ≤ c.w ∧ c.w ≤ 512
  hh : 0 ≤ c.h ∧ c.h ≤ 4611686018427387904
  hr : U64 c.r
  hk : 1 ≤ c.k ∧ c.k ≤ 1073741824
  hm : 100 ≤ c.m ∧ c.m ≤ 9000
structure Qm.Ok (x : Qm) : Prop where
  hc : x.c.Ok
  ls : LsOk x.N x.O
  new : ∀ i : Nat, i < 8 → ((i : Int) ∈ x.N ↔ x.T i = true ∧ (x.F i).p = 1)
  old : ∀ i : Nat, i < 8 → ((i : Int) ∈ x.O ↔ x.T i = true ∧ (x.F i).p = 2)
  is : ∀ i : Nat, i < 8 → x.T i = true → (x.F i).Ok i
  no : ∀ i : Nat, i < 8 → x.T i = false → x.F i = Fl.zero
  len : lenQ x ≤ 512

/-! ### Lengths -/
theorem lenQ_eq (x : Qm) : lenQ x = (x.F 0).q.length + (x.F 1).q.length + (x.F 2).q.length + (x.F 3).q.length + (x.F 4).q.length + (x.F 5).q.length + (x.F 6).q.length + (x.F 7).q.length := by
  simp [lenQ, List.range_succ]; omega
theorem lenQ_same {x y : Qm} (h : ∀ i, i < 8 → (y.F i).q.length = (x.F i).q.length) : lenQ y = lenQ x := by
  rw [lenQ_eq, lenQ_eq, h 0 (by decide), h 1 (by decide), h 2 (by decide), h 3 (by decide), h 4 (by decide), h 5 (by decide), h 6 (by decide), h 7 (by decide)]
theorem lenQ_up {x y : Qm} {i : Nat} (hi : i < 8) (h : ∀ j : Nat, j ≠ i → y.F j = x.F j) : lenQ y + (x.F i).q.length = lenQ x + (y.F i).q.length := by
  rw [lenQ_eq, lenQ_eq]
  have h0 := h 0; have h1 := h 1; have h2 := h 2; have h3 := h 3; have h4 := h 4; have h5 := h 5; have h6 := h 6; have h7 := h 7
  match i, hi with
  | 0, _ => rw [h1 (by decide), h2 (by decide), h3 (by decide), h4 (by decide), h5 (by decide), h6 (by decide), h7 (by decide)]; omega
  | 1, _ => rw [h0 (by decide), h2 (by decide), h3 (by decide), h4 (by decide), h5 (by decide), h6 (by decide), h7 (by decide)]; omega
  | 2, _ => rw [h0 (by decide), h1 (by decide), h3 (by decide), h4 (by decide), h5 (by decide), h6 (by decide), h7 (by decide)]; omega
  | 3, _ => rw [h0 (by decide), h1 (by decide), h2 (by decide), h4 (by decide), h5 (by decide), h6 (by decide), h7 (by decide)]; omega
  | 4, _ => rw [h0 (by decide), h1 (by decide), h2 (by decide), h3 (by decide), h5 (by decide), h6 (by decide), h7 (by decide)]; omega
  | 5, _ => rw [h0 (by decide), h1 (by decide), h2 (by decide), h3 (by decide), h4 (by decide), h6 (by decide), h7 (by decide)]; omega
  | 6, _ => rw [h0 (by decide), h1 (by decide), h2 (by decide), h3 (by decide), h4 (by decide), h5 (by decide), h7 (by decide)]; omega
  | 7, _ => rw [h0 (by decide), h1 (by decide), h2 (by decide), h3 (by decide), h4 (by decide), h5 (by decide), h6 (by decide)]; omega
theorem lenQ_le {x : Qm} {i : Nat} (hi : i < 8) : (x.F i).q.length ≤ lenQ x := by
  have := lenQ_up (y := { x with F := upF x.F i Fl.zero }) hi (fun j hj => upF_ne _ _ hj)
  have e : ({ x with F := upF x.F i Fl.zero } : Qm).F i = Fl.zero := upF_at _ _ _
  rw [e] at this
  simp [Fl.zero] at this
  omega

/-! ### One flow turns -/
theorem Qm.Ok.turn {x y : Qm} (h : x.Ok) {i : Nat} (hi : i < 8) (hF : ∀ j : Nat, j ≠ i → y.F j = x.F j) (hT : ∀ j : Nat, j ≠ i → y.T j = x.T j) (hc : y.c.Ok)
    (fl : y.T i = true → (y.F i).Ok i) (go : y.T i = false → y.F i = Fl.zero) (ls : LsOk y.N y.O)
    (n : ∀ z : Int, z ≠ (i : Int) → (z ∈ y.N ↔ z ∈ x.N)) (o : ∀ z : Int, z ≠ (i : Int) → (z ∈ y.O ↔ z ∈ x.O))
    (ni : (i : Int) ∈ y.N ↔ y.T i = true ∧ (y.F i).p = 1) (oi : (i : Int) ∈ y.O ↔ y.T i = true ∧ (y.F i).p = 2) (len : lenQ y ≤ 512) : y.Ok where
  hc := hc
  ls := ls
  new := fun j hj => by
    by_cases e : j = i
    · subst e; exact ni
    · rw [n j (by omega), hT j e, hF j e]; exact h.new j hj
  old := fun j hj => by
    by_cases e : j = i
    · subst e; exact oi
    · rw [o j (by omega), hT j e, hF j e]; exact h.old j hj
  is := fun j hj => by
    by_cases e : j = i
    · subst e; exact fl
    · rw [hT j e, hF j e]; exact h.is j hj
  no := fun j hj => by
    by_cases e : j = i
    · subst e; exact go
    · rw [hT j e, hF j e]; exact h.no j hj
  len := len
/-- A flow that is there goes to another place. -/
theorem Qm.Ok.put {x y : Qm} (h : x.Ok) {i : Nat} (hi : i < 8) (hF : ∀ j : Nat, j ≠ i → y.F j = x.F j) (hT : ∀ j : Nat, y.T j = x.T j) (hc : y.c = x.c) (ht : x.T i = true)
    (fl : (y.F i).Ok i) (hn : y.N = if (y.F i).p = 1 then x.N.erase (i : Int) ++ [(i : Int)] else x.N.erase (i : Int)) (ho : y.O = if (y.F i).p = 2 then x.O.erase (i : Int) ++ [(i : Int)] else x.O.erase (i : Int))
    (hq : (y.F i).q.length ≤ (x.F i).q.length) : y.Ok := by
  have hz : (0 : Int) ≤ (i : Int) ∧ (i : Int) < 8 := by omega
  have hg := h.ls.gone (i : Int)
  rw [List.mem_append, not_or] at hg
  refine h.turn hi hF (fun j _ => hT j) (hc ▸ h.hc) (fun _ => fl) (fun e => ?_) ?_ (fun z hzi => ?_) (fun z hzi => ?_) ?_ ?_ ?_
  · rw [hT, ht] at e; cases e
  · rw [hn, ho]; exact h.ls.put hz _
  · rw [hn]; split
    · rw [List.mem_append, List.mem_erase_of_ne hzi, List.mem_singleton]; exact or_iff_left hzi
    · exact List.mem_erase_of_ne hzi
  · rw [ho]; split
    · rw [List.mem_append, List.mem_erase_of_ne hzi, List.mem_singleton]; exact or_iff_left hzi
    · exact List.mem_erase_of_ne hzi
  · rw [hn, hT, ht]; split
    · rename_i e; simp [e]
    · rename_i e; simp [e, hg.1]
  · rw [ho, hT, ht]; split
    · rename_i e; simp [e]
    · rename_i e; simp [e, hg.2]
  · have := lenQ_up hi hF
    have := h.len
    omega
end Go.Proofs.YtnljjdfajmjdjaaGreat
namespace Go.Proofs.YtnljjdfajmjdjaaGreat
open Go.RowKit
set_option maxRecDepth 100000

def Sg.cells (x : Sg) : List Value := [.int .i64 x.s, .int .u64 x.f, .int .i64 x.l, .int .u64 x.t, .bool x.a]
abbrev Sg.v (x : Sg) : Value := .agg #[.int .i64 x.s, .int .u64 x.f, .int .i64 x.l, .int .u64 x.t, .bool x.a]
theorem one_sg (c : Sg) : ∀ u ∈ c.cells, u.oneCell' = true := fun u hu => by
  simp only [Sg.cells, List.mem_cons, List.not_mem_nil, or_false] at hu
  rcases hu with rfl | rfl | rfl | rfl | rfl <;> rfl
def flatG : List Sg → List Value
  | [] => []
  | c :: cs => c.cells ++ flatG cs
theorem flatG_len : ∀ cs, (flatG cs).length = cs.length * 5
  | [] => rfl
  | c :: cs => by rw [flatG, List.length_append, flatG_len cs]; simp [Sg.cells]; omega
theorem flatG_app (cs : List Sg) (c : Sg) : flatG cs ++ c.cells = flatG (cs ++ [c]) := by
  induction cs with
  | nil => rfl
  | cons a cs ih => rw [flatG, List.append_assoc, ih]; rfl
theorem flatG_add (cs ds : List Sg) : flatG (cs ++ ds) = flatG cs ++ flatG ds := by
  induction cs with
  | nil => rfl
  | cons a cs ih => show a.cells ++ flatG (cs ++ ds) = _; rw [ih, flatG, List.append_assoc]
theorem flatG_get : ∀ (cs : List Sg) (i j : Nat) (c : Sg), cs[i]? = some c → j < 5 → (flatG cs)[i * 5 + j]? = c.cells[j]?
  | [], i, j, c, h, _ => by simp at h
  | a :: cs, 0, j, c, h, hj => by simp at h; subst h; rw [flatG, List.getElem?_append_left (by simp [Sg.cells]; omega)]; simp
  | a :: cs, i + 1, j, c, h, hj => by
    simp at h
    have := flatG_get cs i j c h hj
    rw [flatG, List.getElem?_append_right (by simp [Sg.cells]; omega), ← this]
    congr 1
    simp [Sg.cells]; omega
/-- v holds the segments l, in a row of its own, or is nil. E: the type of a segment. -/
def sgsT (E : TypeId) (v : Value) (l : List Sg) : Thing := rowT v E 5 l.length (flatG l)
section
variable {w w' : World} {E : TypeId} {v : Value} {l : List Sg}
theorem sgs_nil (w : World) (E : TypeId) : (sgsT E (.slice none 0 0) []).at_ w := World.ownsRow_nil _ _ _ _
theorem sgs_shape (h : (sgsT E v l).at_ w) : ∃ a cap, v = .slice a l.length cap := by
  rcases (show w.ownsRow 0 E 5 v l.length (flatG l) from h).2 with ⟨rfl, h0⟩ | ⟨g, cap, cur, rfl, _⟩
  · exact ⟨none, 0, by rw [h0]⟩
  · exact ⟨_, cap, rfl⟩
theorem sgs_get {a : Option Addr} {n cap i : Nat} {x : Sg} (h : (sgsT E (.slice a n cap) l).at_ w) (hn : n = l.length) (hx : l[i]? = some x) :
    ∃ r, a = some ⟨r, 0, none⟩ ∧ w.cell? ⟨r, i * 5, none⟩ = some (.int .i64 x.s) ∧ w.cell? ⟨r, i * 5 + 1, none⟩ = some (.int .u64 x.f) ∧ w.cell? ⟨r, i * 5 + 2, none⟩ = some (.int .i64 x.l) ∧ w.cell? ⟨r, i * 5 + 3, none⟩ = some (.int .u64 x.t) ∧ w.cell? ⟨r, i * 5 + 4, none⟩ = some (.bool x.a) := by
  have h' : w.ownsRow 0 E 5 (.slice a n cap) l.length (flatG l) := h
  have hi := (List.getElem?_eq_some_iff.1 hx).1
  rcases h'.2 with ⟨e, h0⟩ | ⟨g, cap', cur, e, _⟩
  · omega
  · cases e
    have hc : ∀ j, j < 5 → w.cell? ⟨g, i * 5 + j, none⟩ = x.cells[j]? := fun j hj => by
      rw [World.ownsRow.cellAt h' (i * 5 + j) (by omega), flatG_get l i j x hx hj]
    exact ⟨g, rfl, hc 0 (by omega), hc 1 (by omega), hc 2 (by omega), hc 3 (by omega), hc 4 (by omega)⟩
/-- Another one appended. -/
theorem sgs_more {v' : Value} {x : Sg} (h : w'.ownsRow 0 E 5 v' (l.length + 1) (flatG l ++ x.cells)) : (sgsT E v' (l ++ [x])).at_ w' := by
  show w'.ownsRow 0 E 5 v' (l ++ [x]).length (flatG (l ++ [x]))
  rw [List.length_append, List.length_singleton, ← flatG_app]
  exact h
end

/-! ### A flow, a config -/
def flV (v : Value) (f : Fl) : Nat → Value
  | 0 => .int .i64 f.s
  | 1 => .int .i64 f.c
  | 2 => .int .i64 f.p
  | 3 => .int .u64 f.n
  | 4 => .int .u64 f.u
  | _ => v
/-- A flow as a value; v: its slice. -/
abbrev Fl.v (v : Value) (f : Fl) : Value := .agg #[.int .i64 f.s, .int .i64 f.c, .int .i64 f.p, .int .u64 f.n, .int .u64 f.u, v]
def cfV (c : Cf) : Nat → Value
  | 0 => .int .i64 c.q
  | 1 => .int .i64 c.f
  | 2 => .int .i64 c.l
  | 3 => .int .i64 c.w
  | 4 => .int .u64 c.h
  | 5 => .int .u64 c.r
  | 6 => .bool c.d
  | 7 => .int .i64 c.k
  | _ => .int .i64 c.m
abbrev Cf.v (c : Cf) : Value := .agg #[.int .i64 c.q, .int .i64 c.f, .int .i64 c.l, .int .i64 c.w, .int .u64 c.h, .int .u64 c.r, .bool c.d, .int .i64 c.k, .int .i64 c.m]
end Go.Proofs.YtnljjdfajmjdjaaGreat
namespace Go.Proofs.YtnljjdfajmjdjaaGreat
open Go.RowKit
set_option maxRecDepth 100000

theorem Tryz.infoLs : (Tryz.prog.info? 3).map (fun i => (i.zero, i.size, i.bytes)) = some (some (.int .i64 0), 1, 8) := by kernel_rfl
theorem Tryz.partsLs : ∃ i : TypeInfo, Tryz.prog.info? 3 = some i ∧ i.zero = some (.int .i64 0) ∧ i.size = 1 ∧ i.bytes = 8 := by
  have h := Tryz.infoLs
  cases hi : Tryz.prog.info? 3 with
  | none => rw [hi] at h; cases h
  | some i =>
    rw [hi] at h
    simp at h
    exact ⟨i, rfl, h.1, h.2.1, h.2.2⟩

theorem in_any {Tb : TypeId} (g off : Nat) (cs : Array Value) (N : List Int) (w : World) (h : Whole w g Tb cs) (hl : LineC cs off N) (hn : N.length ≤ 8) :
    Calls Tryz.prog 91 #[.pointer (some ⟨g, off, none⟩)] w fun e w' => e = .returned (.slice (some ⟨g, off, none⟩) N.length 8) ∧ ∃ n, w' = w.drewN n := by
  have c8 := (h.cell (off + 8)).trans hl.count
  have hn' : (N.length : Int) ≤ 8 := by omega
  clear h hl
  go_enter Tryz.func91, Tryz.ntmps91
  go_wp2
  go_quiet (fail)
  go_wp2
  go_ret
  exact ⟨rfl, _, rfl⟩

set_option maxHeartbeats 400000 in
theorem lpush_any {Tb : TypeId} (g off : Nat) (cs : Array Value) (N : List Int) (x : Int) (w : World) (h : Whole w g Tb cs) (hl : LineC cs off N) (hn : N.length < 8) :
    Calls Tryz.prog 64 #[.pointer (some ⟨g, off, none⟩), .int .i64 x] w fun e w' => (∃ v, e = .returned v) ∧ ∃ cs', Whole w' g Tb cs' ∧ LineC cs' off (N ++ [x]) ∧ Else off cs cs' ∧ Keep (fun k => k = g) w w' := by
  have hr := hl.room
  obtain ⟨k, hk⟩ : ∃ k, k = N.length := ⟨_, rfl⟩
  have c8 : w.cell? ⟨g, off + 8, none⟩ = some (.int .i64 (k : Int)) := (h.cell (off + 8)).trans (by rw [hk]; exact hl.count)
  have ck := (h.cell (off + k)).trans (hl.cell (j := k) (by omega))
  have fk := h.free (off + k)
  have f8 := h.free (off + 8)
  have h1 := h.put (off + k) (.int .i64 x)
  have c8' := (h1.cell (off + 8)).trans ((Array.getElem?_setIfInBounds_ne (by omega)).trans (by rw [hl.count, ← hk]))
  have f8' := h1.free (off + 8)
  have hk8 : (k : Int) < 8 := by omega
  have hw : IntKind.i64.wrap ((k : Int) + 1) = (k : Int) + 1 := by rw [IntKind.wrap_i64]; omega
  have H := Lib.hid h; have HL := Lib.hid hl; have H1 := Lib.hid h1; have HK := Lib.hid hk; have HN := Lib.hid hn
  clear h hl h1 hk hn
  go_enter Tryz.func64, Tryz.ntmps64
  go_wp2
  go_region
  go_wp2
  go_end0
  have hk := HK.out
  refine ⟨⟨_, rfl⟩, _, (H1.out.put (off + 8) (.int .i64 ((k : Int) + 1))).drew, ?_, ?_, ?_⟩
  · refine LineC.of (fun j hj => ?_) ?_
    · rw [Array.getElem?_setIfInBounds_ne (by omega)]
      by_cases e : j = k
      · subst e
        rw [Array.getElem?_setIfInBounds_self_of_lt (by omega)]
        simp [hk]
      · rw [Array.getElem?_setIfInBounds_ne (by omega), HL.out.cell hj]
        by_cases e2 : j < N.length
        · simp [e2, List.getElem?_append_left]
        · rw [List.getD_eq_getElem?_getD, List.getD_eq_getElem?_getD, List.getElem?_eq_none (by omega), List.getElem?_eq_none (by simp; omega)]
    · rw [Array.getElem?_setIfInBounds_self_of_lt (by simp; omega)]
      simp [hk]
  · exact ⟨by simp, fun j hj => by rw [Array.getElem?_setIfInBounds_ne (by omega), Array.getElem?_setIfInBounds_ne (by omega)]⟩
  · exact (((Keep.refl (fun k => k = g) w).setCell (p := ⟨g, off + k, none⟩) (.inl rfl) _).setCell (p := ⟨g, off + 8, none⟩) (.inl rfl) _).drew

/-! ### slices.Index -/
set_option maxHeartbeats 400000 in
theorem index_any {Tb : TypeId} (g off : Nat) (cs : Array Value) (N : List Int) (x : Int) (w : World) (h : Whole w g Tb cs) (hl : LineC cs off N) (hn : N.length ≤ 8) (r : Int) (hr : r = if x ∈ N then (N.idxOf x : Int) else -1) :
    Calls Tryz.prog 99 #[.slice (some ⟨g, off, none⟩) N.length 8, .int .i64 x] w fun e w' => e = .returned (.int .i64 r) ∧ w = w' := by
  have HC : Hid (∀ j, j < N.length → w.cell? ⟨g, off + j, none⟩ = some (.int .i64 (N.getD j 0))) := Lib.hid fun j hj => (h.cell (off + j)).trans (hl.cell (by omega))
  have HR := Lib.hid hr
  clear h hl hr
  go_enter Tryz.func99, Tryz.ntmps99
  go_wp2
  go_loop [8] (fun i => ∃ k : Nat, k ≤ N.length ∧ i = .int .i64 k ∧ x ∉ N.take k) (fun i => N.length - (intOf i).toNat)
  case atStart => exact ⟨0, Nat.zero_le _, rfl, by simp⟩
  case round =>
    obtain ⟨k, hk, rfl, hnot⟩ := hrel
    by_cases hlt : k < N.length
    · have c1 := HC.out k hlt
      have hi1 : (k : Int) < (N.length : Int) := by omega
      have hg : N.getD k 0 = N[k] := by simp [hlt]
      have htk : N.take (k + 1) = N.take k ++ [N.getD k 0] := by rw [hg, List.take_succ_eq_append_getElem hlt]
      by_cases e : N.getD k 0 = x
      · have HE : Hid (r = (k : Int)) := Lib.hid (by
          have hmem : x ∈ N := by rw [← e, hg]; exact List.getElem_mem _
          have hi : N.idxOf x = k := by
            have hsplit : N = N.take k ++ x :: N.drop (k + 1) := by
              conv => lhs; rw [← List.take_append_drop (k + 1) N]
              rw [htk, e]; simp
            rw [hsplit, List.idxOf_append, if_neg hnot]
            simp; omega
          rw [HR.out, if_pos hmem, hi])
        have hq : (x == N.getD k 0) = true := by rw [e]; simp
        clear HC HR htk hnot hg e
        generalize N.getD k 0 = y at *
        go_wp2
        try rw [Exit.noGoto_ret]
        go_ret
        exact ⟨ret_i HE.out.symm, rfl⟩
      · have HN : Hid (x ∉ N.take (k + 1)) := Lib.hid (by rw [htk]; simp; exact ⟨hnot, fun h => e (by rw [h]; simp)⟩)
        have hq : (x == N.getD k 0) = false := by simpa using fun h => e h.symm
        clear HC HR htk hnot hg e
        generalize N.getD k 0 = y at *
        go_wp2
        go_round
        case rel => exact ⟨k + 1, by omega, by go_num, HN.out⟩
        case measure => simp [intOf]; omega
    · have hk' : N.take k = N := List.take_of_length_le (by omega)
      have HE : Hid (r = -1) := Lib.hid (by rw [hk'] at hnot; rw [HR.out, if_neg hnot])
      clear HC HR hnot hk'
      go_wp2
      go_ret
      exact ⟨ret_i HE.out.symm, rfl⟩

/-! ### slices.Delete of one -/
set_option maxHeartbeats 2000000 in
set_option maxRecDepth 100000 in
theorem delete_any {Tb : TypeId} (g off n i : Nat) (cs : Array Value) (N : List Int) (w : World) (h : Whole w g Tb cs) (hl : LineC cs off N) (hn : n = N.length) (hn8 : n ≤ 8) (hi : i < n) :
    Calls Tryz.prog 100 #[.slice (some ⟨g, off, none⟩) n 8, .int .i64 i, .int .i64 ((i : Int) + 1)] w fun e w' => e = .returned (.slice (some ⟨g, off, none⟩) (n - 1) 8) ∧
      ∃ cs', Whole w' g Tb cs' ∧ (∀ j, j < 8 → cs'[off + j]? = some (.int .i64 ((N.eraseIdx i).getD j 0))) ∧ cs'.size = cs.size ∧ (∀ j, j < off ∨ off + 8 ≤ j → cs'[j]? = cs[j]?) ∧ Keep (fun k => k = g) w w' := by
  have hr := hl.room
  obtain ⟨i0, hi0, hz0, hz1, hz2⟩ := Tryz.partsLs
  have HI := Lib.hid hi0; have HZ1 := Lib.hid hz1; clear hi0 hz0 hz1 hz2
  have hz3 : ∀ W, (zeroValue 3).run Tryz.prog W = .ok (.int .i64 0) W := Tryz.zeroValue3
  -- the cells that are moved to the left
  obtain ⟨news, hnews⟩ : ∃ news : List Value, news = (N.drop (i + 1)).map (fun z => Value.int .i64 z) := ⟨_, rfl⟩
  have hlen : news.length = n - (i + 1) := by rw [hnews, hn]; simp
  have hget : ∀ t, t < n - (i + 1) → news[t]? = some (.int .i64 (N.getD (i + 1 + t) 0)) := fun t ht => by
    rw [hnews, List.getElem?_map, List.getElem?_drop, List.getElem?_eq_getElem (by omega)]
    simp; rw [List.getElem?_eq_getElem (by omega)]; rfl
  obtain ⟨A, hA, hsrc⟩ : ∃ A : Addr, (if 8 = i + 1 then some (⟨g, off, none⟩ : Addr) else some ⟨g, off + (i + 1), none⟩) = some A ∧ Hid (∀ t u, news[t]? = some u → w.drew.cell? (A.add t) = some u) := by
    by_cases h8 : 8 = i + 1
    · refine ⟨⟨g, off, none⟩, by simp [h8], Lib.hid fun t u hu => ?_⟩
      have h0 : news.length = 0 := by rw [hlen]; omega
      rw [List.length_eq_zero_iff.1 h0] at hu
      simp at hu
    · refine ⟨⟨g, off + (i + 1), none⟩, by simp [h8], Lib.hid fun t u hu => ?_⟩
      have ht : t < n - (i + 1) := by
        have := (List.getElem?_eq_some_iff.1 hu).1
        rwa [hlen] at this
      rw [hget t ht] at hu
      rw [Addr.add_lit, show off + (i + 1) + t = off + (i + 1 + t) by omega]
      exact ((h.cell (off + (i + 1 + t))).trans (hl.cell (by omega))).trans hu
  have s1 : Hid (news.length = (n - (i + 1)) * 1) := Lib.hid (by rw [Nat.mul_one]; exact hlen)
  have s2 : Hid (∀ u ∈ news, u.oneCell' = true) := Lib.hid fun u hu => by
    rw [hnews] at hu
    obtain ⟨x, _, rfl⟩ := List.mem_map.1 hu
    rfl
  have s3 : Hid (∀ t, t < news.length → (w.drew.cell? ⟨g, off + i * 1 + t, none⟩).isSome = true ∧ w.drew.frozen? ⟨g, off + i * 1 + t, none⟩ = false) := Lib.hid fun t ht => by
    rw [hlen] at ht
    rw [Nat.mul_one, Nat.add_assoc]
    exact ⟨by show (w.cell? _).isSome = true; rw [(h.cell (off + (i + t))).trans (hl.cell (by omega))]; rfl, h.free _⟩
  obtain ⟨W1, hW1⟩ : ∃ W1, W1 = w.drew.setCells g (off + i * 1) news := ⟨_, rfl⟩
  have hw1 : Whole W1 g Tb (Lib.lay cs (off + i) news) := by rw [hW1, Nat.mul_one]; exact h.drew.puts news (off + i)
  have hk1 : Keep (fun k => k = g) w W1 := by rw [hW1]; exact Keep.setCells (S := fun k => k = g) (g := g) rfl news _ (Keep.refl _ w).drew
  have hcs1 : ∀ t, t < cs.size → (W1.cell? ⟨g, t, none⟩).isSome = true := fun t ht => by
    rw [hw1.cell, Array.getElem?_eq_getElem (by rw [Lib.lay_size]; omega)]; rfl
  have hcl : ∀ ty, (Builtin.clear_ #[37] ty #[.slice (some ⟨g, off + (i + (n - (i + 1))), none⟩) (n - (i + (n - (i + 1)))) (8 - (i + (n - (i + 1))))]).run Tryz.prog W1 = .ok (.tuple #[]) (W1.setCells g (off + (i + (n - (i + 1)))) (List.replicate (n - (i + (n - (i + 1)))) (.int .i64 0))) :=
    fun ty => Lib.run_clear_slice W1 _ _ ty _ Tryz.underlying37 hz3 rfl rfl g (off + (i + (n - (i + 1)))) _ _ (by omega) (fun t ht => hcs1 _ (by omega)) (fun t ht => hw1.free _)
  have HW1 := Lib.hid hw1; have HK1 := Lib.hid hk1; have HL := Lib.hid hl; have HLEN := Lib.hid hlen; have HGET := Lib.hid hget; have HNN := Lib.hid hn
  have hW : Hid (W1 = w.drew.setCells g (off + i * 1) news) := Lib.hid hW1
  have hic : i ≤ 8 := by omega
  have hii : (i : Int) ≤ 8 := by omega
  have hin : (i : Int) ≤ (n : Int) := by omega
  have hni : (n : Int) ≤ 8 := by omega
  have hw0 : ((i : Int) + 1) = ((i + 1 : Nat) : Int) := by omega
  rw [hw0]
  clear hW1 hw1 hk1 hcs1 h hl hget hnews hlen hw0 hn
  obtain ⟨j, hj⟩ : ∃ j, j = i + 1 := ⟨_, rfl⟩
  rw [← hj] at hA hcl s1 ⊢
  have hne : ((i : Int) == (j : Int)) = false := by simp; omega
  have hjj : (j : Int) ≤ 8 := by omega
  have hjn : (j : Int) ≤ (n : Int) := by omega
  have hij : (i : Int) ≤ (j : Int) := by omega
  have hjc : j ≤ 8 := by omega
  have hij' : i ≤ j := by omega
  have hjn' : j ≤ n := by omega
  have hx1 : ¬ (8 = i + (n - j)) := by omega
  have hx2 : ¬ (i + (n - j) = 8) := by omega
  have HJ := Lib.hid hj
  clear hj
  go_enter Tryz.func100, Tryz.ntmps100
  go_wp2_with fail
  go_region_law (refine step_append_room rfl (.tmp 22) (.tmp 25) 37 rfl 3 i0 1 Tryz.underlying37 HI.out HZ1.out g off i 8 (by simp [Act.eval, Act.put]) A (n - j) (8 - j) news (by simp [Act.eval, Act.put]) s1.out hsrc.out s2.out (by omega) s3.out ?_; rw [← hW.out])
  go_wp2
  go_ret
  have hj := HJ.out; have hn := HNN.out; have hlen := HLEN.out
  refine ⟨by rw [show i + (n - j) = n - 1 by omega]; rfl, _, HW1.out.puts _ _, fun t ht => ?_, by rw [Lib.lay_size, Lib.lay_size], fun t ht => ?_, Keep.setCells (S := fun k => k = g) rfl _ _ HK1.out⟩
  · have hE : (N.eraseIdx i).getD t 0 = if t < i then N.getD t 0 else N.getD (t + 1) 0 := by
      rw [List.getD_eq_getElem?_getD, List.getElem?_eraseIdx]
      split <;> rw [List.getD_eq_getElem?_getD]
    rw [lay_at _ _ _ _ (by rw [Lib.lay_size, List.length_replicate]; omega), lay_at _ _ _ _ (by rw [hlen]; omega), hE, List.length_replicate, hlen]
    by_cases c1 : t = n - 1
    · rw [if_pos (by omega), if_neg (by omega), List.getElem?_replicate, if_pos (by omega), List.getD_eq_getElem?_getD, List.getElem?_eq_none (by omega)]
      rfl
    · rw [if_neg (by omega)]
      by_cases c2 : t < i
      · rw [if_neg (by omega), if_pos c2, HL.out.cell ht]
      · rw [if_neg c2]
        by_cases c3 : t < n - 1
        · rw [if_pos (by omega), HGET.out _ (by omega), show i + 1 + (off + t - (off + i)) = t + 1 by omega]
        · rw [if_neg (by omega), HL.out.cell ht, List.getD_eq_getElem?_getD, List.getD_eq_getElem?_getD, List.getElem?_eq_none (by omega), List.getElem?_eq_none (by omega)]
  · rw [lay_at _ _ _ _ (by rw [Lib.lay_size, List.length_replicate]; omega), lay_at _ _ _ _ (by rw [hlen]; omega), List.length_replicate, hlen, if_neg (by omega), if_neg (by omega)]

/-! ### One taken out -/
theorem erase_eq (N : List Int) (x : Int) : N.erase x = N.eraseIdx (N.idxOf x) := by rw [List.erase_eq_eraseIdx_of_idxOf]; rfl

set_option maxHeartbeats 400000 in
theorem lremove_any {Tb : TypeId} (g off : Nat) (cs : Array Value) (N : List Int) (x : Int) (w : World) (h : Whole w g Tb cs) (hl : LineC cs off N) (hn : N.length ≤ 8) (b : Bool) (hb : b = decide (x ∈ N)) :
    Calls Tryz.prog 77 #[.pointer (some ⟨g, off, none⟩), .int .i64 x] w fun e w' => e = .returned (.bool b) ∧ ∃ cs', Whole w' g Tb cs' ∧ LineC cs' off (N.erase x) ∧ Else off cs cs' ∧ Keep (fun k => k = g) w w' := by
  have H := Lib.hid h; have HL := Lib.hid hl; have HN := Lib.hid hn; have HB := Lib.hid hb; have hr := hl.room
  clear h hl hn hb
  obtain ⟨r, hr0⟩ : ∃ r : Int, r = if x ∈ N then (N.idxOf x : Int) else -1 := ⟨_, rfl⟩
  have HR := Lib.hid hr0; clear hr0
  go_enter Tryz.func77, Tryz.ntmps77
  go_wp2_with fail
  refine (in_any g off cs N _ H.out HL.out HN.out).mono ?_
  rintro e w1 ⟨rfl, n1, hw1⟩
  have H1 : Hid (Whole w1 g Tb cs) := Lib.hid (by rw [hw1]; exact H.out.drewN n1)
  have K1 : Hid (Keep (fun k => k = g) w w1) := Lib.hid (by rw [hw1]; exact (Keep.refl _ w).drewN n1)
  clear hw1
  go_wp2_with fail
  refine (index_any g off cs N x w1 H1.out HL.out HN.out r HR.out).mono ?_
  rintro e w1' ⟨rfl, rfl⟩
  by_cases hx : x ∈ N
  · obtain ⟨i, hi⟩ : ∃ i, i = N.idxOf x := ⟨_, rfl⟩
    have hri : r = (i : Int) := by rw [HR.out, if_pos hx, hi]
    have hil : i < N.length := by rw [hi]; exact List.idxOf_lt_length_of_mem hx
    subst hri
    have hge : ¬ ((i : Int) < 0) := by omega
    have hge' : decide ((i : Int) < 0) = false := by simp
    have hw : IntKind.i64.wrap ((i : Int) + 1) = (i : Int) + 1 := by rw [IntKind.wrap_i64]; have := HN.out; omega
    have HX := Lib.hid hx; have HII := Lib.hid hi; clear hx hi HR
    obtain ⟨n, hn⟩ : ∃ n, n = N.length := ⟨_, rfl⟩
    have HNL := Lib.hid hn
    have hn8 : n ≤ 8 := by have := HN.out; omega
    have hi8 : i < n := by omega
    rw [← hn]
    clear hn
    go_wp2_with fail
    refine (in_any g off cs N _ H1.out HL.out HN.out).mono ?_
    rintro e w2 ⟨rfl, n2, hw2⟩
    have H2 : Hid (Whole w2 g Tb cs) := Lib.hid (by rw [hw2]; exact H1.out.drewN n2)
    have K2 : Hid (Keep (fun k => k = g) w w2) := Lib.hid (by rw [hw2]; exact K1.out.drewN n2)
    clear hw2
    rw [← HNL.out]
    go_wp2_with fail
    refine (delete_any g off n i cs N w2 H2.out HL.out HNL.out hn8 hi8).mono ?_
    rintro e w3 ⟨rfl, cs', h3, hc3, hs3, he3, k3⟩
    have f8 := h3.free (off + 8)
    have c8 := (h3.cell (off + 8)).trans ((he3 _ (by omega)).trans HL.out.count)
    have X3 := Lib.hid h3; have C3 := Lib.hid hc3; have S3 := Lib.hid hs3; have E3 := Lib.hid he3; have K3 := Lib.hid (K2.out.trans k3)
    clear h3 hc3 hs3 he3 k3
    have hcast : ((n - 1 : Nat) : Int) = ((n - 1 : Nat) : Int) := rfl
    go_wp2
    go_ret
    have hn := HNL.out
    have hE : N.erase x = N.eraseIdx i := by rw [HII.out]; exact erase_eq N x
    refine ⟨ret_b (by rw [HB.out]; simp [HX.out]), _, X3.out.put (off + 8) (.int .i64 ((n - 1 : Nat) : Int)), ?_, ?_, K3.out.setCell (p := ⟨g, off + 8, none⟩) (.inl rfl) _⟩
    · refine LineC.of (fun j hj => ?_) ?_
      · rw [Array.getElem?_setIfInBounds_ne (by omega), C3.out j hj, hE]
      · rw [Array.getElem?_setIfInBounds_self_of_lt (by rw [S3.out]; omega), hE, List.length_eraseIdx, if_pos (by omega), hn]
    · exact ⟨by rw [Array.size_setIfInBounds, S3.out], fun j hj => by rw [Array.getElem?_setIfInBounds_ne (by omega), E3.out j (by omega)]⟩
  · obtain rfl : r = -1 := by rw [HR.out, if_neg hx]
    have HX := Lib.hid hx; clear hx HR
    go_wp2
    go_ret
    refine ⟨ret_b (by rw [HB.out]; simp [HX.out]), cs, H1.out, by rw [List.erase_of_not_mem HX.out]; exact HL.out, Else.refl _ _, K1.out⟩
end Go.Proofs.YtnljjdfajmjdjaaGreat
