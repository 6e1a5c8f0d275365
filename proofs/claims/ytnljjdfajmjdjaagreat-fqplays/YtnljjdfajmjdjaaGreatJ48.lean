/-
  The document's queue (canterref20.Queue) as a thing of a room: a pull; rates that came in, or lie in a row of their own, lie apart from both queues. Conditions: it is the room's first thing.
  canterref20.May: what a config may be. Conditions: its numbers are of their kind.
  What the statements lean on in package canterhelp: Own copies a list of numbers into new memory with three more behind it, Kept tells that both are as they were. Conditions: the list lies in memory as a slice does, and has at most 100 numbers.
  canterhelp.Plain tells whether two lists of numbers are alike. Conditions: the lists lie in memory as slices do.
  canterhelp.Plain tells whether two lists of numbers are alike, Kept whether a copy and the room behind it are as Own left them. Conditions: the lists lie in memory as slices do.
-/
import Derived.Test.YtnljjdfajmjdjaaGreatJ47
import Derived.Test.YtnljjdfajmjdjaaGreatJ45
import Derived.Test.YtnljjdfajmjdjaaGreatJ30
import Derived.Test.YtnljjdfajmjdjaaGreatJ01
import Derived.Test.YtnljjdfajmjdjaaGreatChecked
import Derived.Test.YtnljjdfajmjdjaaGreatJ07
import Derived.WalkSpells
import Derived.WalkLawsBesides
import Derived.LoopTactic
import Derived.OwnWalk
import Derived.Deep.QuietTactic
import Derived.BigQuiet
import Derived.Deep.Draws
namespace Go.Proofs.YtnljjdfajmjdjaaGreat
open Go.RowKit
set_option maxRecDepth 100000
set_option linter.unusedSimpArgs false
set_option linter.unusedVariables false

section
variable {wB w : World} {L : List Thing} {g : Nat} {own : Nat → Prop} {x : Qm}
theorem Room.rqdeqr (h : Room wB w (rqT g own x :: L)) (now : Int) (hn : U64 now) (a : Option Addr) (cap : Nat) (rs : List Int) (hr : Rd .u64 w a rs) (hb : ∀ r ∈ rs, U64 r) (hap : rs ≠ [] → ∀ b off, a = some ⟨b, off, none⟩ → ¬ own b)
    {y : Qm} {o : Option Sg} (he : deqQ (dlyQ rs x.c.r) x now = (y, o)) :
    Calls Tryz.prog 10 #[.pointer (some ⟨g, 0, none⟩), .int .u64 now, .slice a rs.length cap] w fun e w' => e = .returned (.tuple #[(o.getD Sg.zero).v, .bool o.isSome]) ∧ ∃ own', Room wB w' (rqT g own' y :: L) := by
  obtain ⟨cs, v, n, ol, hq, hx, ho⟩ := h.get0
  refine (hq.deq hx now hn a cap rs hr hb (fun hne b off e e2 => hap hne b off e ((ho b).2 e2)) he).mono ?_
  rintro e w' ⟨rfl, t⟩
  have hy := deq_ok (d := dlyQ rs x.c.r) hx hn (fun l z => (dlyQ_bd hb hx.hc.hr l z).1)
  rw [he] at hy
  exact ⟨rfl, h.rqto ho t hy⟩
theorem Room.apart_rq (h : Room wB w (rqT g own x :: L)) {k : IntKind} {a : Option Addr} {rs : List Int} (hr : Rd k wB a rs) : rs ≠ [] → ∀ b off, a = some ⟨b, off, none⟩ → ¬ own b := fun hne b off e ho => by
  have h1 := h.lo (rqT g own x) (List.mem_cons_self ..) b ho
  obtain ⟨b', off', e', hlt, _⟩ := hr 0 (List.length_pos_iff.2 hne)
  rw [e] at e'
  cases e'
  omega
/-- A block of the room lies apart from the first thing. -/
theorem Room.apart_blk {t : Thing} (h : Room wB w (t :: L)) {B : Nat} {ty : TypeId} {cs : Array Value} (hB : blkT B ty cs ∈ L) : ¬ t.own B := fun e => (List.pairwise_cons.1 h.dis).1 _ hB B e rfl
end
end Go.Proofs.YtnljjdfajmjdjaaGreat
namespace Go.Proofs.YtnljjdfajmjdjaaGreat
open Go.RowKit
set_option maxRecDepth 100000
set_option linter.unusedSimpArgs false
set_option linter.unusedVariables false

set_option maxHeartbeats 8000000 in
theorem rmay_any (c : Cf) (hr : U64 c.r) (hh : U64 c.h) (b : Bool) (hb : b = decide c.Ok) (w : World) : Calls Tryz.prog 13 #[c.v] w fun e w' => e = .returned (.bool b) ∧ Keep (fun _ => False) w w' := by
  obtain ⟨q, f, l, m, h, r, d, k, s⟩ := c
  have HB : Hid (100 ≤ q ∧ q ≤ 65536 ∧ 100 ≤ f ∧ f ≤ 65536 ∧ 1 ≤ l ∧ l ≤ 512 ∧ 1 ≤ m ∧ m ≤ 512 ∧ h ≤ 4611686018427387904 ∧ 1 ≤ k ∧ k ≤ 1073741824 ∧ 100 ≤ s ∧ s ≤ 9000 → true = b) := Lib.hid (fun ⟨a0, a1, a2, a3, a4, a5, a6, a7, a8, a9, a10, a11, a12⟩ => by
    rw [hb]; exact (decide_eq_true ⟨⟨a0, a1⟩, ⟨a2, a3⟩, ⟨a4, a5⟩, ⟨a6, a7⟩, ⟨hh.1, a8⟩, hr, ⟨a9, a10⟩, ⟨a11, a12⟩⟩).symm)
  have HF : Hid (¬ (100 ≤ q ∧ q ≤ 65536 ∧ 100 ≤ f ∧ f ≤ 65536 ∧ 1 ≤ l ∧ l ≤ 512 ∧ 1 ≤ m ∧ m ≤ 512 ∧ h ≤ 4611686018427387904 ∧ 1 ≤ k ∧ k ≤ 1073741824 ∧ 100 ≤ s ∧ s ≤ 9000) → false = b) := Lib.hid (fun hn => by
    rw [hb]; exact (decide_eq_false (fun a => hn ⟨a.hq.1, a.hq.2, a.hf.1, a.hf.2, a.hl.1, a.hl.2, a.hw.1, a.hw.2, a.hh.2, a.hk.1, a.hk.2, a.hm.1, a.hm.2⟩)).symm)
  clear hb hr hh
  dsimp only [Cf.v] at *
  have K := Lib.hid ((Keep.refl (fun _ => False) w).alloc (.cells #[.int .i64 q, .int .i64 f, .int .i64 l, .int .i64 m, .int .u64 h, .int .u64 r, .bool d, .int .i64 k, .int .i64 s] 24))
  by_cases h0 : 100 ≤ q
  case neg =>
    have HN := Lib.hid (HF.out (fun a => h0 a.1))
    clear HB HF
    go_enter Tryz.func13, Tryz.ntmps13
    go_wp2
    go_ret
    exact ⟨ret_b HN.out, K.out⟩
  by_cases h1 : q ≤ 65536
  case neg =>
    have HN := Lib.hid (HF.out (fun a => h1 a.2.1))
    clear HB HF
    go_enter Tryz.func13, Tryz.ntmps13
    go_wp2
    go_ret
    exact ⟨ret_b HN.out, K.out⟩
  by_cases h2 : 100 ≤ f
  case neg =>
    have HN := Lib.hid (HF.out (fun a => h2 a.2.2.1))
    clear HB HF
    go_enter Tryz.func13, Tryz.ntmps13
    go_wp2
    go_ret
    exact ⟨ret_b HN.out, K.out⟩
  by_cases h3 : f ≤ 65536
  case neg =>
    have HN := Lib.hid (HF.out (fun a => h3 a.2.2.2.1))
    clear HB HF
    go_enter Tryz.func13, Tryz.ntmps13
    go_wp2
    go_ret
    exact ⟨ret_b HN.out, K.out⟩
  by_cases h4 : 1 ≤ l
  case neg =>
    have HN := Lib.hid (HF.out (fun a => h4 a.2.2.2.2.1))
    clear HB HF
    go_enter Tryz.func13, Tryz.ntmps13
    go_wp2
    go_ret
    exact ⟨ret_b HN.out, K.out⟩
  by_cases h5 : l ≤ 512
  case neg =>
    have HN := Lib.hid (HF.out (fun a => h5 a.2.2.2.2.2.1))
    clear HB HF
    go_enter Tryz.func13, Tryz.ntmps13
    go_wp2
    go_ret
    exact ⟨ret_b HN.out, K.out⟩
  by_cases h6 : 1 ≤ m
  case neg =>
    have HN := Lib.hid (HF.out (fun a => h6 a.2.2.2.2.2.2.1))
    clear HB HF
    go_enter Tryz.func13, Tryz.ntmps13
    go_wp2
    go_ret
    exact ⟨ret_b HN.out, K.out⟩
  by_cases h7 : m ≤ 512
  case neg =>
    have HN := Lib.hid (HF.out (fun a => h7 a.2.2.2.2.2.2.2.1))
    clear HB HF
    go_enter Tryz.func13, Tryz.ntmps13
    go_wp2
    go_ret
    exact ⟨ret_b HN.out, K.out⟩
  by_cases h8 : h ≤ 4611686018427387904
  case neg =>
    have HN := Lib.hid (HF.out (fun a => h8 a.2.2.2.2.2.2.2.2.1))
    clear HB HF
    go_enter Tryz.func13, Tryz.ntmps13
    go_wp2
    go_ret
    exact ⟨ret_b HN.out, K.out⟩
  by_cases h9 : 1 ≤ k
  case neg =>
    have HN := Lib.hid (HF.out (fun a => h9 a.2.2.2.2.2.2.2.2.2.1))
    clear HB HF
    go_enter Tryz.func13, Tryz.ntmps13
    go_wp2
    go_ret
    exact ⟨ret_b HN.out, K.out⟩
  by_cases h10 : k ≤ 1073741824
  case neg =>
    have HN := Lib.hid (HF.out (fun a => h10 a.2.2.2.2.2.2.2.2.2.2.1))
    clear HB HF
    go_enter Tryz.func13, Tryz.ntmps13
    go_wp2
    go_ret
    exact ⟨ret_b HN.out, K.out⟩
  by_cases h11 : 100 ≤ s
  case neg =>
    have HN := Lib.hid (HF.out (fun a => h11 a.2.2.2.2.2.2.2.2.2.2.2.1))
    clear HB HF
    go_enter Tryz.func13, Tryz.ntmps13
    go_wp2
    go_ret
    exact ⟨ret_b HN.out, K.out⟩
  by_cases h12 : s ≤ 9000
  case neg =>
    have HN := Lib.hid (HF.out (fun a => h12 a.2.2.2.2.2.2.2.2.2.2.2.2))
    clear HB HF
    go_enter Tryz.func13, Tryz.ntmps13
    go_wp2
    go_ret
    exact ⟨ret_b HN.out, K.out⟩
  have HN := Lib.hid (HB.out ⟨h0, h1, h2, h3, h4, h5, h6, h7, h8, h9, h10, h11, h12⟩)
  clear HB HF
  go_enter Tryz.func13, Tryz.ntmps13
  go_wp2
  go_ret
  exact ⟨ret_b HN.out, K.out⟩
end Go.Proofs.YtnljjdfajmjdjaaGreat
namespace Go.Proofs.YtnljjdfajmjdjaaGreat
open Go.RowKit
set_option maxRecDepth 100000

theorem Tryz.infoU64 : (Tryz.prog.info? 22).map (fun i => (i.zero, i.size, i.bytes)) = some (some (.int .u64 0), 1, 8) := by kernel_rfl

/-- The row behind Own: the numbers, then k times the fill. -/
def OwnRow (zs : List Int) (f : Int) (k : Nat) (cs : Array Value) : Prop :=
  cs.size = zs.length + 3 ∧ (∀ i, i < zs.length → cs[i]? = some (.int .u64 (zs.getD i 0))) ∧ ∀ i, zs.length ≤ i → i < zs.length + k → cs[i]? = some (.int .u64 f)

theorem OwnRow.step {zs : List Int} {f : Int} {k : Nat} {cs : Array Value} (h : OwnRow zs f k cs) (hk : k < 3) : OwnRow zs f (k + 1) (cs.setIfInBounds (zs.length + k) (.int .u64 f)) := by
  obtain ⟨h1, h2, h3⟩ := h
  refine ⟨by simpa using h1, fun i hi => ?_, fun i hi hi' => ?_⟩
  · rw [Array.getElem?_setIfInBounds_ne (by omega)]; exact h2 i hi
  · by_cases e : i = zs.length + k
    · subst e; rw [Array.getElem?_setIfInBounds_self_of_lt (by omega)]
    · rw [Array.getElem?_setIfInBounds_ne (by omega)]; exact h3 i hi (by omega)

theorem rd_cells {k : IntKind} {w w' : World} {a : Option Addr} {zs : List Int} (h : Rd k w a zs) (hb : Below w.heap.size w w') :
    ∀ ad, a = some ad → ∀ j u, (zs.map (Value.int k))[j]? = some u → w'.cell? (ad.add j) = some u := by
  intro ad ha j u hu
  obtain ⟨hj, e⟩ := List.getElem?_eq_some_iff.1 hu
  have hj' : j < zs.length := by simpa using hj
  obtain ⟨b, off, e1, hlt, hc⟩ := h j hj'
  rw [ha] at e1
  cases e1
  rw [Go.WideShapes.add_plain, hb.cell (p := ⟨b, off + j, none⟩) hlt, hc, ← e]
  simp [hj']

theorem row_of_own {w : World} {base g : Nat} {zs : List Int} {f : Int} (h : w.ownsRow base 22 1 (.slice (some ⟨g, 0, none⟩) zs.length (zs.length + 3)) zs.length (zs.map (Value.int .u64))) :
    ∃ cs, Whole w g 22 cs ∧ OwnRow zs f 0 cs := by
  rcases h.2 with ⟨h', _⟩ | ⟨g', cap', cur, h', _, hg, _, _, hsz, htake⟩
  · cases h'
  · cases h'
    refine ⟨cur, hg, by simpa using hsz, fun i hi => ?_, fun i h1 h2 => by omega⟩
    have e : (cur.toList.take (zs.length * 1))[i]? = some (.int .u64 (zs.getD i 0)) := by rw [htake]; simp [hi]
    rw [List.getElem?_take, if_pos (by omega)] at e
    simpa using e

set_option maxHeartbeats 1000000 in
theorem own_any (a : Option Addr) (cap : Nat) (zs : List Int) (f : Int) (w : World) (hlen : zs.length ≤ 100) (hnil : a = none → zs.length = 0 ∧ cap = 0) (hc : Rd .u64 w a zs) :
    Calls Tryz.prog 8 #[.slice a zs.length cap, .int .u64 f] w fun e w' =>
      ∃ cs, e = .returned (.slice (some ⟨w.heap.size, 0, none⟩) zs.length (zs.length + 3)) ∧ Whole w' w.heap.size 22 cs ∧ OwnRow zs f 3 cs ∧ Below w.heap.size w w' := by
  obtain ⟨i0, hi, hz0, hz1, hz2⟩ := info_parts Tryz.infoU64
  have HC := Lib.hid hc; have HN := Lib.hid hnil; have HI := Lib.hid hi; have HZ0 := Lib.hid hz0; have HZ1 := Lib.hid hz1; have HZ2 := Lib.hid hz2; clear hc hnil hi hz0 hz1 hz2
  go_enter Tryz.func8, Tryz.ntmps8
  go_wp2_with (at_make; refine wpList_make_own _ rfl _ _ 45 rfl w.heap.size 22 i0 (.int .u64 0) 1 Tryz.underlying45 HI.out HZ0.out HZ1.out _ _ _ (zs.length + 3) rfl rfl (by omega) ?b2 ?b3 (Nat.le_refl _) ?_)
  case b2 => rw [HZ2.out]; omega
  case b3 => unfold maxLen; omega
  intro w0 hown0 hgrow0
  have HB0 : Hid (Below w.heap.size w w0) := Lib.hid ((Below.refl _ _).grown hgrow0 (Nat.le_refl _) (fun k h => by cases h))
  have HO0 := Lib.hid hown0; have HG0 := Lib.hid hgrow0; clear hown0 hgrow0
  go_wp2_with (at_builtin; refine wpList_append_fits_any _ rfl _ _ 45 rfl w.heap.size 22 i0 1 Tryz.underlying45 HI.out HZ1.out w.heap.size 0 (zs.length + 3) _ rfl HO0.out _ zs.length _ (zs.map (Value.int .u64)) rfl ?c1 ?c2 ?c3 ?c4 (by omega) ?_)
  case c1 => simp
  case c2 => exact fun h => HN.out h
  case c3 => exact rd_cells HC.out HB0.out
  case c4 => exact ints_oneCell _ _
  intro w1 hown1 hgrow1
  have hb1 : Below w.heap.size w w1 := HB0.out.grown hgrow1 HB0.out.size (fun k h => by cases h; exact Nat.le_refl _)
  obtain ⟨cs, hcs, hrow⟩ := row_of_own (f := f) hown1
  have HB1 := Lib.hid hb1; have HCS := Lib.hid hcs; have HROW := Lib.hid hrow; clear hown1 hgrow1 hb1 hcs hrow HO0 HG0 HB0
  go_wp2
  go_loopw [7] (fun i wr => ∃ k : Nat, k ≤ 3 ∧ i = .int .i64 (zs.length + k : Nat) ∧ ∃ cs, Whole wr w.heap.size 22 cs ∧ OwnRow zs f k cs ∧ Below w.heap.size w wr) (fun i _ => zs.length + 3 - (intOf i).toNat)
  case atStart => exact ⟨0, by omega, by simp, cs, HCS.out, HROW.out, HB1.out⟩
  case round =>
    obtain ⟨k, hk, rfl, cs, hcs, hrow, hb⟩ := hrel
    by_cases hlt : k < 3
    · have hcell : ∃ v, wr.cell? ⟨w.heap.size, zs.length + k, none⟩ = some v := by
        have e := hcs.cell (zs.length + k)
        have hsz := hrow.1
        rw [Array.getElem?_eq_getElem (by omega)] at e
        exact ⟨_, e⟩
      obtain ⟨v, hcell⟩ := hcell
      have hfree := hcs.free (zs.length + k)
      have R := Lib.hid (⟨_, hcs.put (zs.length + k) (.int .u64 f), hrow.step hlt, hb.setCell (Nat.le_refl _) (p := ⟨w.heap.size, zs.length + k, none⟩) (.int .u64 f)⟩ : ∃ cs, Whole (wr.setCell ⟨w.heap.size, zs.length + k, none⟩ (.int .u64 f)) w.heap.size 22 cs ∧ OwnRow zs f (k + 1) cs ∧ Below w.heap.size w (wr.setCell ⟨w.heap.size, zs.length + k, none⟩ (.int .u64 f)))
      clear hcs hrow hb HCS HROW HB1
      go_wp2
      go_roundw
      case rel => exact ⟨k + 1, by omega, by go_num, R.out⟩
      case measure => simp [intOf]; omega
    · have hk3 : k = 3 := by omega
      subst hk3
      have R := Lib.hid (⟨_, hcs, hrow, hb⟩ : ∃ cs, Whole wr w.heap.size 22 cs ∧ OwnRow zs f 3 cs ∧ Below w.heap.size w wr)
      clear hcs hrow hb HCS HROW HB1
      go_wp2
      go_ret
      obtain ⟨cs, h1, h2, h3⟩ := R.out
      exact ⟨cs, rfl, h1, h2, h3⟩
end Go.Proofs.YtnljjdfajmjdjaaGreat
namespace Go.Proofs.YtnljjdfajmjdjaaGreat
open Go.RowKit
set_option maxRecDepth 100000

theorem eq_any (x y : Int) (w : World) :
    Calls Tryz.prog 73 #[.int .u64 x, .int .u64 y] w fun e w' => e = .returned (.bool (x == y)) ∧ w = w' := by
  go_enter Tryz.func73, Tryz.ntmps73
  go_wp2
  go_ret
  exact ⟨rfl, rfl⟩

theorem eq_quiet (x y : Int) (w : World) :
    Calls Tryz.prog 73 #[.int .u64 x, .int .u64 y] w fun e w' => e = .returned (.bool (x == y)) ∧ w' = w :=
  (eq_any x y w).mono fun _ _ ⟨he, hw⟩ => ⟨he, hw.symm⟩

theorem drewN_below (w : World) (n : Nat) : Below w.heap.size w (w.drewN n) := ⟨rfl, rfl, rfl, Nat.le_refl _, fun _ _ => rfl⟩

set_option maxHeartbeats 400000 in
theorem same_any (a b : Option Addr) (ca cb : Nat) (zs : List Int) (w : World) (hlen : zs.length ≤ 1000) (ha : Rd .u64 w a zs) (hb : Rd .u64 w b zs) :
    Calls Tryz.prog 72 #[.slice a zs.length ca, .slice b zs.length cb, .func (.func 73) #[] #[]] w fun e w' => e = .returned (.bool true) ∧ ∃ n, w' = w.drewN n := by
  have HA := Lib.hid ha; have HB := Lib.hid hb; clear ha hb
  go_enter Tryz.func72, Tryz.ntmps72
  go_wp2
  go_loopw [7] (fun i wr => ∃ k n : Nat, k ≤ zs.length ∧ i = .int .i64 k ∧ wr = w.drewN n) (fun i _ => zs.length - (intOf i).toNat)
  case atStart => exact ⟨0, 0, Nat.zero_le _, rfl, rfl⟩
  case round =>
    obtain ⟨k, n, hk, rfl, hw⟩ := hrel
    by_cases hlt : k < zs.length
    · obtain ⟨b1, o1, rfl, _, c1⟩ := HA.out k hlt
      obtain ⟨b2, o2, rfl, _, c2⟩ := HB.out k hlt
      have g1 : wr.cell? ⟨b1, o1 + k, none⟩ = some (.int .u64 (zs.getD k 0)) := by rw [hw]; exact c1
      have g2 : wr.cell? ⟨b2, o2 + k, none⟩ = some (.int .u64 (zs.getD k 0)) := by rw [hw]; exact c2
      clear c1 c2
      have HW := Lib.hid hw
      clear HA HB hw
      generalize zs.getD k 0 = x at *
      have hx : (x == x) = true := by simp
      have hi1 : (k : Int) < (zs.length : Int) := by omega
      go_wp2
      go_quiet ((go_at_call 73; exact Calls.quiet_of_same (eq_quiet _ _ _)))
      go_wp2
      go_roundw
      case rel => exact ⟨k + 1, _, by omega, by go_num, by rw [HW.out, World.drewN_drewN]⟩
      case measure => simp [intOf]; omega
    · have HW := Lib.hid hw
      clear hw HA HB
      go_wp2
      go_ret
      exact ⟨rfl, n, HW.out⟩

theorem plainu_any (a b : Option Addr) (ca cb : Nat) (zs : List Int) (w : World) (hlen : zs.length ≤ 1000) (ha : Rd .u64 w a zs) (hb : Rd .u64 w b zs) :
    Calls Tryz.prog 41 #[.slice a zs.length ca, .slice b zs.length cb] w fun e w' => e = .returned (.bool true) ∧ ∃ n, w' = w.drewN n := by
  have HA := Lib.hid ha; have HB := Lib.hid hb; clear ha hb
  go_enter Tryz.func41, Tryz.ntmps41
  go_wp2_with fail
  refine (same_any a b ca cb zs w hlen HA.out HB.out).mono ?_
  rintro e w' ⟨rfl, n, hw⟩
  have HW := Lib.hid hw; clear hw
  go_wp2
  go_ret
  exact ⟨rfl, n, HW.out⟩

end Go.Proofs.YtnljjdfajmjdjaaGreat
namespace Go.Proofs.YtnljjdfajmjdjaaGreat
open Go.RowKit
set_option maxRecDepth 100000


set_option maxHeartbeats 400000 in
/-- A copy as Own has made it, and the list itself: both are as they were. -/
theorem kept_any (g : Nat) (b : Option Addr) (cb : Nat) (zs : List Int) (f : Int) (cs : Array Value) (w : World) (hlen : zs.length ≤ 1000) (ha : Whole w g 22 cs) (hr : OwnRow zs f 3 cs) (hb : Rd .u64 w b zs) :
    Calls Tryz.prog 11 #[.slice (some ⟨g, 0, none⟩) zs.length (zs.length + 3), .slice b zs.length cb, .int .u64 f] w fun e w' => e = .returned (.bool true) ∧ ∃ n, w' = w.drewN n := by
  have hrd : Rd .u64 w (some ⟨g, 0, none⟩) zs := fun i hi => ⟨g, 0, rfl, ha.lt, by rw [Nat.zero_add, ha.cell, hr.2.1 i hi]⟩
  have HA := Lib.hid ha; have HB := Lib.hid hb; have HR := Lib.hid hr; have HD := Lib.hid hrd; clear ha hb hr hrd
  go_enter Tryz.func11, Tryz.ntmps11
  go_wp2_with fail
  refine (plainu_any _ _ _ _ zs w hlen HD.out HB.out).mono ?_
  rintro e w1 ⟨rfl, n, hw⟩
  have HW := Lib.hid hw; clear hw
  go_wp2
  go_loop [8] (fun i => ∃ k : Nat, k ≤ 3 ∧ i = .int .i64 (zs.length + k : Nat)) (fun i => zs.length + 3 - (intOf i).toNat)
  case atStart => exact ⟨0, by omega, by simp⟩
  case round =>
    obtain ⟨k, hk, rfl⟩ := hrel
    by_cases hlt : k < 3
    · have hcell : w1.cell? ⟨g, zs.length + k, none⟩ = some (.int .u64 f) := by
        rw [HW.out]
        exact (HA.out.cell (zs.length + k)).trans (HR.out.2.2 _ (by omega) (by omega))
      have hne : (f != f) = false := by simp
      clear HA HB HR HD HW
      go_wp2
      go_round
      case rel => exact ⟨k + 1, by omega, by go_num⟩
      case measure => simp [intOf]; omega
    · have hk3 : k = 3 := by omega
      subst hk3
      clear HA HB HR HD
      go_wp2
      go_ret
      exact ⟨rfl, n, HW.out⟩
end Go.Proofs.YtnljjdfajmjdjaaGreat
