/-
  What the statements lean on in package canterhelp: Own copies a list of numbers into new memory with three more behind it, Kept tells that both are as they were. Conditions: the list lies in memory as a slice does, and has at most 100 numbers.
-/
import Derived.Test.YtgohmjjibnaniaaMem
import Derived.Test.YtgohmjjibnaniaaChecked
import Derived.WalkSpells
import Derived.WalkLawsBesides
import Derived.LoopTactic
import Derived.OwnWalk
import Derived.Deep.QuietTactic
import Derived.BigQuiet
namespace Go.Proofs.Ytgohmjjibnaniaa
open Go.RowKit

theorem Try.infoU64 : (Try.prog.info? 22).map (fun i => (i.zero, i.size, i.bytes)) = some (some (.int .u64 0), 1, 8) := by kernel_rfl

/-- The row behind Own: the numbers, then k times the fill. -/
def OwnRow (zs : List Int) (f : Int) (k : Nat) (cs : Array Value) : Prop :=
  cs.size = zs.length + 3 ∧ (∀ i, i < zs.length → cs[i]? = some (.int .u64 (zs.getD i 0))) ∧ ∀ i, zs.length ≤ i → i < zs.length + k → cs[i]? = some (.int .u64 f)

theorem OwnRow.step {zs : List Int} {f : Int} {k : Nat} {cs : Array Value} (h : OwnRow zs f k cs) (hk : k < 3) : OwnRow zs f (k + 1) (cs.setIfInBounds (zs.length + k) (.int .u64 f)) := by
  obtain ⟨h1, h2, h3⟩ := h
  refine ⟨by simpa using h1, fun i hi => ?_, fun i hi hi' => ?_⟩
  · rw [Array.getElem?_setIfInBounds_ne (by omega)]; exact h2 i hi
  · by_cases e : i = zs.length + k
    · subst e; rw [Array.getElem?_setIfInBounds_self_of_lt (by omega)]
    · rw [Array.getElem?_setIfInBounds_ne (by omega)]; exact h3 i hi (by omega)

theorem rd_cells {k : IntKind} {w w' : World} {a : Option Addr} {zs : List Int} (h : Rd k w a zs) (hb : Below w.heap.size w w') :
    ∀ ad, a = some ad → ∀ j u, (zs.map (Value.int k))[j]? = some u → w'.cell? (ad.add j) = some u := by
  intro ad ha j u hu
  obtain ⟨hj, e⟩ := List.getElem?_eq_some_iff.1 hu
  have hj' : j < zs.length := by simpa using hj
  obtain ⟨b, off, e1, hlt, hc⟩ := h j hj'
  rw [ha] at e1
  cases e1
  rw [Go.WideShapes.add_plain, hb.cell (p := ⟨b, off + j, none⟩) hlt, hc, ← e]
  simp [hj']

theorem row_of_own {w : World} {base g : Nat} {zs : List Int} {f : Int} (h : w.ownsRow base 22 1 (.slice (some ⟨g, 0, none⟩) zs.length (zs.length + 3)) zs.length (zs.map (Value.int .u64))) :
    ∃ cs, Whole w g 22 cs ∧ OwnRow zs f 0 cs := by
  rcases h.2 with ⟨h', _⟩ | ⟨g', cap', cur, h', _, hg, _, _, hsz, htake⟩
  · cases h'
  · cases h'
    refine ⟨cur, hg, by simpa using hsz, fun i hi => ?_, fun i h1 h2 => by omega⟩
    have e : (cur.toList.take (zs.length * 1))[i]? = some (.int .u64 (zs.getD i 0)) := by rw [htake]; simp [hi]
    rw [List.getElem?_take, if_pos (by omega)] at e
    simpa using e

set_option maxHeartbeats 1000000 in
theorem own_any (a : Option Addr) (cap : Nat) (zs : List Int) (f : Int) (w : World) (hlen : zs.length ≤ 100) (hnil : a = none → zs.length = 0 ∧ cap = 0) (hc : Rd .u64 w a zs) :
    Calls Try.prog 8 #[.slice a zs.length cap, .int .u64 f] w fun e w' =>
      ∃ cs, e = .returned (.slice (some ⟨w.heap.size, 0, none⟩) zs.length (zs.length + 3)) ∧ Whole w' w.heap.size 22 cs ∧ OwnRow zs f 3 cs ∧ Below w.heap.size w w' := by
  obtain ⟨i0, hi, hz0, hz1, hz2⟩ := info_parts Try.infoU64
  have HC := Lib.hid hc; have HN := Lib.hid hnil; have HI := Lib.hid hi; have HZ0 := Lib.hid hz0; have HZ1 := Lib.hid hz1; have HZ2 := Lib.hid hz2; clear hc hnil hi hz0 hz1 hz2
  go_enter Try.func8, Try.ntmps8
  go_wp2_with (at_make; refine wpList_make_own _ rfl _ _ 23 rfl w.heap.size 22 i0 (.int .u64 0) 1 Try.underlying23 HI.out HZ0.out HZ1.out _ _ _ (zs.length + 3) rfl rfl (by omega) ?b2 ?b3 (Nat.le_refl _) ?_)
  case b2 => rw [HZ2.out]; omega
  case b3 => unfold maxLen; omega
  intro w0 hown0 hgrow0
  have HB0 : Hid (Below w.heap.size w w0) := Lib.hid ((Below.refl _ _).grown hgrow0 (Nat.le_refl _) (fun k h => by cases h))
  have HO0 := Lib.hid hown0; have HG0 := Lib.hid hgrow0; clear hown0 hgrow0
  go_wp2_with (at_builtin; refine wpList_append_fits_any _ rfl _ _ 23 rfl w.heap.size 22 i0 1 Try.underlying23 HI.out HZ1.out w.heap.size 0 (zs.length + 3) _ rfl HO0.out _ zs.length _ (zs.map (Value.int .u64)) rfl ?c1 ?c2 ?c3 ?c4 (by omega) ?_)
  case c1 => simp
  case c2 => exact fun h => HN.out h
  case c3 => exact rd_cells HC.out HB0.out
  case c4 => exact ints_oneCell _ _
  intro w1 hown1 hgrow1
  have hb1 : Below w.heap.size w w1 := HB0.out.grown hgrow1 HB0.out.size (fun k h => by cases h; exact Nat.le_refl _)
  obtain ⟨cs, hcs, hrow⟩ := row_of_own (f := f) hown1
  have HB1 := Lib.hid hb1; have HCS := Lib.hid hcs; have HROW := Lib.hid hrow; clear hown1 hgrow1 hb1 hcs hrow HO0 HG0 HB0
  go_wp2
  go_loopw [7] (fun i wr => ∃ k : Nat, k ≤ 3 ∧ i = .int .i64 (zs.length + k : Nat) ∧ ∃ cs, Whole wr w.heap.size 22 cs ∧ OwnRow zs f k cs ∧ Below w.heap.size w wr) (fun i _ => zs.length + 3 - (intOf i).toNat)
  case atStart => exact ⟨0, by omega, by simp, cs, HCS.out, HROW.out, HB1.out⟩
  case round =>
    obtain ⟨k, hk, rfl, cs, hcs, hrow, hb⟩ := hrel
    by_cases hlt : k < 3
    · have hcell : ∃ v, wr.cell? ⟨w.heap.size, zs.length + k, none⟩ = some v := by
        have e := hcs.cell (zs.length + k)
        have hsz := hrow.1
        rw [Array.getElem?_eq_getElem (by omega)] at e
        exact ⟨_, e⟩
      obtain ⟨v, hcell⟩ := hcell
      have hfree := hcs.free (zs.length + k)
      have R := Lib.hid (⟨_, hcs.put (zs.length + k) (.int .u64 f), hrow.step hlt, hb.setCell (Nat.le_refl _) (p := ⟨w.heap.size, zs.length + k, none⟩) (.int .u64 f)⟩ : ∃ cs, Whole (wr.setCell ⟨w.heap.size, zs.length + k, none⟩ (.int .u64 f)) w.heap.size 22 cs ∧ OwnRow zs f (k + 1) cs ∧ Below w.heap.size w (wr.setCell ⟨w.heap.size, zs.length + k, none⟩ (.int .u64 f)))
      clear hcs hrow hb HCS HROW HB1
      go_wp2
      go_roundw
      case rel => exact ⟨k + 1, by omega, by go_num, R.out⟩
      case measure => simp [intOf]; omega
    · have hk3 : k = 3 := by omega
      subst hk3
      have R := Lib.hid (⟨_, hcs, hrow, hb⟩ : ∃ cs, Whole wr w.heap.size 22 cs ∧ OwnRow zs f 3 cs ∧ Below w.heap.size w wr)
      clear hcs hrow hb HCS HROW HB1
      go_wp2
      go_ret
      obtain ⟨cs, h1, h2, h3⟩ := R.out
      exact ⟨cs, rfl, h1, h2, h3⟩
end Go.Proofs.Ytgohmjjibnaniaa
