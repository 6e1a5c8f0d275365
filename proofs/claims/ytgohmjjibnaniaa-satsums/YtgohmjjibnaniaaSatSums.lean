/-
  Proved: canterlaw01.SatSums answers true at any list of numbers and any turns, and leaves its arguments as they were. Conditions: none.
-/
import Derived.Test.YtgohmjjibnaniaaRows
import Derived.WalkKit
import Derived.ProofKit
import Derived.OpenShut
import Derived.ShutString
import Derived.ChangeOld
import Derived.Below
import Derived.Test.YtgohmjjibnaniaaAwake
import Derived.Test.YtgohmjjibnaniaaHelp
import Derived.Laws.AppendOwnNone
import Derived.Deep.DeepCutAuto
namespace Go.Proofs.Ytgohmjjibnaniaa.satSums
open Go.ChangeShapes Go.WideShapes Go.ChangeAt Go.RowKit
open Go.ChangeMaps (open_string shut_string)
set_option linter.unusedVariables false

theorem own : ownKnob Try.prog.godebug = none := by kernel_rfl
theorem laidOut : laidOutB Try.prog = true := by kernel_rfl

def IsRow (k : IntKind) (w : World) (a : Option Addr) (len cap : Nat) (zs : List Int) : Prop :=
  (a = none ∧ len = 0 ∧ cap = 0 ∧ zs = []) ∨
  ∃ x, a = some x ∧ len ≤ cap ∧ cap ≤ maxLen ∧ zs.length = cap ∧ (∀ i, i < zs.length → w.cell? (x.add i) = some (.int k (zs.getD i 0))) ∧ ∀ n ∈ zs, (Lit.int k n).wf = true

theorem rd_of_row {w : World} {a : Option Addr} {len cap : Nat} {z : List Int} (h : IsRow .u64 w a len cap z) :
    (z.take len).length = len ∧ len ≤ 9223372036854775807 ∧ (a = none → (z.take len).length = 0 ∧ cap = 0) ∧ Rd .u64 w a (z.take len) ∧ ∀ k, k < (z.take len).length → 0 ≤ (z.take len).getD k 0 ∧ (z.take len).getD k 0 ≤ 18446744073709551615 := by
  rcases h with ⟨rfl, rfl, rfl, rfl⟩ | ⟨x, rfl, hl, hm, hz, hc, hw⟩
  · exact ⟨rfl, by omega, fun _ => ⟨rfl, rfl⟩, fun i hi => by simp at hi, fun k hk => by simp at hk⟩
  · have hlen : (z.take len).length = len := by simp; omega
    have eg : ∀ i, i < len → (z.take len).getD i 0 = z.getD i 0 := fun i hi => by simp [List.getD_eq_getElem?_getD, hi]
    refine ⟨hlen, by unfold maxLen at hm; omega, fun h => (by cases h), fun i hi => ?_, fun k hk => ?_⟩
    · rw [hlen] at hi
      obtain ⟨b, off, e, hat⟩ := ints_at hc (by omega)
      subst e
      have hcell := hat i (by omega)
      exact ⟨b, off, rfl, lt_of_cell hcell, by rw [eg i hi]; exact hcell⟩
    · rw [hlen] at hk
      rw [eg k hk, List.getD_eq_getElem?_getD, List.getElem?_eq_getElem (by omega)]
      exact bounds_u64 (hw _ (List.getElem_mem _))

theorem rd_turns {w : World} {a : Option Addr} {len cap : Nat} {z : List Int} (h : IsRow .i64 w a len cap z) :
    (z.take len).length = len ∧ len ≤ 9223372036854775807 ∧ Rd .i64 w a (z.take len) := by
  rcases h with ⟨rfl, rfl, rfl, rfl⟩ | ⟨x, rfl, hl, hm, hz, hc, hw⟩
  · exact ⟨rfl, by omega, fun i hi => by simp at hi⟩
  · have hlen : (z.take len).length = len := by simp; omega
    have eg : ∀ i, i < len → (z.take len).getD i 0 = z.getD i 0 := fun i hi => by simp [List.getD_eq_getElem?_getD, hi]
    refine ⟨hlen, by unfold maxLen at hm; omega, fun i hi => ?_⟩
    rw [hlen] at hi
    obtain ⟨b, off, e, hat⟩ := ints_at hc (by omega)
    subst e
    have hcell := hat i (by omega)
    exact ⟨b, off, rfl, lt_of_cell hcell, by rw [eg i hi]; exact hcell⟩

/-- What sat.Add makes of all, one behind the other. -/
def sumA (l : List Int) : Int := if l.sum ≤ 18446744073709551615 then l.sum else 18446744073709551615
theorem sumA_bd (l : List Int) (h : 0 ≤ l.sum) : 0 ≤ sumA l ∧ sumA l ≤ 18446744073709551615 := by unfold sumA; split <;> omega
theorem sumA_succ (zs : List Int) (k : Nat) (h : k < zs.length) (h0 : 0 ≤ zs.getD k 0) : sumA (zs.take (k + 1)) = satAdd (sumA (zs.take k)) (zs.getD k 0) := by
  unfold sumA satAdd; rw [sum_take_succ zs k h]; repeat' split
  all_goals omega

theorem sum_set (l : List Int) (i : Nat) (x : Int) (h : i < l.length) : (l.set i x).sum = l.sum - l.getD i 0 + x := by
  induction l generalizing i with
  | nil => simp at h
  | cons a l ih =>
    cases i with
    | zero => simp; omega
    | succ i => simp at h; have := ih i h; simp at this; simp; omega
theorem getD_set (l : List Int) (i j : Nat) (x : Int) (h : i < l.length) : (l.set i x).getD j 0 = if i = j then x else l.getD j 0 := by
  simp only [List.getD_eq_getElem?_getD, List.getElem?_set]
  split <;> simp_all
theorem swap_sum (l : List Int) (p q : Nat) (hp : p < l.length) (hq : q < l.length) : ((l.set p (l.getD q 0)).set q (l.getD p 0)).sum = l.sum := by
  rw [sum_set _ _ _ (by simpa using hq), sum_set _ _ _ hp, getD_set _ _ _ _ hp]
  split
  · rename_i h; subst h; omega
  · omega

/-- The first cells of a row are the numbers ys. -/
def RowIs (cs : Array Value) (ys : List Int) : Prop := ys.length ≤ cs.size ∧ ∀ i, i < ys.length → cs[i]? = some (.int .u64 (ys.getD i 0))
theorem RowIs.put {cs : Array Value} {ys : List Int} (h : RowIs cs ys) (i : Nat) (x : Int) (hi : i < ys.length) : RowIs (cs.setIfInBounds i (.int .u64 x)) (ys.set i x) := by
  obtain ⟨h1, h2⟩ := h
  refine ⟨by simpa using h1, fun j hj => ?_⟩
  rw [List.length_set] at hj
  rw [getD_set _ _ _ _ hi]
  split
  · rename_i e; subst e; rw [Array.getElem?_setIfInBounds_self_of_lt (by omega)]
  · rename_i e; rw [Array.getElem?_setIfInBounds_ne e]; exact h2 j hj

/-- What holds at each round's head: the row is some turn of the list. -/
def Turned (w : World) (zs : List Int) (g : Nat) (wr : World) : Prop :=
  ∃ cs ys, Whole wr g 22 cs ∧ RowIs cs ys ∧ ys.length = zs.length ∧ ys.sum = zs.sum ∧ (∀ k, k < ys.length → 0 ≤ ys.getD k 0 ∧ ys.getD k 0 ≤ 18446744073709551615) ∧ w.heap.size ≤ g ∧ Below w.heap.size w wr

theorem Turned.swap {w wr : World} {zs : List Int} {g p q : Nat} (h : Turned w zs g wr) (hp : p < zs.length) (hq : q < zs.length) :
    ∃ x y, wr.cell? ⟨g, p, none⟩ = some (.int .u64 x) ∧ wr.cell? ⟨g, q, none⟩ = some (.int .u64 y) ∧ wr.frozen? ⟨g, p, none⟩ = false ∧ wr.frozen? ⟨g, q, none⟩ = false ∧
      Turned w zs g ((wr.setCell ⟨g, p, none⟩ (.int .u64 y)).setCell ⟨g, q, none⟩ (.int .u64 x)) := by
  obtain ⟨cs, ys, h1, h2, h3, h4, h5, h6, h7⟩ := h
  refine ⟨ys.getD p 0, ys.getD q 0, by rw [h1.cell, h2.2 p (by omega)], by rw [h1.cell, h2.2 q (by omega)], h1.free _, h1.free _,
    _, _, (h1.put p _).put q _, (h2.put p (ys.getD q 0) (by omega)).put q (ys.getD p 0) (by simp; omega), by simpa using h3, by rw [swap_sum _ _ _ (by omega) (by omega)]; exact h4, fun k hk => ?_, h6, (h7.setCell h6 _).setCell h6 _⟩
  simp only [List.length_set] at hk
  rw [getD_set _ _ _ _ (by simp; omega), getD_set _ _ _ _ (by omega)]
  split
  · exact h5 p (by omega)
  · split
    · exact h5 q (by omega)
    · exact h5 k hk
theorem Turned.drew {w wr : World} {zs : List Int} {g : Nat} (h : Turned w zs g wr) : Turned w zs g wr.drew := by
  obtain ⟨cs, ys, h1, h2, h3, h4, h5, h6, h7⟩ := h
  exact ⟨cs, ys, h1, h2, h3, h4, h5, h6, h7.drew⟩
theorem Turned.start {w w1 : World} {base g cap : Nat} {zs : List Int} (h : w1.ownsRow base 22 1 (.slice (some ⟨g, 0, none⟩) zs.length cap) zs.length (zs.map (Value.int .u64)))
    (hb : Below w.heap.size w w1) (hg : w.heap.size ≤ g) (hz : ∀ k, k < zs.length → 0 ≤ zs.getD k 0 ∧ zs.getD k 0 ≤ 18446744073709551615) : Turned w zs g w1 := by
  rcases h.2 with ⟨h', _⟩ | ⟨g', cap', cur, h', _, hg', hle, _, hsz, htake⟩
  · cases h'
  · cases h'
    refine ⟨cur, zs, hg', ⟨by omega, fun i hi => ?_⟩, rfl, rfl, hz, hg, hb⟩
    have e : (cur.toList.take (zs.length * 1))[i]? = some (.int .u64 (zs.getD i 0)) := by rw [htake]; simp [hi]
    rw [List.getElem?_take, if_pos (by omega)] at e
    simpa using e
theorem sum_none (a : Option Addr) (cap : Nat) (w : World) : Calls Try.prog 9 #[.slice a 0 cap] w fun e w' => e = .returned (.tuple #[.int .u64 0, .int .i64 0]) ∧ w = w' :=
  sum_any a cap [] w (by decide) (fun i hi => by simp at hi) (fun k hk => by simp at hk)

set_option maxHeartbeats 1000000 in
set_option maxRecDepth 100000 in
/-- The list is empty: nil, or not. -/
theorem walk_empty (a0 : Option Addr) (cap0 : Nat) (hn : a0 = none → cap0 = 0) (a1 : Option Addr) (len1 cap1 : Nat) (w : World) (hmaxt : len1 ≤ 9223372036854775807) :
    Calls Try.prog 5 #[.slice a0 0 cap0, .slice a1 len1 cap1] w fun e w' => e = .returned (.bool true) ∧ Below w.heap.size w w' := by
  obtain ⟨i0, hi, hz0, hz1, hz2⟩ := info_parts Try.infoU64
  have HI := Lib.hid hi; have HZ0 := Lib.hid hz0; have HZ1 := Lib.hid hz1; have HZ2 := Lib.hid hz2; clear hi hz0 hz1 hz2
  rcases a0 with _ | ad
  · obtain rfl := hn rfl
    clear hn
    go_enter Try.func5, Try.ntmps5
    go_wp2_with (at_builtin; refine wpList_append_own_none rfl _ _ 23 rfl w.heap.size 22 i0 1 Try.underlying23 HI.out (.slice none 0 0) 0 [] rfl (World.ownsRow_nil _ _ _ _) rfl ?_)
    have HBEL := Lib.hid (Below.refl w.heap.size w)
    go_wp2
    go_loop [6] (fun i => i = .int .i64 0) (fun _ => 0)
    case atStart => exact rfl
    case round =>
      obtain rfl := hrel
      by_cases hts : 0 < len1
      all_goals
        go_wp2_with (go_at_call 9; refine (sum_none _ _ _).mono ?_; rintro e w' ⟨rfl, rfl⟩)
        go_loop [12, 13] (fun t i => i = .int .i64 0 ∧ t = .int .u64 0) (fun _ _ => 0)
        case atStart => exact ⟨rfl, rfl⟩
        case round =>
          obtain ⟨rfl, rfl⟩ := hrel
          have HFIN := Lib.hid (HBEL.out.alloc HBEL.out.size (.cells #[.int .u64 1, .int .u64 2] 22))
          go_wp2_with (go_at_call 7; refine (awake_any _).mono ?_; rintro e w' ⟨rfl, rfl⟩)
          go_ret
          exact ⟨rfl, HFIN.out⟩
  · have HD : Hid (∀ j u, ([] : List Value)[j]? = some u → w.cell? (ad.add j) = some u) := Lib.hid (fun j u h => by simp at h)
    clear hn
    go_enter Try.func5, Try.ntmps5
    go_wp2_with (at_builtin; refine wpList_append_own _ rfl _ _ 23 rfl w.heap.size 22 i0 (.int .u64 0) 1 8 Try.underlying23 HI.out HZ0.out HZ1.out HZ2.out rfl (by decide) (.slice none 0 0) 0 [] rfl (World.ownsRow_nil _ _ _ _) ad 0 _ [] rfl rfl HD.out ?c3 (Nat.zero_le _) (by decide) (Nat.le_refl _) ?_)
    case c3 => intro u hu; cases hu
    intro v1 w1 hown hgrow hnilv
    have HBEL : Hid (Below w.heap.size w w1) := Lib.hid ((Below.refl _ _).grown hgrow (Nat.le_refl _) (fun k h => by cases h))
    obtain rfl := hnilv
    clear hown hgrow
    go_wp2
    go_loop [6] (fun i => i = .int .i64 0) (fun _ => 0)
    case atStart => exact rfl
    case round =>
      obtain rfl := hrel
      by_cases hts : 0 < len1
      all_goals
        go_wp2_with (go_at_call 9; refine (sum_none _ _ _).mono ?_; rintro e w' ⟨rfl, rfl⟩)
        go_loop [12, 13] (fun t i => i = .int .i64 0 ∧ t = .int .u64 0) (fun _ _ => 0)
        case atStart => exact ⟨rfl, rfl⟩
        case round =>
          obtain ⟨rfl, rfl⟩ := hrel
          have HFIN := Lib.hid (HBEL.out.alloc HBEL.out.size (.cells #[.int .u64 1, .int .u64 2] 22))
          go_wp2_with (go_at_call 7; refine (awake_any _).mono ?_; rintro e w' ⟨rfl, rfl⟩)
          go_ret
          exact ⟨rfl, HFIN.out⟩

set_option maxHeartbeats 1000000 in
theorem walk (a0 : Option Addr) (len0 cap0 : Nat) (z0 : List Int) (a1 : Option Addr) (len1 cap1 : Nat) (z1 : List Int) (w : World) (w0 : IsRow .u64 w a0 len0 cap0 z0) (w1 : IsRow .i64 w a1 len1 cap1 z1) :
    Calls Try.prog 5 #[.slice a0 len0 cap0, .slice a1 len1 cap1] w fun e w' => e = .returned (.bool true) ∧ Below w.heap.size w w' := by
  obtain ⟨hlen, hmax, hnil, hrd, hbd⟩ := rd_of_row w0
  obtain ⟨hlent, hmaxt, hrdt⟩ := rd_turns w1
  clear w0 w1
  generalize z0.take len0 = zs at *
  generalize z1.take len1 = ts at *
  subst hlen hlent
  by_cases h : zs.length ≤ 60
  · have hs0 : 0 ≤ zs.sum := by have := sum_take_nonneg zs (fun j hj => (hbd j hj).1) zs.length (Nat.le_refl _); rwa [List.take_length] at this
    have HN := Lib.hid hnil; have HD := Lib.hid hrd; have HB := Lib.hid hbd; have HT := Lib.hid hrdt; clear hnil hrd hbd hrdt
    obtain ⟨i0, hi, hz0, hz1, hz2⟩ := info_parts Try.infoU64
    have HI := Lib.hid hi; have HZ0 := Lib.hid hz0; have HZ1 := Lib.hid hz1; have HZ2 := Lib.hid hz2; clear hi hz0 hz1 hz2
    by_cases hz : zs.length = 0
    · rw [hz]
      exact walk_empty a0 cap0 (fun e => (HN.out e).2) a1 ts.length cap1 w hmaxt
    rcases a0 with _ | ad
    · exact absurd (HN.out rfl).1 hz
    · by_cases hpos : 0 < zs.length
      · go_enter Try.func5, Try.ntmps5
        go_wp2_with (at_builtin; refine wpList_append_own _ rfl _ _ 23 rfl w.heap.size 22 i0 (.int .u64 0) 1 8 Try.underlying23 HI.out HZ0.out HZ1.out HZ2.out rfl (by decide) (.slice none 0 0) 0 [] rfl (World.ownsRow_nil _ _ _ _) ad zs.length _ (zs.map (Value.int .u64)) rfl ?c1 ?c2 ?c3 ?c4 ?c5 (Nat.le_refl _) ?_)
        case c1 => simp
        case c2 => exact rd_cells HD.out (Below.refl _ _) ad rfl
        case c3 => exact ints_oneCell _ _
        case c4 => unfold maxLen; omega
        case c5 => omega
        intro v1 w1 hown hgrow hnilv
        have hbel : Below w.heap.size w w1 := (Below.refl _ _).grown hgrow (Nat.le_refl _) (fun k h => by cases h)
        obtain ⟨g, cap1', rfl, hg⟩ : ∃ g cap', v1 = .slice (some ⟨g, 0, none⟩) zs.length cap' ∧ w.heap.size ≤ g := by
          rcases hown.2 with ⟨_, h0⟩ | ⟨g, cap', cur, hv, hg, _⟩
          · omega
          · exact ⟨g, cap', hv, hg⟩
        have HTU := Lib.hid (Turned.start hown hbel hg HB.out)
        clear hown hgrow hnilv hbel
        go_wp2
        go_loopw [6] (fun i wr => ∃ k : Nat, k ≤ 40 ∧ i = .int .i64 k ∧ Turned w zs g wr) (fun i _ => 40 - (intOf i).toNat)
        case atStart => exact ⟨0, by omega, rfl, HTU.out⟩
        case round =>
          obtain ⟨k, hk, rfl, htu⟩ := hrel
          have HTR := Lib.hid htu; clear htu HTU
          by_cases hin : k < ts.length ∧ k < 40
          · obtain ⟨hin1, hin2⟩ := hin
            obtain ⟨b1, o1, rfl, hb1, hc1⟩ := HT.out k hin1
            have hbel : Below w.heap.size w wr := by obtain ⟨_, _, _, _, _, _, _, _, h⟩ := HTR.out; exact h
            have hcell : wr.cell? ⟨b1, o1 + k, none⟩ = some (.int .i64 (ts.getD k 0)) := (hbel.cell (p := ⟨b1, o1 + k, none⟩) hb1).trans hc1
            obtain ⟨u, hu⟩ : ∃ u : Nat, IntKind.u64.wrap (ts.getD k 0) = (u : Int) := ⟨(IntKind.u64.wrap (ts.getD k 0)).toNat, by rw [IntKind.wrap_u64]; omega⟩
            generalize ts.getD k 0 = t at *
            clear hbel hc1 hb1
            have hq1 : u % zs.length < zs.length := Nat.mod_lt _ hpos
            have hp1 : k % zs.length < zs.length := Nat.mod_lt _ hpos
            obtain ⟨x, y, hx, hy, fx, fy, htu'⟩ := HTR.out.swap hp1 hq1
            have HT' := Lib.hid htu'; clear htu'
            obtain ⟨y2, hy2⟩ : ∃ v, (wr.setCell ⟨g, k % zs.length, none⟩ (.int .u64 y)).cell? ⟨g, u % zs.length, none⟩ = some v := by
              by_cases e : k % zs.length = u % zs.length
              · rw [e]; rw [e] at hx; exact ⟨_, World.cell?_setCell_same _ _ _ hx⟩
              · exact ⟨_, (World.cell?_setCell_other _ _ _ _ (by simpa only [ne_eq, Addr.mk.injEq, true_and, and_true] using e)).trans hy⟩
            go_wp2
            have eq : (u : Int) % (zs.length : Int) = ((u % zs.length : Nat) : Int) := by omega
            rw [eq]
            clear eq hu hcell HTR HD HB HN HI HZ0 HZ1 HZ2 HT
            generalize u % zs.length = q at *
            have t1 : (k : Int).tmod (zs.length : Int) = ((k % zs.length : Nat) : Int) := by rw [Int.tmod_eq_emod_of_nonneg (by omega)]; omega
            generalize k % zs.length = p at *
            go_region
            all_goals go_wp2
            all_goals go_roundw
            case rel => exact ⟨k + 1, by omega, by go_num, HT'.out.drew⟩
            case measure => simp [intOf]; omega
          · have HOUT : Hid (¬ (k < ts.length ∧ k < 40)) := Lib.hid hin
            have hbel : Below w.heap.size w wr := by obtain ⟨_, _, _, _, _, _, _, _, h⟩ := HTR.out; exact h
            have hrdl : Rd .u64 wr (some ad) zs := HD.out.below hbel
            obtain ⟨cs, ys, hwh, hri, hyl, hys, hyb, hgg, _⟩ := HTR.out
            have hrdm : Rd .u64 wr (some ⟨g, 0, none⟩) ys := fun i hi => ⟨g, 0, rfl, hwh.lt, by rw [Nat.zero_add, hwh.cell, hri.2 i hi]⟩
            have HRL := Lib.hid hrdl; have HRM := Lib.hid hrdm; have HYL := Lib.hid hyl; have HYB := Lib.hid hyb; have HBEL := Lib.hid hbel
            have HYV : Hid (sumV ys = sumV zs) := Lib.hid (by unfold sumV; rw [hys])
            have HYE : Hid (sumE ys = sumE zs) := Lib.hid (by unfold sumE; rw [hys])
            clear hbel hrdl hwh hri hyl hys hyb hgg hrdm HTR HT HN HI HZ0 HZ1 HZ2 hin
            have hstop : (k : Int) < (ts.length : Int) → 40 ≤ (k : Int) := by have := HOUT.out; omega
            have HS2 : Hid (Calls Try.prog 9 #[.slice (some ⟨g, 0, none⟩) zs.length cap1'] wr fun e w' => e = .returned (.tuple #[.int .u64 (sumV zs), .int .i64 (sumE zs)]) ∧ wr = w') := by
              have h2 := sum_any (some ⟨g, 0, none⟩) cap1' ys wr (by rw [HYL.out]; exact hmax) HRM.out HYB.out
              rw [HYL.out, HYV.out, HYE.out] at h2
              exact Lib.hid h2
            clear HRM HYB HYL HYV HYE
            by_cases hin1 : k < ts.length
            · have h40 : 40 ≤ k := by have := HOUT.out; omega
              clear HOUT hstop
              go_wp2_with fail
              refine (sum_any _ _ zs wr hmax HRL.out HB.out).mono ?_
              rintro e w' ⟨rfl, rfl⟩
              go_wp2_with fail
              refine HS2.out.mono ?_
              rintro e w' ⟨rfl, rfl⟩
              go_wp2
              go_loop [12, 13] (fun t i => ∃ j : Nat, j ≤ zs.length ∧ i = .int .i64 j ∧ t = .int .u64 (sumA (zs.take j))) (fun _ i => zs.length - (intOf i).toNat)
              case atStart => exact ⟨0, by omega, rfl, by simp [sumA]⟩
              case round =>
                obtain ⟨j, hj, rfl, rfl⟩ := hrel
                by_cases hlt : j < zs.length
                · obtain ⟨c1, c2⟩ := sumA_bd (zs.take j) (sum_take_nonneg zs (fun i hi => (HB.out i hi).1) j hj)
                  obtain ⟨c3, c4⟩ := HB.out j hlt
                  obtain ⟨b, off, hax, _, hc⟩ := HRL.out j hlt
                  cases hax
                  have HSU := Lib.hid (sumA_succ zs j hlt c3)
                  generalize zs.getD j 0 = x at *
                  generalize sumA (zs.take j) = S at *
                  clear HB HRL HS2
                  go_wp2_with (go_at_call 11; refine (add_any _ _ (by omega) (by omega) (by omega) (by omega) _).mono ?_; rintro e w' ⟨rfl, rfl⟩)
                  go_round
                  case rel => exact ⟨j + 1, by omega, by go_num, by rw [HSU.out]⟩
                  case measure => simp [intOf]; omega
                · have hj' : j = zs.length := by omega
                  subst hj'
                  clear HB HRL HS2
                  have HFIN := Lib.hid (HBEL.out.alloc HBEL.out.size (.cells #[.int .u64 1, .int .u64 2] 22))
                  by_cases hfit : zs.sum ≤ 18446744073709551615
                  · have f1 : (sumE zs != 0) = false := by rw [sumE, if_pos hfit]; rfl
                    have f2 : (sumE zs == 0) = true := by rw [sumE, if_pos hfit]; rfl
                    have f3 : (sumV zs == sumA zs) = true := by rw [sumV, sumA, if_pos hfit, if_pos hfit]; simp
                    clear hfit hs0
                    go_wp2_with (go_at_call 7; refine (awake_any _).mono ?_; rintro e w' ⟨rfl, rfl⟩)
                    go_ret
                    exact ⟨rfl, HFIN.out⟩
                  · have f1 : (sumE zs != 0) = true := by rw [sumE, if_neg hfit]; rfl
                    have f2 : (sumE zs == 0) = false := by rw [sumE, if_neg hfit]; rfl
                    have f3 : (sumA zs == 18446744073709551615) = true := by rw [sumA, if_neg hfit]; simp
                    have f4 : (sumV zs == 0) = true := by rw [sumV, if_neg hfit]; rfl
                    clear hfit hs0
                    go_wp2_with (go_at_call 7; refine (awake_any _).mono ?_; rintro e w' ⟨rfl, rfl⟩)
                    go_ret
                    exact ⟨rfl, HFIN.out⟩
            · clear HOUT hstop
              go_wp2_with fail
              refine (sum_any _ _ zs wr hmax HRL.out HB.out).mono ?_
              rintro e w' ⟨rfl, rfl⟩
              go_wp2_with fail
              refine HS2.out.mono ?_
              rintro e w' ⟨rfl, rfl⟩
              go_wp2
              go_loop [12, 13] (fun t i => ∃ j : Nat, j ≤ zs.length ∧ i = .int .i64 j ∧ t = .int .u64 (sumA (zs.take j))) (fun _ i => zs.length - (intOf i).toNat)
              case atStart => exact ⟨0, by omega, rfl, by simp [sumA]⟩
              case round =>
                obtain ⟨j, hj, rfl, rfl⟩ := hrel
                by_cases hlt : j < zs.length
                · obtain ⟨c1, c2⟩ := sumA_bd (zs.take j) (sum_take_nonneg zs (fun i hi => (HB.out i hi).1) j hj)
                  obtain ⟨c3, c4⟩ := HB.out j hlt
                  obtain ⟨b, off, hax, _, hc⟩ := HRL.out j hlt
                  cases hax
                  have HSU := Lib.hid (sumA_succ zs j hlt c3)
                  generalize zs.getD j 0 = x at *
                  generalize sumA (zs.take j) = S at *
                  clear HB HRL HS2
                  go_wp2_with (go_at_call 11; refine (add_any _ _ (by omega) (by omega) (by omega) (by omega) _).mono ?_; rintro e w' ⟨rfl, rfl⟩)
                  go_round
                  case rel => exact ⟨j + 1, by omega, by go_num, by rw [HSU.out]⟩
                  case measure => simp [intOf]; omega
                · have hj' : j = zs.length := by omega
                  subst hj'
                  clear HB HRL HS2
                  have HFIN := Lib.hid (HBEL.out.alloc HBEL.out.size (.cells #[.int .u64 1, .int .u64 2] 22))
                  by_cases hfit : zs.sum ≤ 18446744073709551615
                  · have f1 : (sumE zs != 0) = false := by rw [sumE, if_pos hfit]; rfl
                    have f2 : (sumE zs == 0) = true := by rw [sumE, if_pos hfit]; rfl
                    have f3 : (sumV zs == sumA zs) = true := by rw [sumV, sumA, if_pos hfit, if_pos hfit]; simp
                    clear hfit hs0
                    go_wp2_with (go_at_call 7; refine (awake_any _).mono ?_; rintro e w' ⟨rfl, rfl⟩)
                    go_ret
                    exact ⟨rfl, HFIN.out⟩
                  · have f1 : (sumE zs != 0) = true := by rw [sumE, if_neg hfit]; rfl
                    have f2 : (sumE zs == 0) = false := by rw [sumE, if_neg hfit]; rfl
                    have f3 : (sumA zs == 18446744073709551615) = true := by rw [sumA, if_neg hfit]; simp
                    have f4 : (sumV zs == 0) = true := by rw [sumV, if_neg hfit]; rfl
                    clear hfit hs0
                    go_wp2_with (go_at_call 7; refine (awake_any _).mono ?_; rintro e w' ⟨rfl, rfl⟩)
                    go_ret
                    exact ⟨rfl, HFIN.out⟩
      · omega
  · have h : 60 < zs.length := by omega
    clear hnil hrd hbd hrdt
    go_enter Try.func5, Try.ntmps5
    go_wp2_with (go_at_call 7; refine (awake_any _).mono ?_; rintro e w' ⟨rfl, rfl⟩)
    go_ret
    exact ⟨rfl, (Below.refl _ _).alloc (Nat.le_refl _) _⟩

set_option maxRecDepth 100000 in
theorem lifted (os : Os) (started : os.Started) (H : Type) (enc : TypeId × Value → H) :
    ReturnsInHanded {} Try.checked os 5 .any (Rows.satSumsSpec.pre6 enc Try.prog Try.f5 Rows.satSumsRow.domain false) (Rows.satSumsSpec.post enc Try.prog Try.f5 false true false false) := by
  refine returnsInHanded_of_change (C := Try.checked) own started (by kernel_rfl) Try.func5
    (ChangeSpec.witness6 (enc := enc) (C := Try.checked) false ⟨#[], #[.slice none 0 0, .slice none 0 0], []⟩ 8 (by kernel_rfl) (by kernel_rfl) (by kernel_rfl) (by kernel_rfl)) ?_
  intro W base args ds gs before hval0 hW hcnd _
  have hval : ∀ (j : Nat) t v, Try.f5.params[j]? = some t → args[j]? = some v → Value.okWide Try.prog W .any base t v := hval0
  have hW' := hW
  obtain ⟨p, q, hA0, hV, rfl, hfz, hnd⟩ := hW
  have hA : DataW.TrodAll enc Try.prog W 0 (fun _ => true) true Try.f5.params.toList args.toList ds p := hA0
  rw [Try.params5] at hA hval
  obtain ⟨v0, vs0, d0, ds0, p0, q0, hargs, rfl, rfl, h0, r0⟩ := trodAll_cons hA
  obtain ⟨v1, vs1, d1, ds1, p1, q1, rfl, rfl, rfl, h1, r1⟩ := trodAll_cons r0
  obtain ⟨rfl, rfl, rfl⟩ := trodAll_nil r1
  obtain rfl : args = #[v0, v1] := by cases args; simp_all
  obtain ⟨rfl, rfl⟩ := trodVars_none hV
  obtain ⟨a0, len0, cap0, rfl⟩ := okWide_slice Try.underlying23 (hval 0 23 v0 rfl rfl)
  have k0 := h0
  have lt0 : ∀ x ∈ p0, x.block < W.heap.size := by obtain ⟨m, hm⟩ := k0; exact DataW.trod_lt m _ _ _ hm
  obtain ⟨z0, w0⟩ : ∃ zs, IsRow .u64 W a0 len0 cap0 zs := by
    obtain ⟨fuel, hf⟩ := h0
    rcases open_ints Try.underlying23 Try.underlying22 (by kernel_rfl) hf with ⟨hcs, _⟩ | ⟨x, l, c, zs, hcs, _, hl, hm, hz, _, hcell, hwz⟩
    · simp [Value.cells] at hcs
      obtain ⟨rfl, rfl, rfl⟩ := hcs
      exact ⟨[], .inl ⟨rfl, rfl, rfl, rfl⟩⟩
    · simp [Value.cells] at hcs
      obtain ⟨rfl, rfl, rfl⟩ := hcs
      exact ⟨zs, .inr ⟨_, rfl, hl, hm, by simpa using hz, hcell, hwz⟩⟩
  obtain ⟨a1, len1, cap1, rfl⟩ := okWide_slice Try.underlying35 (hval 1 35 v1 rfl rfl)
  have k1 := h1
  have lt1 : ∀ x ∈ p1, x.block < W.heap.size := by obtain ⟨m, hm⟩ := k1; exact DataW.trod_lt m _ _ _ hm
  obtain ⟨z1, w1⟩ : ∃ zs, IsRow .i64 W a1 len1 cap1 zs := by
    obtain ⟨fuel, hf⟩ := h1
    rcases open_ints Try.underlying35 Try.underlying3 (by kernel_rfl) hf with ⟨hcs, _⟩ | ⟨x, l, c, zs, hcs, _, hl, hm, hz, _, hcell, hwz⟩
    · simp [Value.cells] at hcs
      obtain ⟨rfl, rfl, rfl⟩ := hcs
      exact ⟨[], .inl ⟨rfl, rfl, rfl, rfl⟩⟩
    · simp [Value.cells] at hcs
      obtain ⟨rfl, rfl, rfl⟩ := hcs
      exact ⟨zs, .inr ⟨_, rfl, hl, hm, by simpa using hz, hcell, hwz⟩⟩
  clear hA0 hval0
  refine (walk a0 len0 cap0 z0 a1 len1 cap1 z1 W w0 w1).mono fun e W' ⟨he, bel⟩ => ?_
  subst he
  exact ⟨_, rfl, _, _, _, [], _, [], hW', trodAll_mk1 (shut_bool Try.underlying4 _), (trodAll_cons_mk (Below.trod laidOut (by kernel_rfl) (of_decide_eq_true (by kernel_rfl)) k0 bel lt0) (trodAll_cons_mk (Below.trod laidOut (by kernel_rfl) (of_decide_eq_true (by kernel_rfl)) k1 bel lt1) trodAll_mk0)), rfl, bel.frame _, fun h => by cases h⟩

theorem over : Rows.satSumsRow.holds Try.pinned (OpenSpec.ofChange Rows.satSumsSpec) :=
  OpenClaim.holds_of_wide 5 Try.f5 rfl rfl rfl rfl rfl rfl rfl ⟨rfl, rfl, rfl, rfl, rfl⟩ rfl rfl rfl rfl rfl (by kernel_rfl) Try.func5 (by kernel_rfl)
    (of_decide_eq_true (by kernel_rfl)) (by unfold Func.isWrapper; first | (rw [if_pos (by decide +kernel)]; kernel_rfl) | (rw [if_neg (by decide +kernel)]; exact ⟨rfl, rfl⟩))
    (fun os started H enc _ => lifted os started H enc)

theorem proved : Rows.SatSumsSaid := over
end Go.Proofs.Ytgohmjjibnaniaa.satSums
namespace Go.Proofs.Ytgohmjjibnaniaa
theorem satSums_holds : Rows.SatSumsSaid := satSums.proved
#print axioms satSums_holds
end Go.Proofs.Ytgohmjjibnaniaa
