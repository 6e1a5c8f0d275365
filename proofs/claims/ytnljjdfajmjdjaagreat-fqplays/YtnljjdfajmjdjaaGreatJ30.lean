/-
  Package fq: Len, rate, May. Conditions: the queue lies in memory.
-/
import Derived.Test.YtnljjdfajmjdjaaGreatJ28
import Derived.Deep.MidRow
import Derived.Deep.LoopGhost
import Derived.LoopTactic
namespace Go.Proofs.YtnljjdfajmjdjaaGreat
open Go.RowKit
set_option maxRecDepth 100000

theorem Tryz.idxF (cs : Array Value) (k : Nat) (hk : k < 8) (w : World) : (Instr.index 65 (.agg cs) (.int .i64 (k : Int))).run Tryz.prog w = .ok (.agg (cs.extract (k * 5) (k * 5 + 5))) w := by
  have hn : (0 : Int) ≤ (k : Int) ∧ (k : Int) < ((8 : Nat) : Int) := by omega
  simp [Instr.index, run_underlying Tryz.underlying65, asIntOf, hn, go_sem]
  intro h; omega
theorem Tryz.sizeF : (Tryz.prog.info? 65).map (·.size) = some 40 := by kernel_rfl
theorem five {cs : Array Value} {o : Nat} {a b c d e : Value} (h0 : cs[o]? = some a) (h1 : cs[o + 1]? = some b) (h2 : cs[o + 2]? = some c) (h3 : cs[o + 3]? = some d) (h4 : cs[o + 4]? = some e) : cs.extract o (o + 5) = #[a, b, c, d, e] := by
  have hsz := (Array.getElem?_eq_some_iff.1 h4).1
  apply Array.ext_getElem?
  intro j
  rw [Array.getElem?_extract]
  by_cases hj : j < 5
  · rw [if_pos (by omega)]
    match j, hj with
    | 0, _ => exact h0
    | 1, _ => exact h1
    | 2, _ => exact h2
    | 3, _ => exact h3
    | 4, _ => exact h4
  · rw [if_neg (by omega), Array.getElem?_eq_none (by simp; omega)]
def lenK (x : Qm) (k : Nat) : Nat := ((List.range k).map fun i => (x.F i).q.length).sum
theorem lenK_all (x : Qm) : lenK x 8 = lenQ x := rfl
theorem lenK_succ (x : Qm) (k : Nat) : lenK x (k + 1) = lenK x k + (x.F k).q.length := by simp [lenK, List.range_succ]
theorem lenK_le (x : Qm) : ∀ {k m : Nat}, k ≤ m → lenK x k ≤ lenK x m
  | k, 0, h => by
    obtain rfl : k = 0 := by omega
    exact Nat.le_refl _
  | k, m + 1, h => by
    by_cases e : k = m + 1
    · subst e; exact Nat.le_refl _
    · have := lenK_le x (k := k) (m := m) (by omega)
      rw [lenK_succ]; omega
section
variable {w w' : World} {g tg : Nat} {S : Nat → Prop} {cs : Array Value} {v : Nat → Value} {ks : List Key} {x : Qm}
set_option maxHeartbeats 1000000 in
theorem FQw.len (h : FQw w g tg S cs v ks x) (hmax : lenQ x ≤ 512) :
    Calls Tryz.prog 23 #[.pointer (some ⟨g, 0, none⟩)] w fun e w' => e = .returned (.int .i64 (lenQ x : Int)) ∧ Keep (fun _ => False) w w' := by
  obtain ⟨ds, hds⟩ : ∃ ds, ds = cs.extract 9 49 := ⟨_, rfl⟩
  have hget : ∀ j, j < 40 → ds[j]? = cs[9 + j]? := fun j hj => by
    have := h.c.size
    rw [hds, Array.getElem?_extract, if_pos (by omega)]
  have hsz : ds.size = 40 := by have := h.c.size; rw [hds, Array.size_extract]; omega
  have HR : Hid (w.rangeAt g 9 ds.toList) := Lib.hid fun j u hu => by
    have hu' : ds[j]? = some u := by simpa using hu
    rw [h.whole.cell, ← hget j (by have := (Array.getElem?_eq_some_iff.1 hu').1; omega)]
    exact hu'
  have HS' : Hid ((Tryz.prog.info? 65).map (·.size) = some ds.toList.length) := Lib.hid (by rw [Array.length_toList, hsz]; exact Tryz.sizeF)
  have H := Lib.hid h; have HM := Lib.hid hmax
  have HD : Hid (∀ k, k < 8 → ∃ a cap, v k = .slice a (x.F k).q.length cap ∧ ds.extract (k * 5) (k * 5 + 5) = #[.bool (x.T k), .int .i64 (x.F k).c, .int .u64 (x.F k).n, .int .u64 (x.F k).u, .slice a (x.F k).q.length cap]) := Lib.hid fun k hk => by
    obtain ⟨a, cap, e, _⟩ := (h.q k hk).shape
    refine ⟨a, cap, e, five ?_ ?_ ?_ ?_ ?_⟩
    · rw [hget _ (by omega)]; exact h.c.f k hk 0 (by omega)
    · rw [hget _ (by omega)]; exact h.c.f k hk 1 (by omega)
    · rw [hget _ (by omega)]; exact h.c.f k hk 2 (by omega)
    · rw [hget _ (by omega)]; exact h.c.f k hk 3 (by omega)
    · rw [hget _ (by omega), ← e]; exact h.c.f k hk 4 (by omega)
  have HE := Lib.hid hsz
  clear h hmax hds hget hsz
  go_enter Tryz.func23, Tryz.ntmps23
  go_wp2_with (refine wpList_load_mid rfl 65 (.tmp 10) rfl g 9 rfl ds.toList _ HR.out Tryz.underlying65 rfl HS'.out ?_)
  go_loopw [3, 12] (fun s3 i wr => ∃ k : Nat, k ≤ 8 ∧ i = .int .i64 k ∧ s3 = .int .i64 (lenK x k : Int) ∧ Keep (fun _ => False) w wr) (fun _ i _ => 8 - (intOf i).toNat)
  case atStart => exact ⟨0, by omega, rfl, rfl, Keep.refl _ _⟩
  case round =>
    obtain ⟨k, hk, rfl, rfl, hK⟩ := hrel
    have HK := Lib.hid hK; clear hK
    by_cases hlt : k < 8
    · obtain ⟨a, cap, _, hx⟩ := HD.out k hlt
      have hi1 : (k : Int) < 8 := by omega
      have hidx := fun W => Tryz.idxF ds k hlt W
      rw [hx] at hidx
      have HL : Hid ((lenK x (k + 1) : Nat) = lenK x k + (x.F k).q.length) := Lib.hid (lenK_succ x k)
      have hle := lenK_le x (k := k + 1) (m := 8) hlt
      rw [lenK_all, HL.out] at hle
      have hm := HM.out
      obtain ⟨p, hp⟩ : ∃ p, p = lenK x k := ⟨_, rfl⟩
      obtain ⟨q, hq⟩ : ∃ q, q = (x.F k).q.length := ⟨_, rfl⟩
      rw [← hp, ← hq] at HL hle
      rw [← hq] at hidx
      rw [← hp]
      have hw : IntKind.i64.wrap ((p : Int) + (q : Int)) = ((p + q : Nat) : Int) := by rw [IntKind.wrap_i64]; omega
      have HW := Lib.hid hw
      clear hx hp hq hle hm
      go_wp2
      go_roundw
      case rel =>
        exact ⟨k + 1, by omega, by go_num, by rw [HL.out, Int.natCast_add], HK.out.alloc _⟩
      case measure => simp [intOf]; omega
    · obtain rfl : k = 8 := by omega
      clear hlt
      go_wp2
      go_ret
      exact ⟨ret_i (by rw [lenK_all]), HK.out⟩

/-- The rate of a socket: as it is told, or none. -/
def rateAt (rs : List Int) (i : Nat) : Int := rs.getD i 18446744073709551615
theorem rateAt_fit {rs : List Int} (h : ∀ r ∈ rs, U64 r) (i : Nat) : U64 (rateAt rs i) := by
  unfold rateAt
  by_cases hi : i < rs.length
  · rw [List.getD_eq_getElem?_getD, List.getElem?_eq_getElem hi]
    exact h _ (List.getElem_mem hi)
  · rw [List.getD_eq_getElem?_getD, List.getElem?_eq_none (by omega)]
    exact ⟨by decide, by decide⟩
/-- How long a segment takes, at the lesser rate. -/
def dlyQ (rs : List Int) (r : Int) (l z : Int) : Int := delV l (lesV (rateAt rs z.toNat) r)
theorem dlyQ_bd {rs : List Int} {r : Int} (h : ∀ r ∈ rs, U64 r) (hr : U64 r) (l z : Int) : 0 ≤ dlyQ rs r l z ∧ dlyQ rs r l z ≤ 1000000000 := by
  have h1 := rateAt_fit h z.toNat
  have := (lesV_bd h1.1 h1.2 hr.1 hr.2).1
  exact delV_bd l (by omega)
set_option maxHeartbeats 400000 in
theorem FQw.rate (h : FQw w g tg S cs v ks x) {i : Nat} (a : Option Addr) (cap : Nat) (rs : List Int) (hr : Rd .u64 w a rs) (hb : ∀ r ∈ rs, U64 r) (hm : U64 x.c.r) {r : Int} (e : lesV (rateAt rs i) x.c.r = r) :
    Calls Tryz.prog 33 #[.pointer (some ⟨g, 0, none⟩), .int .i64 (i : Int), .slice a rs.length cap] w fun e w' => e = .returned (.int .u64 r) ∧ w = w' := by
  have cr : w.cell? ⟨g, 5, none⟩ = some (.int .u64 x.c.r) := h.cf (j := 5) (by omega)
  have HF := Lib.hid (rateAt_fit hb i); have HM := Lib.hid hm; have HE := Lib.hid e
  clear h hb hm e
  by_cases hlt : i < rs.length
  · obtain ⟨b, off, rfl, _, ci⟩ := hr i hlt
    have hi1 : (i : Int) < (rs.length : Int) := by omega
    have hv : rateAt rs i = rs.getD i 0 := by
      unfold rateAt
      rw [List.getD_eq_getElem?_getD, List.getD_eq_getElem?_getD, List.getElem?_eq_getElem hlt]; rfl
    rw [← hv] at ci
    obtain ⟨p, hp⟩ : ∃ p, p = rateAt rs i := ⟨_, rfl⟩
    rw [← hp] at ci HF HE
    clear hp hr hv
    go_enter Tryz.func33, Tryz.ntmps33
    go_wp2_with fail
    refine (les_any p x.c.r HF.out.1 HF.out.2 HM.out.1 HM.out.2 w).mono ?_
    rintro e w1 ⟨rfl, rfl⟩
    go_wp2
    go_ret
    exact ⟨ret_i HE.out, rfl⟩
  · have hi1 : ¬ (i : Int) < (rs.length : Int) := by omega
    have hv : rateAt rs i = 18446744073709551615 := by
      unfold rateAt
      rw [List.getD_eq_getElem?_getD, List.getElem?_eq_none (by omega)]; rfl
    rw [hv] at HF HE
    clear hr hv
    go_enter Tryz.func33, Tryz.ntmps33
    go_wp2_with fail
    refine (les_any 18446744073709551615 x.c.r HF.out.1 HF.out.2 HM.out.1 HM.out.2 w).mono ?_
    rintro e w1 ⟨rfl, rfl⟩
    go_wp2
    go_ret
    exact ⟨ret_i HE.out, rfl⟩
end

/-! ### May -/
instance (c : Cf) : Decidable c.Ok := decidable_of_iff ((100 ≤ c.q ∧ c.q ≤ 65536) ∧ (100 ≤ c.f ∧ c.f ≤ 65536) ∧ (1 ≤ c.l ∧ c.l ≤ 512) ∧ (1 ≤ c.w ∧ c.w ≤ 512) ∧ (0 ≤ c.h ∧ c.h ≤ 4611686018427387904) ∧ (0 ≤ c.r ∧ c.r ≤ 18446744073709551615) ∧ (1 ≤ c.k ∧ c.k ≤ 1073741824) ∧ (100 ≤ c.m ∧ c.m ≤ 9000))
  ⟨fun ⟨a, b, c, d, e, f, g, h⟩ => ⟨a, b, c, d, e, f, g, h⟩, fun h => ⟨h.hq, h.hf, h.hl, h.hw, h.hh, h.hr, h.hk, h.hm⟩⟩
set_option maxHeartbeats 2000000 in
theorem may_any (c : Cf) (hr : U64 c.r) (hh : U64 c.h) (b : Bool) (hb : b = decide c.Ok) (w : World) : Calls Tryz.prog 14 #[c.v] w fun e w' => e = .returned (.bool b) ∧ Keep (fun _ => False) w w' := by
  have HB : Hid (((100 ≤ c.q ∧ c.q ≤ 65536) ∧ (100 ≤ c.f ∧ c.f ≤ 65536) ∧ (1 ≤ c.l ∧ c.l ≤ 512) ∧ (1 ≤ c.w ∧ c.w ≤ 512) ∧ c.h ≤ 4611686018427387904 ∧ (1 ≤ c.k ∧ c.k ≤ 1073741824) ∧ (100 ≤ c.m ∧ c.m ≤ 9000)) ↔ b = true) := Lib.hid (by
    rw [hb, decide_eq_true_iff]
    exact ⟨fun ⟨a, b, c, d, e, f, g⟩ => ⟨a, b, c, d, ⟨hh.1, e⟩, hr, f, g⟩, fun h => ⟨h.hq, h.hf, h.hl, h.hw, h.hh.2, h.hk, h.hm⟩⟩)
  obtain ⟨q, f, l, m, h, r, d, k, s⟩ := c
  clear hb hr hh
  dsimp only [Cf.v] at *
  have K := Lib.hid ((Keep.refl (fun _ => False) w).alloc (.cells #[.int .i64 q, .int .i64 f, .int .i64 l, .int .i64 m, .int .u64 h, .int .u64 r, .bool d, .int .i64 k, .int .i64 s] 24))
  have HT : Hid (∀ (u : Bool), (100 ≤ q ∧ q ≤ 65536) → (100 ≤ f ∧ f ≤ 65536) → (1 ≤ l ∧ l ≤ 512) → (1 ≤ m ∧ m ≤ 512) → h ≤ 4611686018427387904 → (1 ≤ k ∧ k ≤ 1073741824) → (100 ≤ s ∧ s ≤ 9000 ↔ u = true) → u = b) := Lib.hid (fun u a1 a2 a3 a4 a5 a6 a7 => by
    have := HB.out
    cases b <;> cases u <;> simp_all)
  have HF : Hid (¬ ((100 ≤ q ∧ q ≤ 65536) ∧ (100 ≤ f ∧ f ≤ 65536) ∧ (1 ≤ l ∧ l ≤ 512) ∧ (1 ≤ m ∧ m ≤ 512) ∧ h ≤ 4611686018427387904 ∧ (1 ≤ k ∧ k ≤ 1073741824)) → false = b) := Lib.hid (fun hn => by
    have := HB.out
    cases b
    · rfl
    · exact absurd (let ⟨a1, a2, a3, a4, a5, a6, _⟩ := this.2 rfl; ⟨a1, a2, a3, a4, a5, a6⟩) hn)
  clear HB
  go_enter Tryz.func14, Tryz.ntmps14
  go_wp2_with fail
  by_cases h1 : 100 ≤ q ∧ q ≤ 65536
  · refine (within_any _ _ _ true (decide_eq_true h1).symm _).mono ?_
    rintro e w1 ⟨rfl, rfl⟩
    have H1 := Lib.hid h1; clear h1
    go_wp2_with fail
    by_cases h2 : 100 ≤ f ∧ f ≤ 65536
    · refine (within_any _ _ _ true (decide_eq_true h2).symm _).mono ?_
      rintro e w1 ⟨rfl, rfl⟩
      have H2 := Lib.hid h2; clear h2
      go_wp2_with fail
      by_cases h3 : 1 ≤ l ∧ l ≤ 512
      · refine (within_any _ _ _ true (decide_eq_true h3).symm _).mono ?_
        rintro e w1 ⟨rfl, rfl⟩
        have H3 := Lib.hid h3; clear h3
        go_wp2_with fail
        by_cases h4 : 1 ≤ m ∧ m ≤ 512
        · refine (within_any _ _ _ true (decide_eq_true h4).symm _).mono ?_
          rintro e w1 ⟨rfl, rfl⟩
          have H4 := Lib.hid h4; clear h4
          by_cases h5 : h ≤ 4611686018427387904
          · have H5 : Hid (h ≤ 4611686018427387904) := Lib.hid h5
            go_wp2_with fail
            by_cases h6 : 1 ≤ k ∧ k ≤ 1073741824
            · refine (within_any _ _ _ true (decide_eq_true h6).symm _).mono ?_
              rintro e w1 ⟨rfl, rfl⟩
              have H6 := Lib.hid h6; clear h6
              go_wp2_with fail
              refine (within_any _ _ _ _ rfl _).mono ?_
              rintro e w1 ⟨rfl, rfl⟩
              have HX : Hid (decide (100 ≤ s ∧ s ≤ 9000) = b) := Lib.hid (HT.out _ H1.out H2.out H3.out H4.out H5.out H6.out decide_eq_true_iff.symm)
              rw [HX.out]
              go_wp2
              go_ret
              exact ⟨rfl, K.out⟩
            · refine (within_any _ _ _ false (decide_eq_false h6).symm _).mono ?_
              rintro e w1 ⟨rfl, rfl⟩
              have HN := Lib.hid (HF.out (fun a => h6 a.2.2.2.2.2)); clear h6
              go_wp2
              go_ret
              exact ⟨ret_b HN.out, K.out⟩
          · have HN := Lib.hid (HF.out (fun a => h5 a.2.2.2.2.1))
            go_wp2
            go_ret
            exact ⟨ret_b HN.out, K.out⟩
        · refine (within_any _ _ _ false (decide_eq_false h4).symm _).mono ?_
          rintro e w1 ⟨rfl, rfl⟩
          have HN := Lib.hid (HF.out (fun a => h4 a.2.2.2.1)); clear h4
          go_wp2
          go_ret
          exact ⟨ret_b HN.out, K.out⟩
      · refine (within_any _ _ _ false (decide_eq_false h3).symm _).mono ?_
        rintro e w1 ⟨rfl, rfl⟩
        have HN := Lib.hid (HF.out (fun a => h3 a.2.2.1)); clear h3
        go_wp2
        go_ret
        exact ⟨ret_b HN.out, K.out⟩
    · refine (within_any _ _ _ false (decide_eq_false h2).symm _).mono ?_
      rintro e w1 ⟨rfl, rfl⟩
      have HN := Lib.hid (HF.out (fun a => h2 a.2.1)); clear h2
      go_wp2
      go_ret
      exact ⟨ret_b HN.out, K.out⟩
  · refine (within_any _ _ _ false (decide_eq_false h1).symm _).mono ?_
    rintro e w1 ⟨rfl, rfl⟩
    have HN := Lib.hid (HF.out (fun a => h1 a.1)); clear h1
    go_wp2
    go_ret
    exact ⟨ret_b HN.out, K.out⟩
end Go.Proofs.YtnljjdfajmjdjaaGreat
