/-
  Package fq: Len, rate, May. Conditions: the queue lies in memory.
  Package fq: Enqueue: the fate of a segment, its errors, and what it leaves. Conditions: the queue lies in memory.
-/
import Derived.Test.YtnljjdfajmjdjaaJ21
import Derived.Test.YtnljjdfajmjdjaaJ22
import Derived.Deep.MidRow
import Derived.Deep.LoopGhost
import Derived.LoopTactic
namespace Go.Proofs.Ytnljjdfajmjdjaa
open Go.RowKit
set_option maxRecDepth 100000

theorem Try.idxF (cs : Array Value) (k : Nat) (hk : k < 8) (w : World) : (Instr.index 75 (.agg cs) (.int .i64 (k : Int))).run Try.prog w = .ok (.agg (cs.extract (k * 5) (k * 5 + 5))) w := by
  have hn : (0 : Int) ≤ (k : Int) ∧ (k : Int) < ((8 : Nat) : Int) := by omega
  simp [Instr.index, run_underlying Try.underlying75, asIntOf, hn, go_sem]
  intro h; omega
theorem Try.sizeF : (Try.prog.info? 75).map (·.size) = some 40 := by kernel_rfl
theorem five {cs : Array Value} {o : Nat} {a b c d e : Value} (h0 : cs[o]? = some a) (h1 : cs[o + 1]? = some b) (h2 : cs[o + 2]? = some c) (h3 : cs[o + 3]? = some d) (h4 : cs[o + 4]? = some e) : cs.extract o (o + 5) = #[a, b, c, d, e] := by
  have hsz := (Array.getElem?_eq_some_iff.1 h4).1
  apply Array.ext_getElem?
  intro j
  rw [Array.getElem?_extract]
  by_cases hj : j < 5
  · rw [if_pos (by omega)]
    match j, hj with
    | 0, _ => exact h0
    | 1, _ => exact h1
    | 2, _ => exact h2
    | 3, _ => exact h3
    | 4, _ => exact h4
  · rw [if_neg (by omega), Array.getElem?_eq_none (by simp; omega)]
def lenK (x : Qm) (k : Nat) : Nat := ((List.range k).map fun i => (x.F i).q.length).sum
theorem lenK_all (x : Qm) : lenK x 8 = lenQ x := rfl
theorem lenK_succ (x : Qm) (k : Nat) : lenK x (k + 1) = lenK x k + (x.F k).q.length := by simp [lenK, List.range_succ]
theorem lenK_le (x : Qm) : ∀ {k m : Nat}, k ≤ m → lenK x k ≤ lenK x m
  | k, 0, h => by
    obtain rfl : k = 0 := by omega
    exact Nat.le_refl _
  | k, m + 1, h => by
    by_cases e : k = m + 1
    · subst e; exact Nat.le_refl _
    · have := lenK_le x (k := k) (m := m) (by omega)
      rw [lenK_succ]; omega
section
variable {w w' : World} {g tg : Nat} {S : Nat → Prop} {cs : Array Value} {v : Nat → Value} {ks : List Key} {x : Qm}
set_option maxHeartbeats 1000000 in
theorem FQw.len (h : FQw w g tg S cs v ks x) (hmax : lenQ x ≤ 512) :
    Calls Try.prog 25 #[.pointer (some ⟨g, 0, none⟩)] w fun e w' => e = .returned (.int .i64 (lenQ x : Int)) ∧ Keep (fun _ => False) w w' := by
  obtain ⟨ds, hds⟩ : ∃ ds, ds = cs.extract 9 49 := ⟨_, rfl⟩
  have hget : ∀ j, j < 40 → ds[j]? = cs[9 + j]? := fun j hj => by
    have := h.c.size
    rw [hds, Array.getElem?_extract, if_pos (by omega)]
  have hsz : ds.size = 40 := by have := h.c.size; rw [hds, Array.size_extract]; omega
  have HR : Hid (w.rangeAt g 9 ds.toList) := Lib.hid fun j u hu => by
    have hu' : ds[j]? = some u := by simpa using hu
    rw [h.whole.cell, ← hget j (by have := (Array.getElem?_eq_some_iff.1 hu').1; omega)]
    exact hu'
  have HS' : Hid ((Try.prog.info? 75).map (·.size) = some ds.toList.length) := Lib.hid (by rw [Array.length_toList, hsz]; exact Try.sizeF)
  have H := Lib.hid h; have HM := Lib.hid hmax
  have HD : Hid (∀ k, k < 8 → ∃ a cap, v k = .slice a (x.F k).q.length cap ∧ ds.extract (k * 5) (k * 5 + 5) = #[.bool (x.T k), .int .i64 (x.F k).c, .int .u64 (x.F k).n, .int .u64 (x.F k).u, .slice a (x.F k).q.length cap]) := Lib.hid fun k hk => by
    obtain ⟨a, cap, e, _⟩ := (h.q k hk).shape
    refine ⟨a, cap, e, five ?_ ?_ ?_ ?_ ?_⟩
    · rw [hget _ (by omega)]; exact h.c.f k hk 0 (by omega)
    · rw [hget _ (by omega)]; exact h.c.f k hk 1 (by omega)
    · rw [hget _ (by omega)]; exact h.c.f k hk 2 (by omega)
    · rw [hget _ (by omega)]; exact h.c.f k hk 3 (by omega)
    · rw [hget _ (by omega), ← e]; exact h.c.f k hk 4 (by omega)
  have HE := Lib.hid hsz
  clear h hmax hds hget hsz
  go_enter Try.func25, Try.ntmps25
  go_wp2_with (refine wpList_load_mid rfl 75 (.tmp 10) rfl g 9 rfl ds.toList _ HR.out Try.underlying75 rfl HS'.out ?_)
  go_loopw [3, 12] (fun s3 i wr => ∃ k : Nat, k ≤ 8 ∧ i = .int .i64 k ∧ s3 = .int .i64 (lenK x k : Int) ∧ Keep (fun _ => False) w wr) (fun _ i _ => 8 - (intOf i).toNat)
  case atStart => exact ⟨0, by omega, rfl, rfl, Keep.refl _ _⟩
  case round =>
    obtain ⟨k, hk, rfl, rfl, hK⟩ := hrel
    have HK := Lib.hid hK; clear hK
    by_cases hlt : k < 8
    · obtain ⟨a, cap, _, hx⟩ := HD.out k hlt
      have hi1 : (k : Int) < 8 := by omega
      have hidx := fun W => Try.idxF ds k hlt W
      rw [hx] at hidx
      have HL : Hid ((lenK x (k + 1) : Nat) = lenK x k + (x.F k).q.length) := Lib.hid (lenK_succ x k)
      have hle := lenK_le x (k := k + 1) (m := 8) hlt
      rw [lenK_all, HL.out] at hle
      have hm := HM.out
      obtain ⟨p, hp⟩ : ∃ p, p = lenK x k := ⟨_, rfl⟩
      obtain ⟨q, hq⟩ : ∃ q, q = (x.F k).q.length := ⟨_, rfl⟩
      rw [← hp, ← hq] at HL hle
      rw [← hq] at hidx
      rw [← hp]
      have hw : IntKind.i64.wrap ((p : Int) + (q : Int)) = ((p + q : Nat) : Int) := by rw [IntKind.wrap_i64]; omega
      have HW := Lib.hid hw
      clear hx hp hq hle hm
      go_wp2
      go_roundw
      case rel =>
        exact ⟨k + 1, by omega, by go_num, by rw [HL.out, Int.natCast_add], HK.out.alloc _⟩
      case measure => simp [intOf]; omega
    · obtain rfl : k = 8 := by omega
      clear hlt
      go_wp2
      go_ret
      exact ⟨ret_i (by rw [lenK_all]), HK.out⟩

/-- The rate of a socket: as it is told, or none. -/
def rateAt (rs : List Int) (i : Nat) : Int := rs.getD i 18446744073709551615
theorem rateAt_fit {rs : List Int} (h : ∀ r ∈ rs, U64 r) (i : Nat) : U64 (rateAt rs i) := by
  unfold rateAt
  by_cases hi : i < rs.length
  · rw [List.getD_eq_getElem?_getD, List.getElem?_eq_getElem hi]
    exact h _ (List.getElem_mem hi)
  · rw [List.getD_eq_getElem?_getD, List.getElem?_eq_none (by omega)]
    exact ⟨by decide, by decide⟩
/-- How long a segment takes, at the lesser rate. -/
def dlyQ (rs : List Int) (r : Int) (l z : Int) : Int := delV l (lesV (rateAt rs z.toNat) r)
theorem dlyQ_bd {rs : List Int} {r : Int} (h : ∀ r ∈ rs, U64 r) (hr : U64 r) (l z : Int) : 0 ≤ dlyQ rs r l z ∧ dlyQ rs r l z ≤ 1000000000 := by
  have h1 := rateAt_fit h z.toNat
  have := (lesV_bd h1.1 h1.2 hr.1 hr.2).1
  exact delV_bd l (by omega)
set_option maxHeartbeats 400000 in
theorem FQw.rate (h : FQw w g tg S cs v ks x) {i : Nat} (a : Option Addr) (cap : Nat) (rs : List Int) (hr : Rd .u64 w a rs) (hb : ∀ r ∈ rs, U64 r) (hm : U64 x.c.r) {r : Int} (e : lesV (rateAt rs i) x.c.r = r) :
    Calls Try.prog 49 #[.pointer (some ⟨g, 0, none⟩), .int .i64 (i : Int), .slice a rs.length cap] w fun e w' => e = .returned (.int .u64 r) ∧ w = w' := by
  have cr : w.cell? ⟨g, 5, none⟩ = some (.int .u64 x.c.r) := h.cf (j := 5) (by omega)
  have HF := Lib.hid (rateAt_fit hb i); have HM := Lib.hid hm; have HE := Lib.hid e
  clear h hb hm e
  by_cases hlt : i < rs.length
  · obtain ⟨b, off, rfl, _, ci⟩ := hr i hlt
    have hi1 : (i : Int) < (rs.length : Int) := by omega
    have hv : rateAt rs i = rs.getD i 0 := by
      unfold rateAt
      rw [List.getD_eq_getElem?_getD, List.getD_eq_getElem?_getD, List.getElem?_eq_getElem hlt]; rfl
    rw [← hv] at ci
    obtain ⟨p, hp⟩ : ∃ p, p = rateAt rs i := ⟨_, rfl⟩
    rw [← hp] at ci HF HE
    clear hp hr hv
    go_enter Try.func49, Try.ntmps49
    go_wp2_with fail
    refine (les_any p x.c.r HF.out.1 HF.out.2 HM.out.1 HM.out.2 w).mono ?_
    rintro e w1 ⟨rfl, rfl⟩
    go_wp2
    go_ret
    exact ⟨ret_i HE.out, rfl⟩
  · have hi1 : ¬ (i : Int) < (rs.length : Int) := by omega
    have hv : rateAt rs i = 18446744073709551615 := by
      unfold rateAt
      rw [List.getD_eq_getElem?_getD, List.getElem?_eq_none (by omega)]; rfl
    rw [hv] at HF HE
    clear hr hv
    go_enter Try.func49, Try.ntmps49
    go_wp2_with fail
    refine (les_any 18446744073709551615 x.c.r HF.out.1 HF.out.2 HM.out.1 HM.out.2 w).mono ?_
    rintro e w1 ⟨rfl, rfl⟩
    go_wp2
    go_ret
    exact ⟨ret_i HE.out, rfl⟩
end

/-! ### May -/
instance (c : Cf) : Decidable c.Ok := decidable_of_iff ((100 ≤ c.q ∧ c.q ≤ 65536) ∧ (100 ≤ c.f ∧ c.f ≤ 65536) ∧ (1 ≤ c.l ∧ c.l ≤ 512) ∧ (1 ≤ c.w ∧ c.w ≤ 512) ∧ (0 ≤ c.h ∧ c.h ≤ 4611686018427387904) ∧ (0 ≤ c.r ∧ c.r ≤ 18446744073709551615) ∧ (1 ≤ c.k ∧ c.k ≤ 1073741824) ∧ (100 ≤ c.m ∧ c.m ≤ 9000))
  ⟨fun ⟨a, b, c, d, e, f, g, h⟩ => ⟨a, b, c, d, e, f, g, h⟩, fun h => ⟨h.hq, h.hf, h.hl, h.hw, h.hh, h.hr, h.hk, h.hm⟩⟩
set_option maxHeartbeats 2000000 in
theorem may_any (c : Cf) (hr : U64 c.r) (hh : U64 c.h) (b : Bool) (hb : b = decide c.Ok) (w : World) : Calls Try.prog 31 #[c.v] w fun e w' => e = .returned (.bool b) ∧ Keep (fun _ => False) w w' := by
  have HB : Hid (((100 ≤ c.q ∧ c.q ≤ 65536) ∧ (100 ≤ c.f ∧ c.f ≤ 65536) ∧ (1 ≤ c.l ∧ c.l ≤ 512) ∧ (1 ≤ c.w ∧ c.w ≤ 512) ∧ c.h ≤ 4611686018427387904 ∧ (1 ≤ c.k ∧ c.k ≤ 1073741824) ∧ (100 ≤ c.m ∧ c.m ≤ 9000)) ↔ b = true) := Lib.hid (by
    rw [hb, decide_eq_true_iff]
    exact ⟨fun ⟨a, b, c, d, e, f, g⟩ => ⟨a, b, c, d, ⟨hh.1, e⟩, hr, f, g⟩, fun h => ⟨h.hq, h.hf, h.hl, h.hw, h.hh.2, h.hk, h.hm⟩⟩)
  obtain ⟨q, f, l, m, h, r, d, k, s⟩ := c
  clear hb hr hh
  dsimp only [Cf.v] at *
  have K := Lib.hid ((Keep.refl (fun _ => False) w).alloc (.cells #[.int .i64 q, .int .i64 f, .int .i64 l, .int .i64 m, .int .u64 h, .int .u64 r, .bool d, .int .i64 k, .int .i64 s] 24))
  have HT : Hid (∀ (u : Bool), (100 ≤ q ∧ q ≤ 65536) → (100 ≤ f ∧ f ≤ 65536) → (1 ≤ l ∧ l ≤ 512) → (1 ≤ m ∧ m ≤ 512) → h ≤ 4611686018427387904 → (1 ≤ k ∧ k ≤ 1073741824) → (100 ≤ s ∧ s ≤ 9000 ↔ u = true) → u = b) := Lib.hid (fun u a1 a2 a3 a4 a5 a6 a7 => by
    have := HB.out
    cases b <;> cases u <;> simp_all)
  have HF : Hid (¬ ((100 ≤ q ∧ q ≤ 65536) ∧ (100 ≤ f ∧ f ≤ 65536) ∧ (1 ≤ l ∧ l ≤ 512) ∧ (1 ≤ m ∧ m ≤ 512) ∧ h ≤ 4611686018427387904 ∧ (1 ≤ k ∧ k ≤ 1073741824)) → false = b) := Lib.hid (fun hn => by
    have := HB.out
    cases b
    · rfl
    · exact absurd (let ⟨a1, a2, a3, a4, a5, a6, _⟩ := this.2 rfl; ⟨a1, a2, a3, a4, a5, a6⟩) hn)
  clear HB
  go_enter Try.func31, Try.ntmps31
  go_wp2_with fail
  by_cases h1 : 100 ≤ q ∧ q ≤ 65536
  · refine (within_any _ _ _ true (decide_eq_true h1).symm _).mono ?_
    rintro e w1 ⟨rfl, rfl⟩
    have H1 := Lib.hid h1; clear h1
    go_wp2_with fail
    by_cases h2 : 100 ≤ f ∧ f ≤ 65536
    · refine (within_any _ _ _ true (decide_eq_true h2).symm _).mono ?_
      rintro e w1 ⟨rfl, rfl⟩
      have H2 := Lib.hid h2; clear h2
      go_wp2_with fail
      by_cases h3 : 1 ≤ l ∧ l ≤ 512
      · refine (within_any _ _ _ true (decide_eq_true h3).symm _).mono ?_
        rintro e w1 ⟨rfl, rfl⟩
        have H3 := Lib.hid h3; clear h3
        go_wp2_with fail
        by_cases h4 : 1 ≤ m ∧ m ≤ 512
        · refine (within_any _ _ _ true (decide_eq_true h4).symm _).mono ?_
          rintro e w1 ⟨rfl, rfl⟩
          have H4 := Lib.hid h4; clear h4
          by_cases h5 : h ≤ 4611686018427387904
          · have H5 : Hid (h ≤ 4611686018427387904) := Lib.hid h5
            go_wp2_with fail
            by_cases h6 : 1 ≤ k ∧ k ≤ 1073741824
            · refine (within_any _ _ _ true (decide_eq_true h6).symm _).mono ?_
              rintro e w1 ⟨rfl, rfl⟩
              have H6 := Lib.hid h6; clear h6
              go_wp2_with fail
              refine (within_any _ _ _ _ rfl _).mono ?_
              rintro e w1 ⟨rfl, rfl⟩
              have HX : Hid (decide (100 ≤ s ∧ s ≤ 9000) = b) := Lib.hid (HT.out _ H1.out H2.out H3.out H4.out H5.out H6.out decide_eq_true_iff.symm)
              rw [HX.out]
              go_wp2
              go_ret
              exact ⟨rfl, K.out⟩
            · refine (within_any _ _ _ false (decide_eq_false h6).symm _).mono ?_
              rintro e w1 ⟨rfl, rfl⟩
              have HN := Lib.hid (HF.out (fun a => h6 a.2.2.2.2.2)); clear h6
              go_wp2
              go_ret
              exact ⟨ret_b HN.out, K.out⟩
          · have HN := Lib.hid (HF.out (fun a => h5 a.2.2.2.2.1))
            go_wp2
            go_ret
            exact ⟨ret_b HN.out, K.out⟩
        · refine (within_any _ _ _ false (decide_eq_false h4).symm _).mono ?_
          rintro e w1 ⟨rfl, rfl⟩
          have HN := Lib.hid (HF.out (fun a => h4 a.2.2.2.1)); clear h4
          go_wp2
          go_ret
          exact ⟨ret_b HN.out, K.out⟩
      · refine (within_any _ _ _ false (decide_eq_false h3).symm _).mono ?_
        rintro e w1 ⟨rfl, rfl⟩
        have HN := Lib.hid (HF.out (fun a => h3 a.2.2.1)); clear h3
        go_wp2
        go_ret
        exact ⟨ret_b HN.out, K.out⟩
    · refine (within_any _ _ _ false (decide_eq_false h2).symm _).mono ?_
      rintro e w1 ⟨rfl, rfl⟩
      have HN := Lib.hid (HF.out (fun a => h2 a.2.1)); clear h2
      go_wp2
      go_ret
      exact ⟨ret_b HN.out, K.out⟩
  · refine (within_any _ _ _ false (decide_eq_false h1).symm _).mono ?_
    rintro e w1 ⟨rfl, rfl⟩
    have HN := Lib.hid (HF.out (fun a => h1 a.1)); clear h1
    go_wp2
    go_ret
    exact ⟨ret_b HN.out, K.out⟩
end Go.Proofs.Ytnljjdfajmjdjaa
namespace Go.Proofs.Ytnljjdfajmjdjaa
open Go.RowKit
set_option maxRecDepth 100000
set_option linter.unusedSimpArgs false
set_option linter.unusedVariables false

theorem enqIn {x : Qm} {s : Sg} {now : Int} (h : enqE s = 0) : enqV x s now = fateQ (collQ x now) s now ∧ enqQ x s now = if fateQ (collQ x now) s now = 0 then takeQ (collQ x now) s now else collQ x now := by
  unfold enqV enqQ
  rw [if_pos h, if_pos h]
  exact ⟨rfl, rfl⟩
theorem enqOut {x : Qm} {s : Sg} {now : Int} (h : enqE s ≠ 0) : enqV x s now = 0 ∧ enqQ x s now = x := by
  unfold enqV enqQ
  rw [if_neg h, if_neg h]
  exact ⟨rfl, rfl⟩
section
variable {w w' : World} {g tg : Nat} {S : Nat → Prop} {cs : Array Value} {v : Nat → Value} {ks : List Key} {x : Qm}
set_option maxRecDepth 100000 in
set_option maxHeartbeats 4000000 in
theorem FQat.enq (h : FQat w g tg S cs v ks x) (s : Sg) (now : Int) (hn : U64 now) (hf : U64 s.f) (hst : U64 s.t) :
    Calls Try.prog 18 #[.pointer (some ⟨g, 0, none⟩), s.v, .int .u64 now] w fun e w' => e = .returned (.tuple #[.int .i64 (enqV x s now), .int .i64 (enqE s)]) ∧ ∃ cs' v', FQat w' g tg S cs' v' ks (enqQ x s now) ∧ Keep (FQown g S v) w w' ∧ ∀ j k, j < 8 → (v' j).ownBlock = some k → (v j).ownBlock = some k ∨ w.heap.size ≤ k := by
  obtain ⟨z, f, l, t, a⟩ := s
  have HN := Lib.hid hn; have HF := Lib.hid hf; have HST := Lib.hid hst
  have HLG := Lib.hid h.w.whole.lt
  have HSO := Lib.hid (fun k (e : S k) => h.w.lt (.inr (.inl e)))
  have HOLD := Lib.hid (fun j k (hj : j < 8) (e : (v j).ownBlock = some k) => h.w.lt (.inr (.inr ⟨j, hj, e⟩)))
  have kz : Keep (fun _ => False) w (w.alloc (.cells #[.int .i64 z, .int .u64 f, .int .i64 l, .int .u64 t, .bool a] 34)) := (Keep.refl _ _).alloc _
  have HQ0 := Lib.hid (⟨h.w.kept kz, h.ok, h.ks⟩ : FQat _ g tg S cs v ks x); have HK0 := Lib.hid kz; have HBX0 := Lib.hid (Whole.new w 34 #[.int .i64 z, .int .u64 f, .int .i64 l, .int .u64 t, .bool a])
  clear h hn hf hst kz
  go_enter Try.func18, Try.ntmps18
  go_upto_region 1 with fail
  generalize hw0 : w.alloc _ = w0 at *
  clear hw0
  have b0 := HBX0.out.cell 0; have b2 := HBX0.out.cell 2
  simp only [List.getElem?_toArray, List.getElem?_cons_zero, List.getElem?_cons_succ] at b0 b2
  obtain ⟨c, hc⟩ : ∃ c, c = decide (0 ≤ z ∧ z < 8) := ⟨_, rfl⟩
  have HCC := Lib.hid hc
  go_wp2_with fail
  refine (issock_any z c HCC.out w0).mono ?_
  rintro e w1 ⟨rfl, rfl⟩
  cases c with
  | false =>
    have HE : Hid (enqE ⟨z, f, l, t, a⟩ = 8) := Lib.hid (by
      have : ¬ (0 ≤ z ∧ z < 8) := by simpa using hc.symm
      unfold enqE; dsimp only; rw [if_pos (by omega)])
    clear hc
    go_wp2
    go_ret2
    have hE := HE.out
    have ho := enqOut (x := x) (now := now) (fun e => absurd (hE.symm.trans e) (by decide))
    exact ⟨ret_pair ho.1.symm hE.symm, _, _, (by rw [ho.2]; exact HQ0.out), HK0.out.mono (fun _ h => h.elim), fun _ _ _ h => .inl h⟩
  | true =>
    have hzz : 0 ≤ z ∧ z < 8 := by simpa using hc.symm
    obtain ⟨i, rfl⟩ : ∃ i : Nat, z = (i : Int) := ⟨z.toNat, by omega⟩
    have HI : Hid (i < 8) := Lib.hid (by omega)
    clear hc HCC hzz
    obtain ⟨c, hc⟩ : ∃ c, c = decide (1 ≤ l ∧ l ≤ 65536) := ⟨_, rfl⟩
    have HCC := Lib.hid hc
    go_wp2_with fail
    refine (within_any l 1 65536 c HCC.out w0).mono ?_
    rintro e w1 ⟨rfl, rfl⟩
    cases c with
    | false =>
      have HE : Hid (enqE ⟨(i : Int), f, l, t, a⟩ = 1) := Lib.hid (by
        have : ¬ (1 ≤ l ∧ l ≤ 65536) := by simpa using hc.symm
        have := HI.out
        unfold enqE; dsimp only; rw [if_neg (by omega), if_pos (by omega)])
      clear hc
      go_wp2
      go_ret2
      have hE := HE.out
      have ho := enqOut (x := x) (now := now) (fun e => absurd (hE.symm.trans e) (by decide))
      exact ⟨ret_pair ho.1.symm hE.symm, _, _, (by rw [ho.2]; exact HQ0.out), HK0.out.mono (fun _ h => h.elim), fun _ _ _ h => .inl h⟩
    | true =>
      have HE : Hid (enqE ⟨(i : Int), f, l, t, a⟩ = 0) := Lib.hid (by
        have : 1 ≤ l ∧ l ≤ 65536 := by simpa using hc.symm
        have := HI.out
        unfold enqE; dsimp only; rw [if_neg (by omega), if_neg (by omega)])
      clear hc HCC b0 b2
      go_wp2_with fail
      refine (HQ0.out.collect now).mono ?_
      rintro e w1 ⟨⟨u, rfl⟩, cs1, v1, hq1, hk1, hv1⟩
      have HC : Hid ((collQ x now).Ok ∧ KsOf (collQ x now) ks) := Lib.hid ⟨hq1.ok, hq1.ks⟩
      have HQ1 := Lib.hid hq1.w; have HK1 := Lib.hid ((HK0.out.mono (fun _ h => h.elim) : Keep (fun k => k = g) w w0).trans hk1); have HV1 := Lib.hid hv1
      have HBX1 := Lib.hid (HBX0.out.keep hk1 (fun e => by have := HLG.out; omega))
      clear hq1 hk1 hv1 HQ0 HK0 HBX0
      have ch : w1.cell? ⟨g, 4, none⟩ = some (.int .u64 x.c.h) := HQ1.out.cf (j := 4) (by omega)
      have hh := HC.out.1.hc.hh
      have HHH : Hid (0 ≤ x.c.h ∧ x.c.h ≤ 18446744073709551615) := Lib.hid ⟨hh.1, by have : x.c.h ≤ 4611686018427387904 := hh.2; omega⟩
      clear hh
      go_wp2_with fail
      refine (add_any now x.c.h HN.out.1 HN.out.2 HHH.out.1 HHH.out.2 w1).mono ?_
      rintro e w2 ⟨rfl, rfl⟩
      obtain ⟨L, hL⟩ : ∃ L, satAdd now x.c.h = L := ⟨_, rfl⟩
      have HL : Hid (addS now x.c.h = L) := Lib.hid hL
      rw [hL]
      clear ch hL
      go_wp2_with fail
      have cl : w1.drew.cell? ⟨g, 2, none⟩ = some (.int .i64 x.c.l) := HQ1.out.cf (j := 2) (by omega)
      refine wp_region_sch (fun W => W.cell? ⟨g, 2, none⟩ = some (.int .i64 x.c.l)) [(true, 0), (true, 2), (true, 3), (true, 4), (true, 5), (true, 6), (false, 1), (true, 7), (true, 8)] (by kernel_rfl) (by kernel_rfl) (by kernel_rfl) (by kernel_rfl) cl ?_
      have HQ2 := Lib.hid (HQ1.out.kept (Keep.refl _ w1).drew); have HK2 := Lib.hid HK1.out.drew; have HBX2 := Lib.hid (HBX1.out.keep (Keep.refl (fun _ => False) w1).drew id)
      clear cl HQ1 HK1 HBX1
      generalize w1.drew = w2 at *
      (repeat (refine wpSch_yes (v := ?_) rfl (fun _ _ _ h => h) (by rfl) ?_ ?_; rotate_left; (next => (intro w hSw; (try dsimp only at hSw); (have hS1 := hSw); go_simp; (try with_reducible rfl))); (try simp only [Act.put, List.setIfInBounds_toArray, List.set_cons_zero, List.set_cons_succ])))
      refine wpSch_call rfl (by rfl) (fun K hK => ?_); go_simp
      refine (HQ2.out.len HC.out.1.len).mono ?_
      rintro e w3 ⟨rfl, k3⟩
      obtain ⟨m, hm⟩ : ∃ m, lenQ (collQ x now) = m := ⟨_, rfl⟩
      rw [hm]
      have HM := Lib.hid hm
      have HQ3 := Lib.hid (HQ2.out.kept k3); have HK3 := Lib.hid (HK2.out.trans (k3.mono (fun _ h => h.elim))); have HBX3 := Lib.hid (HBX2.out.keep k3 id)
      clear k3 hm HQ2 HK2 HBX2
      refine hK.out _ _ (HQ3.out.cf (j := 2) (by omega)) (fun hHeld => ?_)
      clear hK K hHeld
      (try simp only [Act.put, List.setIfInBounds_toArray, List.set_cons_zero, List.set_cons_succ])
      (repeat (refine wpSch_yes (v := ?_) rfl (fun _ _ _ h => h) (by rfl) ?_ ?_; rotate_left; (next => (intro w hSw; (try dsimp only at hSw); (have hS1 := hSw); go_simp; (try with_reducible rfl))); (try simp only [Act.put, List.setIfInBounds_toArray, List.set_cons_zero, List.set_cons_succ])))
      refine wpSch_nil ?_
      obtain ⟨c, hc⟩ : ∃ c, decide (x.c.l ≤ (m : Int)) = c := ⟨_, rfl⟩
      rw [hc]
      cases c with
      | true =>
        have hle : x.c.l ≤ (m : Int) := of_decide_eq_true hc
        have HV : Hid (fateQ (collQ x now) ⟨(i : Int), f, l, t, a⟩ now = 2) := Lib.hid (by unfold fateQ; rw [HM.out]; exact if_pos hle)
        have HQ4 := HQ3; have HK4 := HK3
        clear hc hle HQ3 HK3
        go_wp2
        go_ret2
        have hin := enqIn (x := x) (now := now) HE.out
        rw [HV.out] at hin
        exact ⟨ret_pair hin.1.symm HE.out.symm, _, _, (by rw [hin.2, if_neg (by decide)]; exact ⟨HQ4.out, HC.out.1, HC.out.2⟩), HK4.out.mono (fun k e => .inl e), fun j k hj e => .inl (HV1.out j k hj e)⟩
      | false =>
        have hle : ¬ x.c.l ≤ (m : Int) := of_decide_eq_false hc
        have HLE := Lib.hid hle
        clear hc hle
        obtain ⟨sa, scap, hsv, _⟩ := (HQ3.out.q i HI.out).shape
        have cv := HQ3.out.seg HI.out
        rw [hsv] at cv
        obtain ⟨LL, hLL⟩ : ∃ n, ((collQ x now).F i).q.length = n := ⟨_, rfl⟩
        rw [hLL] at cv
        have HLL := Lib.hid hLL
        have cw : w3.cell? ⟨g, 3, none⟩ = some (.int .i64 x.c.w) := HQ3.out.cf (j := 3) (by omega)
        have b0 := HBX3.out.cell 0
        simp only [List.getElem?_toArray, List.getElem?_cons_zero, List.getElem?_cons_succ] at b0
        have hi8 : (i : Int) < 8 := by have := HI.out; omega
        clear hsv hLL
        go_wp2_with fail
        refine wp_region_sch (fun W => W.cell? ⟨g, 9 + i * 5 + 4, none⟩ = some (.slice sa LL scap) ∧ W.cell? ⟨g, 3, none⟩ = some (.int .i64 x.c.w) ∧ W.cell? ⟨w.heap.size, 0, none⟩ = some (.int .i64 (i : Int))) [(true, 0), (true, 1), (true, 2), (true, 3), (true, 4), (true, 5), (true, 6), (true, 7), (true, 8), (true, 9), (true, 10), (true, 11), (true, 12), (true, 13), (true, 14), (true, 15)] (by kernel_rfl) (by kernel_rfl) (by kernel_rfl) (by kernel_rfl) ⟨cv, cw, b0⟩ ?_
        have HQ4 := Lib.hid (HQ3.out.kept (Keep.refl _ w3).drew); have HK4 := Lib.hid HK3.out.drew; have HBX4 := Lib.hid (HBX3.out.keep (Keep.refl (fun _ => False) w3).drew id)
        clear cv cw b0 HQ3 HK3 HBX3
        generalize World.drew w3 = w4 at *
        (repeat (refine wpSch_yes (v := ?_) rfl (fun _ _ _ h => h) (by rfl) ?_ ?_; rotate_left; (next => (intro w hSw; (try dsimp only at hSw); obtain ⟨hS1, hS2, hS3⟩ := hSw; go_simp; (try with_reducible rfl))); (try simp only [Act.put, List.setIfInBounds_toArray, List.set_cons_zero, List.set_cons_succ])))
        refine wpSch_nil ?_
        obtain ⟨c, hc⟩ : ∃ c, decide (x.c.w ≤ (LL : Int)) = c := ⟨_, rfl⟩
        rw [hc]
        cases c with
        | true =>
          have hle : x.c.w ≤ (LL : Int) := of_decide_eq_true hc
          have HV : Hid (fateQ (collQ x now) ⟨(i : Int), f, l, t, a⟩ now = 3) := Lib.hid (by
            unfold fateQ
            rw [if_neg (by rw [HM.out]; have := HLE.out; show ¬ x.c.l ≤ (m : Int); omega), if_pos (by show x.c.w ≤ _; rw [show ((⟨(i : Int), f, l, t, a⟩ : Sg).s.toNat) = i from rfl, HLL.out]; exact hle)])
          clear hc hle hi8
          go_wp2
          go_ret2
          have hin := enqIn (x := x) (now := now) HE.out
          rw [HV.out] at hin
          exact ⟨ret_pair hin.1.symm HE.out.symm, _, _, (by rw [hin.2, if_neg (by decide)]; exact ⟨HQ4.out, HC.out.1, HC.out.2⟩), HK4.out.mono (fun k e => .inl e), fun j k hj e => .inl (HV1.out j k hj e)⟩
        | false =>
          have hle : ¬ x.c.w ≤ (LL : Int) := of_decide_eq_false hc
          have HFA : Hid (fateQ (collQ x now) ⟨(i : Int), f, l, t, a⟩ now = if L < t ∧ x.c.d = true then 4 else 0) := Lib.hid (by
            unfold fateQ
            rw [if_neg (by rw [HM.out]; have := HLE.out; show ¬ x.c.l ≤ (m : Int); omega), if_neg (by show ¬ x.c.w ≤ _; rw [show ((⟨(i : Int), f, l, t, a⟩ : Sg).s.toNat) = i from rfl, HLL.out]; exact hle), ← HL.out]
            rfl)
          have b3 := HBX4.out.cell 3
          simp only [List.getElem?_toArray, List.getElem?_cons_zero, List.getElem?_cons_succ] at b3
          obtain ⟨dd, hdd⟩ : ∃ d, x.c.d = d := ⟨_, rfl⟩
          have cd : w4.cell? ⟨g, 6, none⟩ = some (.bool dd) := by rw [← hdd]; exact HQ4.out.cf (j := 6) (by omega)
          rw [hdd] at HFA
          clear hc hle hi8 hdd
          by_cases hlt : L < t
          · have hn : ¬ t < L := by omega
            cases dd with
            | true =>
              have HV : Hid (fateQ (collQ x now) ⟨(i : Int), f, l, t, a⟩ now = 4) := Lib.hid (by rw [HFA.out]; exact if_pos ⟨hlt, rfl⟩)
              clear HFA
              go_wp2
              go_ret2
              have hin := enqIn (x := x) (now := now) HE.out
              rw [HV.out] at hin
              exact ⟨ret_pair hin.1.symm HE.out.symm, _, _, (by rw [hin.2, if_neg (by decide)]; exact ⟨HQ4.out, HC.out.1, HC.out.2⟩), HK4.out.mono (fun k e => .inl e), fun j k hj e => .inl (HV1.out j k hj e)⟩
            | false =>
              have HV : Hid (fateQ (collQ x now) ⟨(i : Int), f, l, t, a⟩ now = 0) := Lib.hid (by rw [HFA.out]; exact if_neg (fun h => by cases h.2))
              clear HFA
              have HMIN : Hid (min t L = L) := Lib.hid (by omega)
              have kb : Keep (fun k => k = w.heap.size) w4 (w4.setCell ⟨w.heap.size, 3, none⟩ (.int .u64 L)) := (Keep.refl (fun k => k = w.heap.size) w4).setCell (p := ⟨w.heap.size, 3, none⟩) (.inl rfl) _
              have HQ5 := Lib.hid (HQ4.out.keep kb (fun k hk e => by
                rcases hk with h | h | ⟨j, hj, h⟩
                · have := HLG.out; omega
                · have := HSO.out k h; omega
                · have := HOLD.out j k hj (HV1.out j k hj h); omega))
              have HK5 : Hid (Keep (fun k => k = g) w _) := Lib.hid (HK4.out.then kb (fun k e hlt => by omega))
              have b0 := HBX4.out.cell 0; have b1 := HBX4.out.cell 1; have b2 := HBX4.out.cell 2; have b4 := HBX4.out.cell 4
              simp only [List.getElem?_toArray, List.getElem?_cons_zero, List.getElem?_cons_succ] at b0 b1 b2 b4
              have g3 := HBX4.out.free 3
              have HSEG : Hid (segF (collQ x now) ⟨(i : Int), f, l, t, a⟩ now = ⟨(i : Int), f, l, L, a⟩) := Lib.hid (by
                have e1 : addS now (collQ x now).c.h = L := HL.out
                unfold segF
                dsimp only
                rw [e1, HMIN.out])
              clear kb HQ4 HK4
              go_wp2_with fail
              refine (FQat.put (S := S) (⟨HQ5.out, HC.out.1, HC.out.2⟩ : FQat _ g tg S cs1 v1 ks (collQ x now)) HI.out ⟨(i : Int), f, l, t, a⟩ ⟨(i : Int), f, l, L, a⟩ rfl now HSEG.out (take_ok HC.out.1 HE.out HN.out HF.out HST.out HV.out)).mono ?_
              rintro e w6 ⟨⟨u, rfl⟩, cs6, v6, hq6, hk6, hv6⟩
              have HQ6 := Lib.hid hq6; have HK6 := Lib.hid hk6; have HV6 := Lib.hid hv6
              clear hq6 hk6 hv6 b0 b1 b2 b3 b4 g3
              go_wp2
              go_ret2
              have hin := enqIn (x := x) (now := now) HE.out
              rw [HV.out, if_pos rfl] at hin
              refine ⟨ret_pair hin.1.symm HE.out.symm, _, _, by rw [hin.2]; exact HQ6.out, ?_, fun j k hj e => ?_⟩
              · exact (HK5.out.mono (fun k e => .inl e)).then HK6.out (fun k e hlt => e.elim .inl (fun h => .inr (.inr ⟨i, HI.out, HV1.out i k HI.out h⟩)))
              · rcases HV6.out j k hj e with h | h
                · exact .inl (HV1.out j k hj h)
                · have := HK5.out.size; exact .inr (by omega)
          · have HV : Hid (fateQ (collQ x now) ⟨(i : Int), f, l, t, a⟩ now = 0) := Lib.hid (by rw [HFA.out]; exact if_neg (fun h => hlt h.1))
            clear HFA
            rcases Int.lt_or_eq_of_le (Int.not_lt.1 hlt) with hl2 | hl2
            · have HMIN : Hid (min t L = t) := Lib.hid (by omega)
              have kb : Keep (fun k => k = w.heap.size) w4 (w4.setCell ⟨w.heap.size, 3, none⟩ (.int .u64 t)) := (Keep.refl (fun k => k = w.heap.size) w4).setCell (p := ⟨w.heap.size, 3, none⟩) (.inl rfl) _
              have HQ5 := Lib.hid (HQ4.out.keep kb (fun k hk e => by
                rcases hk with h | h | ⟨j, hj, h⟩
                · have := HLG.out; omega
                · have := HSO.out k h; omega
                · have := HOLD.out j k hj (HV1.out j k hj h); omega))
              have HK5 : Hid (Keep (fun k => k = g) w _) := Lib.hid (HK4.out.then kb (fun k e hlt => by omega))
              have b0 := HBX4.out.cell 0; have b1 := HBX4.out.cell 1; have b2 := HBX4.out.cell 2; have b4 := HBX4.out.cell 4
              simp only [List.getElem?_toArray, List.getElem?_cons_zero, List.getElem?_cons_succ] at b0 b1 b2 b4
              have g3 := HBX4.out.free 3
              have HSEG : Hid (segF (collQ x now) ⟨(i : Int), f, l, t, a⟩ now = ⟨(i : Int), f, l, t, a⟩) := Lib.hid (by
                have e1 : addS now (collQ x now).c.h = L := HL.out
                unfold segF
                dsimp only
                rw [e1, HMIN.out])
              clear kb HQ4 HK4
              go_wp2_with fail
              refine (FQat.put (S := S) (⟨HQ5.out, HC.out.1, HC.out.2⟩ : FQat _ g tg S cs1 v1 ks (collQ x now)) HI.out ⟨(i : Int), f, l, t, a⟩ ⟨(i : Int), f, l, t, a⟩ rfl now HSEG.out (take_ok HC.out.1 HE.out HN.out HF.out HST.out HV.out)).mono ?_
              rintro e w6 ⟨⟨u, rfl⟩, cs6, v6, hq6, hk6, hv6⟩
              have HQ6 := Lib.hid hq6; have HK6 := Lib.hid hk6; have HV6 := Lib.hid hv6
              clear hq6 hk6 hv6 b0 b1 b2 b3 b4 g3
              go_wp2
              go_ret2
              have hin := enqIn (x := x) (now := now) HE.out
              rw [HV.out, if_pos rfl] at hin
              refine ⟨ret_pair hin.1.symm HE.out.symm, _, _, by rw [hin.2]; exact HQ6.out, ?_, fun j k hj e => ?_⟩
              · exact (HK5.out.mono (fun k e => .inl e)).then HK6.out (fun k e hlt => e.elim .inl (fun h => .inr (.inr ⟨i, HI.out, HV1.out i k HI.out h⟩)))
              · rcases HV6.out j k hj e with h | h
                · exact .inl (HV1.out j k hj h)
                · have := HK5.out.size; exact .inr (by omega)
            · have HMIN : Hid (min t L = t) := Lib.hid (by omega)
              rw [← hl2]
              have hn := Int.lt_irrefl t
              clear hl2
              have kb : Keep (fun k => k = w.heap.size) w4 (w4.setCell ⟨w.heap.size, 3, none⟩ (.int .u64 t)) := (Keep.refl (fun k => k = w.heap.size) w4).setCell (p := ⟨w.heap.size, 3, none⟩) (.inl rfl) _
              have HQ5 := Lib.hid (HQ4.out.keep kb (fun k hk e => by
                rcases hk with h | h | ⟨j, hj, h⟩
                · have := HLG.out; omega
                · have := HSO.out k h; omega
                · have := HOLD.out j k hj (HV1.out j k hj h); omega))
              have HK5 : Hid (Keep (fun k => k = g) w _) := Lib.hid (HK4.out.then kb (fun k e hlt => by omega))
              have b0 := HBX4.out.cell 0; have b1 := HBX4.out.cell 1; have b2 := HBX4.out.cell 2; have b4 := HBX4.out.cell 4
              simp only [List.getElem?_toArray, List.getElem?_cons_zero, List.getElem?_cons_succ] at b0 b1 b2 b4
              have g3 := HBX4.out.free 3
              have HSEG : Hid (segF (collQ x now) ⟨(i : Int), f, l, t, a⟩ now = ⟨(i : Int), f, l, t, a⟩) := Lib.hid (by
                have e1 : addS now (collQ x now).c.h = L := HL.out
                unfold segF
                dsimp only
                rw [e1, HMIN.out])
              clear kb HQ4 HK4
              go_wp2_with fail
              refine (FQat.put (S := S) (⟨HQ5.out, HC.out.1, HC.out.2⟩ : FQat _ g tg S cs1 v1 ks (collQ x now)) HI.out ⟨(i : Int), f, l, t, a⟩ ⟨(i : Int), f, l, t, a⟩ rfl now HSEG.out (take_ok HC.out.1 HE.out HN.out HF.out HST.out HV.out)).mono ?_
              rintro e w6 ⟨⟨u, rfl⟩, cs6, v6, hq6, hk6, hv6⟩
              have HQ6 := Lib.hid hq6; have HK6 := Lib.hid hk6; have HV6 := Lib.hid hv6
              clear hq6 hk6 hv6 b0 b1 b2 b3 b4 g3
              go_wp2
              go_ret2
              have hin := enqIn (x := x) (now := now) HE.out
              rw [HV.out, if_pos rfl] at hin
              refine ⟨ret_pair hin.1.symm HE.out.symm, _, _, by rw [hin.2]; exact HQ6.out, ?_, fun j k hj e => ?_⟩
              · exact (HK5.out.mono (fun k e => .inl e)).then HK6.out (fun k e hlt => e.elim .inl (fun h => .inr (.inr ⟨i, HI.out, HV1.out i k HI.out h⟩)))
              · rcases HV6.out j k hj e with h | h
                · exact .inl (HV1.out j k hj h)
                · have := HK5.out.size; exact .inr (by omega)
end
end Go.Proofs.Ytnljjdfajmjdjaa
