/-
  Package fq: wake: those whose time has come go behind all old ones, by rising time, then socket. Conditions: the queue lies in memory.
-/
import Derived.Test.YtnljjdfajmjdjaaJ18
import Derived.Test.YtnljjdfajmjdjaaJ21
import Derived.Test.YtnljjdfajmjdjaaJ25
import Derived.LoopTactic
namespace Go.Proofs.Ytnljjdfajmjdjaa
open Go.RowKit Go.Shelf
set_option maxRecDepth 100000
set_option linter.unusedSimpArgs false

attribute [local go_sem] Oper.semAt_some wide_fn

def kcells (k : Key) : List Value := [.int .u64 k.a, .int .u64 k.b]
def flatK : List Key → List Value
  | [] => []
  | k :: ks => kcells k ++ flatK ks
theorem flatK_len : ∀ ks, (flatK ks).length = ks.length * 2
  | [] => rfl
  | k :: ks => by rw [flatK, List.length_append, flatK_len ks]; simp [kcells]; omega
theorem flatK_app (ks : List Key) (k : Key) : flatK ks ++ kcells k = flatK (ks ++ [k]) := by
  induction ks with
  | nil => rfl
  | cons a ks ih => rw [flatK, List.append_assoc, ih]; rfl
theorem one_kcells (k : Key) : ∀ u ∈ kcells k, u.oneCell' = true := fun u hu => by
  simp only [kcells, List.mem_cons, List.not_mem_nil, or_false] at hu
  rcases hu with rfl | rfl <;> rfl
theorem flatK_get : ∀ (ks : List Key) (i : Nat) (k : Key), ks[i]? = some k → (flatK ks)[i * 2]? = some (.int .u64 k.a) ∧ (flatK ks)[i * 2 + 1]? = some (.int .u64 k.b)
  | [], i, k, h => by simp at h
  | a :: ks, 0, k, h => by simp at h; subst h; exact ⟨rfl, rfl⟩
  | a :: ks, i + 1, k, h => by
    simp at h
    obtain ⟨h1, h2⟩ := flatK_get ks i k h
    rw [show (i + 1) * 2 = i * 2 + 2 by omega, show i * 2 + 2 + 1 = (i * 2 + 1) + 2 by omega]
    exact ⟨h1, h2⟩
theorem Try.infoKey : (Try.prog.info? 96).map (fun i => (i.zero, i.size, i.bytes)) = some (some (.agg #[.int .u64 0, .int .u64 0]), 2, 16) := by kernel_rfl
/-- No panic is let out. -/
def noPanic (Q : Exit → Act → World → Prop) : Exit → Act → World → Prop
  | .panic _, _, _ => False
  | e, a, w => Q e a w
theorem noPanic_le (Q : Exit → Act → World → Prop) : ∀ e a w, noPanic Q e a w → Q e a w
  | .panic _, _, _, h => h.elim
  | .normal, _, _, h => h
  | .ret, _, _, h => h
  | .exit _, _, _, h => h
  | .goto _, _, _, h => h
  | .outgrown, _, _, h => h
theorem noPanic_normal {Q : Exit → Act → World → Prop} {a : Act} {w : World} (h : Q .normal a w) : noPanic Q .normal a w := h
theorem row_form {w : World} {b : Nat} {e : TypeId} {sz n : Nat} {v : Value} {xs : List Value} (h : w.ownsRow b e sz v n xs) (hn : 0 < n) : ∃ g cap, v = .slice (some ⟨g, 0, none⟩) n cap ∧ b ≤ g ∧ g < w.heap.size := by
  rcases h.2 with ⟨_, h0⟩ | ⟨g, cap, cur, hv, hb, hg, _⟩
  · omega
  · exact ⟨g, cap, hv, hb, (Array.getElem?_eq_some_iff.1 hg).1⟩
theorem ownsRow_low {w : World} {b b' : Nat} {e : TypeId} {sz n : Nat} {v : Value} {xs : List Value} (h : w.ownsRow b e sz v n xs) (hb : b' ≤ b) : w.ownsRow b' e sz v n xs :=
  ⟨h.1, h.2.imp id fun ⟨g, cap, cur, e, h1, r⟩ => ⟨g, cap, cur, e, Nat.le_trans hb h1, r⟩⟩
theorem takeWhile_stop {p : Key → Bool} : ∀ {q : List Key} {x : Key} {r : List Key}, (∀ y ∈ q, p y = true) → p x = false → (q ++ x :: r).takeWhile p = q
  | [], x, r, _, hx => by rw [List.nil_append, List.takeWhile_cons_of_neg (by rw [hx]; simp)]
  | a :: q, x, r, h, hx => by
    rw [List.cons_append, List.takeWhile_cons_of_pos (h a (List.mem_cons_self ..)), takeWhile_stop (fun y hy => h y (List.mem_cons_of_mem _ hy)) hx]
theorem takeWhile_all {p : Key → Bool} : ∀ {q : List Key}, (∀ y ∈ q, p y = true) → q.takeWhile p = q
  | [], _ => rfl
  | a :: q, h => by rw [List.takeWhile_cons_of_pos (h a (List.mem_cons_self ..)), takeWhile_all (fun y hy => h y (List.mem_cons_of_mem _ hy))]

section
variable {w w' : World} {g tg : Nat} {S : Nat → Prop} {cs : Array Value} {v : Nat → Value} {ks : List Key} {x : Qm}
set_option maxRecDepth 100000 in
set_option maxHeartbeats 4000000 in
theorem FQat.wake (h : FQat w g tg S cs v ks x) (now : Int) :
    Calls Try.prog 40 #[.pointer (some ⟨g, 0, none⟩), .int .u64 now] w fun e w' => (∃ u, e = .returned u) ∧ ∃ S' cs' ks', FQat w' g tg S' cs' v ks' (wakeN now 8 x) ∧ Keep (FQown g S v) w w' ∧ ∀ k, S' k → S k ∨ w.heap.size ≤ k := by
  obtain ⟨hw, hok, hks⟩ := h
  have HSORT := Lib.hid hw.tree.sorted
  have HFEW := Lib.hid hw.tree.few.1
  obtain ⟨D, hD⟩ : ∃ D, D = ks.takeWhile fun k => decide (k.a ≤ now) := ⟨_, rfl⟩
  have HWK : Hid (wakeN now 8 x = wakeL x D) := Lib.hid (by rw [hD]; exact wake_keys 8 hok hks HSORT.out HFEW.out)
  have HOK := Lib.hid hok; have HKS := Lib.hid hks; have HDD := Lib.hid hD
  obtain ⟨w0, hw0⟩ : ∃ w0, w0 = (w.alloc (.cells #[.int .u64 now] 22)).alloc (.cells #[.slice none 0 0] 109) := ⟨_, rfl⟩
  have hk0 : Keep (fun _ => False) w w0 := by rw [hw0]; exact ((Keep.refl _ w).alloc _).alloc _
  have hs0 : w0.heap.size = w.heap.size + 2 := by rw [hw0]; simp
  have b1 : Boxed w0 w.heap.size 22 (.int .u64 now) := by rw [hw0]; exact (Boxed.new w _ _).alloc _
  have b2 : Boxed w0 (w.heap.size + 1) 109 (.slice none 0 0) := by
    rw [hw0]; have := Boxed.new (w.alloc (.cells #[.int .u64 now] 22)) 109 (.slice none 0 0); rwa [World.size_alloc] at this
  have HQ0 := Lib.hid (hw.kept hk0)
  have HQW := Lib.hid hw
  have cw := (hw.kept hk0).wait
  have HLT := Lib.hid (fun k (hk : FQown g S v k) => hw.lt hk)
  have K0 := Lib.hid hk0; have B1 := Lib.hid b1; have B2 := Lib.hid b2
  clear hw hok hks hD hk0 b1 b2
  obtain ⟨n, hn⟩ : ∃ n : Nat, 6 ≤ n := ⟨6, Nat.le_refl _⟩
  refine (callsIn_wide (n := n)).1 ?_
  refine callsIn_of_wp_marks Try.func40 rfl trivial (wpIn_mono ?_ (noPanic_le _)) rfl
  simp only [Try.ntmps40, List.size_toArray, List.length_cons, List.length_nil, Nat.reduceAdd, Nat.reduceSub, Array.replicate_succ, Array.replicate_zero, List.push_toArray, List.append_toArray, List.nil_append, List.cons_append]
  refine wpIn_wide.2 ?_
  go_wp2_with fail
  go_step3
  go_wp2_with fail
  go_step3
  rw [← hw0]
  clear hw0
  go_wp2_with fail
  refine (tall_any (some ⟨tg, 0, none⟩) w0).mono ?_
  rintro e w1 ⟨rfl, hw1⟩
  have k1 : Keep (fun _ => False) w0 w1 := by rw [hw1]; exact (Keep.refl _ w0).alloc _
  have hs1 : w1.heap.size = w.heap.size + 3 := by rw [hw1]; simp [hs0]
  have hG : Boxed w1 (w.heap.size + 2) 81 (.pointer (some ⟨tg, 0, none⟩)) := by rw [hw1, ← hs0]; exact Boxed.new w0 _ _
  have b1 := boxed_kept B1.out k1 id; have b2 := boxed_kept B2.out k1 id
  have HQ1 := Lib.hid (HQ0.out.kept k1)
  have hb1 : Below w.heap.size w w1 := (K0.out.trans k1).below (Nat.le_refl _) (fun _ h => h.elim)
  rw [hs0]
  clear hw1 HQ0 B1 B2 K0 k1 cw
  go_wp2
  refine (wpIn_wide (n := n)).1 ?_
  obtain ⟨ga, b, cap, n', tp, m, L, s, Sa, hT, hL, _⟩ := HQ1.out.tree
  obtain ⟨i0, hi0, hz0, hz1, hz2⟩ := info_parts Try.infoKey
  have HI := Lib.hid hi0; have HZ0 := Lib.hid hz0; have HZ1 := Lib.hid hz1; have HZ2 := Lib.hid hz2; clear hi0 hz0 hz1 hz2
  have hll : L.length = ks.length := by rw [← hL, List.length_map]
  have HGIV := Lib.hid (tall1_gives (n - 1) (by omega) (fun k => k = w.heap.size + 1) (w.heap.size + 2) w.heap.size w1 hT hG (fun k hk => HLT.out k (.inr (.inl hk))) (by omega) (fun k e => by omega) (by omega) (fun k hk e => by omega))
  rw [hL, hll] at HGIV
  have HB1' := Lib.hid b1; have HB2' := Lib.hid b2; have HBW := Lib.hid hb1; have HS1 := Lib.hid hs1
  have hs1' : w.heap.size + 3 ≤ w1.heap.size := by omega
  clear hT hL hll hG b1 b2 hb1 hs1
  refine range_lawB rfl (by omega) (gf := 80) (lb := #[.pointer (some ⟨w.heap.size + 2, 0, none⟩)]) rfl trivial (enters_of Try.func80 (by kernel_rfl) rfl)
    HGIV.out (Below.refl _ _) (fun _ => rfl)
    (fun pre W => ((∃ u, Boxed W (w.heap.size + 1) 109 u ∧ W.ownsRow (w1.heap.size + 4) 96 2 u pre.length (flatK pre) ∧ (∀ y ∈ pre, y.a ≤ now) ∧ pre.length ≤ 8) ∧ Boxed W w.heap.size 22 (.int .u64 now)) ∧ Below w.heap.size w W)
    (fun co pre W => (∃ u, Boxed W (w.heap.size + 1) 109 u ∧ W.ownsRow (w1.heap.size + 4) 96 2 u pre.dropLast.length (flatK pre.dropLast) ∧ (co = .exit 0 ∧ ∃ q z, pre = q ++ [z] ∧ (∀ y ∈ q, y.a ≤ now) ∧ now < z.a)) ∧ Below w.heap.size w W)
    (OwnFrom.and (OwnFrom.and (Own.from (holdsRow_own (w1.heap.size + 4) (w.heap.size + 1) 109 96 2 (fun pre => pre.length) (fun pre => flatK pre) (fun pre _ => (∀ y ∈ pre, y.a ≤ now) ∧ pre.length ≤ 8)) _) (Own.from (boxed_own _ _ (fun _ => _)) _)) (ownFrom_below (Nat.le_refl _) (by omega)))
    (fun co => OwnFrom.and (Own.from (holdsRow_own (w1.heap.size + 4) (w.heap.size + 1) 109 96 2 (fun pre => pre.dropLast.length) (fun pre => flatK pre.dropLast) (fun pre _ => co = .exit 0 ∧ ∃ q z, pre = q ++ [z] ∧ (∀ y ∈ q, y.a ≤ now) ∧ now < z.a)) _) (ownFrom_below (Nat.le_refl _) (by omega)))
    ⟨⟨⟨_, HB2'.out, World.ownsRow_nil _ _ _ _, (fun y hy => by cases hy), Nat.zero_le _⟩, HB1'.out⟩, HBW.out⟩
    (fun k B => { tmps := #[.pointer (some ⟨g, 0, none⟩), .int .u64 now, undef, .pointer (some ⟨w.heap.size, 0, none⟩), .pointer (some ⟨w.heap.size + 1, 0, none⟩), .pointer (some ⟨B, 0, none⟩), undef, undef, .pointer (some ⟨g, 0, none⟩), .pointer (some ⟨g, 0, none⟩), .pointer (some ⟨g, 67, none⟩), .pointer (some ⟨tg, 0, none⟩), .func (.func 80) #[] #[.pointer (some ⟨w.heap.size + 2, 0, none⟩)], .agg #[.int .u64 k.a, .int .u64 k.b], undef, undef, undef, undef, undef, undef, undef, undef, undef, undef, undef, undef, undef, undef, undef, undef, undef, undef, undef, undef, undef, undef, undef, undef, undef, undef, undef, undef], defers := [] })
    (fun k => .cells #[.int .u64 k.a, .int .u64 k.b] 96) ?assign ?body ?done ?stop
  case assign =>
    intro l k W K hK
    dsimp only [encK, kv]
    gi_wp2
    exact hK
  case body =>
    rintro l pre ⟨ka, kb⟩ W B ⟨⟨⟨u, hv, hrow, hle, hp8⟩, hbn⟩, hB⟩ hkb hwB hpl hroom
    dsimp only at hkb
    have hkW : Whole W B 96 #[.int .u64 ka, .int .u64 kb] := hkb
    have ck := hkW.cell 0; have ck1 := hkW.cell 1
    simp only [List.getElem?_toArray, List.getElem?_cons_zero, List.getElem?_cons_succ] at ck ck1
    have cn := hbn.cell
    have HBN := Lib.hid hbn; have HB := Lib.hid hB; have HKB := Lib.hid hkW; have HLE := Lib.hid hle; have HROOM := Lib.hid hroom; have HWB := Lib.hid hwB
    clear hbn hB hkb hkW hle
    by_cases hgo : ka ≤ now
    · have hgo2 : ¬ now < ka := by omega
      obtain ⟨a, c, rfl⟩ : ∃ a c, u = .slice a pre.length c := by
        rcases hrow.2 with ⟨rfl, h0⟩ | ⟨g, cap, cur, rfl, _⟩
        · exact ⟨none, 0, by rw [h0]⟩
        · exact ⟨_, _, rfl⟩
      have hlen : pre.length < 8 := by have := HFEW.out; omega
      have cu := hv.cell
      have hbl : W.heap.size = W.heap.size := rfl
      have HV := Lib.hid hv; have HROW := Lib.hid hrow
      have HNEWS := Lib.hid (row_news W (kcells ⟨ka, kb⟩) 96 _ rfl)
      have HGO := Lib.hid hgo
      clear hv hrow hbl
      have HSZ : Hid (w.heap.size ≤ W.heap.size) := Lib.hid HB.out.size
      gi_wp2_with (gi_at_builtin; refine wpListIn_append_own _ rfl _ _ 109 rfl (w1.heap.size + 4) 96 i0 (.agg #[.int .u64 0, .int .u64 0]) 2 16 Try.underlying109 HI.out HZ0.out HZ1.out HZ2.out rfl (by decide) _ _ _ rfl (HROW.out.alloc _) ⟨W.heap.size, 0, none⟩ 1 1 (kcells ⟨ka, kb⟩) rfl rfl HNEWS.out (one_kcells _) (by unfold maxLen; omega) (by omega) (by have := HROOM.out; simp; omega) ?_; intro v' w3 hown' hgrow _; obtain ⟨g', cap', hv'⟩ := ownsRow_succ hown'; subst hv'; obtain ⟨hv1, hv2, _, hk2, hb2⟩ := HV.out.appended (n₀ := w.heap.size) (by decide) (ownsRow_low HROW.out (by omega)) HSZ.out (by omega) (ownsRow_low hown' (by omega)) hgrow; have hr2 := hown'.kept (grownBy_setCell' w3 (w.heap.size + 1) (.slice (some ⟨g', 0, none⟩) (pre.length + 1) cap')) (.inr (hv1.not_row (by decide) hown').symm); have hkk : Keep (fun k => k = w.heap.size + 1 ∨ w1.heap.size + 2 + 2 ≤ k) W (w3.setCell ⟨w.heap.size + 1, 0, none⟩ (.slice (some ⟨g', 0, none⟩) (pre.length + 1) cap')) := (((Keep.refl _ W).alloc _).trans ((Keep.of_grown hgrow).mono (fun k e => .inr (by have := (HROW.out.lt k e).1; omega)))).setCell (.inl (.inl rfl)) _; have hc1 := hv1.cell; have hf1 := hv1.frozen; have HR := Lib.hid (⟨hv2, hr2, hk2, hb2, hkk⟩ : _ ∧ _ ∧ _ ∧ _ ∧ _); clear hown' hgrow hv1 hv2 hr2 hk2 hb2 hkk)
      obtain ⟨hv2, hr2, hk2, hb2, hkk⟩ := HR.out
      refine ⟨hk2.from _, hkk, ⟨⟨_, hv2, ?_, ?_, ?_⟩, boxed_kept HBN.out hkk (by have := HS1.out; omega)⟩, HB.out.trans hb2⟩
      · rw [flatK_app] at hr2
        rwa [List.length_append, List.length_singleton]
      · intro y hy
        rcases List.mem_append.1 hy with hy | hy
        · exact HLE.out y hy
        · rw [List.mem_singleton.1 hy]; exact HGO.out
      · rw [List.length_append, List.length_singleton]; omega
    · have hgo2 : now < ka := by omega
      have HGO := Lib.hid hgo2
      have HV := Lib.hid hv; have HROW := Lib.hid hrow
      clear hv hrow
      gi_wp2
      refine ⟨KeepsFrom.refl _ _, Keep.refl _ _, ⟨u, HV.out, ?_, rfl, pre, _, rfl, HLE.out, HGO.out⟩, HB.out⟩
      simp only [List.length_append, List.length_singleton, Nat.add_sub_cancel, List.dropLast_concat]
      exact HROW.out
  case done =>
    rintro D' ys Wd hD hys ⟨⟨⟨u, hv, hrow, hle, _⟩, _⟩, hB⟩ hK
    have hE : ys = D := by rw [HDD.out, ← hys]; exact (takeWhile_all (fun y hy => by simpa using hle y hy)).symm
    obtain ⟨E, hEe⟩ : ∃ E, E = ys := ⟨_, rfl⟩
    rw [← hEe] at hE hrow
    clear hle hys hEe
    have hpk : ∀ j, j ≤ E.length → E.take j = ks.take j ∧ j ≤ ks.length := fun j hj => by
      have hp : E <+: ks := by rw [hE, HDD.out]; exact List.takeWhile_prefix _
      have h1 := List.prefix_iff_eq_take.1 hp
      have h2 := hp.length_le
      exact ⟨by rw [h1, List.take_take, Nat.min_eq_left hj], by omega⟩
    obtain ⟨a, c, rfl⟩ : ∃ a c, u = .slice a E.length c := by
      rcases hrow.2 with ⟨rfl, h0⟩ | ⟨g, cap, cur, rfl, _⟩
      · exact ⟨none, 0, by rw [h0]⟩
      · exact ⟨_, _, rfl⟩
    have cu := hv.cell
    have HQD := Lib.hid (HQW.out.keep (keep_of_below hB) (fun k hk h => by have := HLT.out k hk; omega))
    have HBD := Lib.hid hB; have HKD := Lib.hid hK; have HROW := Lib.hid hrow; have HE := Lib.hid hE; have HPK := Lib.hid hpk
    have hE8 : E.length ≤ 8 := by have := (hpk E.length (Nat.le_refl _)).2; have := HFEW.out; omega
    clear hv hrow hB hK hE hpk HGIV HI HZ0 HZ1 HZ2
    gi_wp2
    go_wp2
    go_loopw [24] (fun i wr => ∃ (j : Nat) (S' : Nat → Prop) (cs' : Array Value), j ≤ E.length ∧ i = .int .i64 j ∧ FQw wr g tg S' cs' v (ks.drop j) (wakeL x (ks.take j)) ∧ Keep (FQown g S v) Wd wr ∧ ∀ k, S' k → S k ∨ Wd.heap.size ≤ k) (fun i _ => E.length - (intOf i).toNat)
    case atStart => exact ⟨0, S, cs, Nat.zero_le _, rfl, HQD.out, Keep.refl _ _, fun k hk => .inl hk⟩
    case round =>
      obtain ⟨j, S', cs', hj, rfl, hq, hk, hs⟩ := hrel
      by_cases hlt : j < E.length
      · obtain ⟨k, hkE⟩ : ∃ k, E[j]? = some k := ⟨_, List.getElem?_eq_getElem hlt⟩
        have hi1 : (j : Int) < (E.length : Int) := by omega
        obtain ⟨rb, capr, ea, hrb, hrl⟩ := row_form HROW.out (by omega)
        cases ea
        have hfl := flatK_get E j k hkE
        have ck0 : wr.cell? ⟨rb, j * 2, none⟩ = some (.int .u64 k.a) :=
          (hk.cell (p := ⟨rb, j * 2, none⟩) hrl (fun h => by have := HLT.out rb h; omega)).trans ((World.ownsRow.cellAt HROW.out (j * 2) (by omega)).trans hfl.1)
        have ck1 : wr.cell? ⟨rb, j * 2 + 1, none⟩ = some (.int .u64 k.b) :=
          (hk.cell (p := ⟨rb, j * 2 + 1, none⟩) hrl (fun h => by have := HLT.out rb h; omega)).trans ((World.ownsRow.cellAt HROW.out (j * 2 + 1) (by omega)).trans hfl.2)
        have hkk : ks[j]? = some k := by
          have h1 := (HPK.out E.length (Nat.le_refl _)).1
          rw [List.take_length] at h1
          rw [h1, List.getElem?_take_of_lt hlt] at hkE
          exact hkE
        obtain ⟨hjl, hje⟩ := List.getElem?_eq_some_iff.1 hkk
        have hd : ks.drop j = k :: ks.drop (j + 1) := by rw [List.drop_eq_getElem_cons hjl, hje]
        have htk : ks.take (j + 1) = ks.take j ++ [k] := by rw [List.take_succ_eq_append_getElem hjl, hje]
        obtain ⟨hokj, hksj⟩ := wake_some HOK.out HKS.out HSORT.out j (HPK.out j hj).2
        have hsj : (k :: ks.drop (j + 1)).Pairwise KLt := by rw [← hd]; exact HSORT.out.sublist (List.drop_sublist _ _)
        rw [hd] at hksj hq
        have hdel := del_head hsj
        have hnext := wakeL_snoc x (ks.take j) k
        rw [← htk] at hnext
        obtain ⟨xj, hxj⟩ : ∃ xj, xj = wakeL x (ks.take j) := ⟨_, rfl⟩
        rw [← hxj] at hokj hksj hq hnext
        obtain ⟨i, hi, hke, _, _, _, _, hnN, hnO⟩ := wake_one hokj hksj hsj
        have hkb : k.b = (i : Int) := by rw [hke]; rfl
        obtain ⟨ka, kb⟩ := k
        dsimp only at hkb ck0 ck1 hnext
        subst hkb
        rw [Int.toNat_natCast] at hnext
        have hw8 : IntKind.i64.wrap (i : Int) = (i : Int) := by rw [IntKind.wrap_i64]; omega
        have HNX := Lib.hid hnext; have HDEL := Lib.hid hdel; have HI8 := Lib.hid hi; have HNN := Lib.hid hnN; have HNO := Lib.hid hnO; have HOJ := Lib.hid hokj
        have HQ := Lib.hid hq; have HK := Lib.hid hk; have HS := Lib.hid hs
        clear hkE hfl hkk hjl hje hd htk hksj hsj hdel hnext hxj hke hnN hnO hokj hq hk hs hi hrb hrl hj cu
        go_wp2
        have HB4 := Lib.hid (Whole.new wr 96 #[.int .u64 ka, .int .u64 (i : Int)])
        have K4 := Lib.hid (HK.out.alloc (.cells #[.int .u64 ka, .int .u64 (i : Int)] 96)).drew
        have HQ4 := Lib.hid (HQ.out.kept ((Keep.refl _ wr).alloc (.cells #[.int .u64 ka, .int .u64 (i : Int)] 96)).drew)
        have HB4 : Hid (Whole (wr.alloc (.cells #[.int .u64 ka, .int .u64 (i : Int)] 96)).drew wr.heap.size 96 #[.int .u64 ka, .int .u64 (i : Int)]) := HB4
        have HSZ : Hid (wr.heap.size < (wr.alloc (.cells #[.int .u64 ka, .int .u64 (i : Int)] 96)).drew.heap.size) := Lib.hid HB4.out.lt
        have HG4 : Hid (∀ k, FQown g S' v k → k < wr.heap.size) := Lib.hid (fun k hk => HQ.out.lt hk)
        have HGW := Lib.hid (HG4.out g (.inl rfl))
        clear ck0 ck1
        refine wp_region_sch (fun W => W.cell? ⟨g, 67, none⟩ = some (.pointer (some ⟨tg, 0, none⟩)) ∧ W.cell? ⟨wr.heap.size, 0, none⟩ = some (.int .u64 ka) ∧ W.cell? ⟨wr.heap.size, 1, none⟩ = some (.int .u64 (i : Int))) [(true, 0), (true, 1), (true, 2), (true, 3), (true, 4), (false, 5)] (by kernel_rfl) (by kernel_rfl) (by kernel_rfl) (by kernel_rfl) ⟨HQ4.out.wait, HB4.out.cell 0, HB4.out.cell 1⟩ ?_
        generalize (wr.alloc (.cells #[.int .u64 ka, .int .u64 (i : Int)] 96)).drew = w4 at *
        (repeat (refine wpSch_yes (v := ?_) rfl (fun _ _ _ h => h) (by rfl) ?_ ?_; rotate_left; (next => (intro w hSw; (try dsimp only at hSw); obtain ⟨hS1, hS2, hS3⟩ := hSw; go_simp; (try with_reducible rfl))); (try simp only [Act.put, List.setIfInBounds_toArray, List.set_cons_zero, List.set_cons_succ])))
        refine wpSch_call rfl (by rfl) (fun K hK => ?_); go_simp
        refine (tdel_any ⟨ka, (i : Int)⟩ w4 HQ4.out.tree).mono ?_
        rintro e w5 ⟨rfl, S5, ht5, st5⟩
        rw [HDEL.out] at ht5
        have HB5 := Lib.hid (HB4.out.keep st5.1 (fun h => by have := HG4.out _ (.inr (.inl h)); omega))
        have HQ5 := Lib.hid (HQ4.out.trees ht5 st5)
        have K5 : Hid (Keep (FQown g S v) Wd w5) := Lib.hid (K4.out.then st5.1 (fun k hk hlt => (HS.out k hk).elim (fun e => .inr (.inl e)) (fun e => by omega)))
        have HS5 : Hid (∀ k, S5 k → S k ∨ Wd.heap.size ≤ k) := Lib.hid (fun k hk => (st5.2 k hk).elim (HS.out k) (fun e => .inr (Nat.le_trans K4.out.size e)))
        clear ht5 st5
        refine hK.out _ _ ⟨HQ5.out.wait, HB5.out.cell 0, HB5.out.cell 1⟩ (fun hHeld => ?_)
        clear hK K hHeld
        (try simp only [Act.put, List.setIfInBounds_toArray, List.set_cons_zero, List.set_cons_succ])
        refine wpSch_nil ?_
        clear HQ4 K4 HB4 HSZ HG4 HQ HK HS HDEL
        go_wp2_with fail
        refine wp_region_sch (fun W => W.cell? ⟨wr.heap.size, 1, none⟩ = some (.int .u64 (i : Int))) [(true, 0), (true, 1), (true, 2), (true, 3), (true, 4), (true, 5), (false, 6)] (by kernel_rfl) (by kernel_rfl) (by kernel_rfl) (by kernel_rfl) (HB5.out.cell 1) ?_
        have HQ6 := Lib.hid (HQ5.out.kept (Keep.refl _ w5).drew); have HB6 : Hid (Whole w5.drew wr.heap.size 96 #[.int .u64 ka, .int .u64 (i : Int)]) := HB5; have K6 := Lib.hid K5.out.drew
        generalize w5.drew = w6 at *
        clear HQ5 HB5 K5
        (repeat (refine wpSch_yes (v := ?_) rfl (fun _ _ _ h => h) (by rfl) ?_ ?_; rotate_left; (next => (intro w hSw; (try dsimp only at hSw); (have hS1 := hSw); go_simp; (try with_reducible rfl))); (try simp only [Act.put, List.setIfInBounds_toArray, List.set_cons_zero, List.set_cons_succ])))
        refine wpSch_call rfl (by rfl) (fun K hK => ?_); go_simp
        refine (lppush_any g 49 cs' xj.N xj.O (i : Int) false w6 (HQ6.out.ls HOJ.out.ls)).mono ?_
        rintro e w7 ⟨rfl, h7⟩
        rw [pushV_no HI8.out HNN.out HNO.out]
        obtain ⟨cs7, hq7, hk7⟩ := HQ6.out.lists h7
        have HQ7 := Lib.hid (hq7.seen (seen_wake HI8.out HNN.out HNO.out))
        have HB7 := Lib.hid (HB6.out.keep hk7 (fun e => by have := HGW.out; omega))
        have K7 : Hid (Keep (FQown g S v) Wd w7) := Lib.hid (K6.out.then hk7 (fun k hk _ => .inl hk))
        clear h7 hq7 hk7
        refine hK.out _ _ (HB7.out.cell 1) (fun hHeld => ?_)
        clear hK K hHeld
        (try simp only [Act.put, List.setIfInBounds_toArray, List.set_cons_zero, List.set_cons_succ])
        refine wpSch_nil ?_
        go_wp2
        go_roundw
        case rel => exact ⟨j + 1, S5, cs7, by omega, by go_num, by rw [HNX.out]; exact HQ7.out, K7.out, HS5.out⟩
        case measure => simp [intOf]; omega
      · obtain rfl : j = E.length := by omega
        have hkt := (HPK.out E.length (Nat.le_refl _)).1
        rw [List.take_length] at hkt
        rw [← hkt] at hq
        have HQ := Lib.hid hq; have HK := Lib.hid hk; have HS := Lib.hid hs
        clear hq hk hs hkt hlt
        go_wp2
        rw [Exit.noGoto_normal]
        refine noPanic_normal ?_
        have hKw : wr.heap[D']? = some (.deferred (some [])) := (HK.out.block D' (Array.getElem?_eq_some_iff.1 HKD.out).1 (fun h => by have := HLT.out D' h; omega)).trans HKD.out
        have hDl := (Array.getElem?_eq_some_iff.1 HKD.out).1
        refine ⟨by simp, .inl ⟨_, _, rfl, run_takeDeferred hKw, ?_⟩⟩
        have hkp : Keep (fun k => k = D') wr (wr.putObj D' (.deferred none)) := keep_put wr D' _ rfl
        refine ⟨_, results_none rfl _ _ _, ⟨_, rfl⟩, S', cs', ks.drop E.length, ⟨?_, ?_, ?_⟩, ?_, ?_⟩
        · rw [HWK.out, ← HE.out]
          refine HQ.out.keep hkp (fun k hk e => ?_)
          rcases hk with h | h | h
          · have := HLT.out g (.inl rfl); omega
          · rcases HS.out k h with h | h
            · have := HLT.out k (.inr (.inl h)); omega
            · omega
          · have := HLT.out k (.inr (.inr h)); omega
        · exact wake_ok 8 HOK.out
        · rw [HWK.out, ← HE.out]
          have h1 := (wake_some HOK.out HKS.out HSORT.out E.length (HPK.out _ (Nat.le_refl _)).2).2
          have h2 := (HPK.out E.length (Nat.le_refl _)).1
          rw [List.take_length] at h2
          rwa [← h2] at h1
        · have hwd : Keep (FQown g S v) w Wd := Keep.of_below HBD.out
          exact (hwd.trans HK.out).then hkp (fun k e hlt => by omega)
        · intro k hk
          have := HBD.out.size
          exact (HS.out k hk).imp id (fun e => by omega)
  case stop =>
    rintro D' c pre Wd hD ⟨k, hk, hpre⟩ ⟨⟨u, hv, hrow, rfl, q, z, hq, hqs, hz⟩, hB⟩ hK
    rw [hq, List.dropLast_concat] at hrow
    have hE : q = D := by
      rw [HDD.out]
      have : ks = q ++ z :: ks.drop k := by
        conv => lhs; rw [← List.take_append_drop k ks, ← hpre, hq]
        simp
      rw [this]
      exact (takeWhile_stop (fun y hy => by simpa using hqs y hy) (by simpa using hz)).symm
    obtain ⟨E, hEe⟩ : ∃ E, E = q := ⟨_, rfl⟩
    rw [← hEe] at hE hrow
    clear hqs hz hq hpre hk hEe
    have hpk : ∀ j, j ≤ E.length → E.take j = ks.take j ∧ j ≤ ks.length := fun j hj => by
      have hp : E <+: ks := by rw [hE, HDD.out]; exact List.takeWhile_prefix _
      have h1 := List.prefix_iff_eq_take.1 hp
      have h2 := hp.length_le
      exact ⟨by rw [h1, List.take_take, Nat.min_eq_left hj], by omega⟩
    obtain ⟨a, c, rfl⟩ : ∃ a c, u = .slice a E.length c := by
      rcases hrow.2 with ⟨rfl, h0⟩ | ⟨g, cap, cur, rfl, _⟩
      · exact ⟨none, 0, by rw [h0]⟩
      · exact ⟨_, _, rfl⟩
    have cu := hv.cell
    have HQD := Lib.hid (HQW.out.keep (keep_of_below hB) (fun k hk h => by have := HLT.out k hk; omega))
    have HBD := Lib.hid hB; have HKD := Lib.hid hK; have HROW := Lib.hid hrow; have HE := Lib.hid hE; have HPK := Lib.hid hpk
    have hE8 : E.length ≤ 8 := by have := (hpk E.length (Nat.le_refl _)).2; have := HFEW.out; omega
    clear hv hrow hB hK hE hpk HGIV HI HZ0 HZ1 HZ2
    gi_wp2
    go_wp2
    go_loopw [24] (fun i wr => ∃ (j : Nat) (S' : Nat → Prop) (cs' : Array Value), j ≤ E.length ∧ i = .int .i64 j ∧ FQw wr g tg S' cs' v (ks.drop j) (wakeL x (ks.take j)) ∧ Keep (FQown g S v) Wd wr ∧ ∀ k, S' k → S k ∨ Wd.heap.size ≤ k) (fun i _ => E.length - (intOf i).toNat)
    case atStart => exact ⟨0, S, cs, Nat.zero_le _, rfl, HQD.out, Keep.refl _ _, fun k hk => .inl hk⟩
    case round =>
      obtain ⟨j, S', cs', hj, rfl, hq, hk, hs⟩ := hrel
      by_cases hlt : j < E.length
      · obtain ⟨k, hkE⟩ : ∃ k, E[j]? = some k := ⟨_, List.getElem?_eq_getElem hlt⟩
        have hi1 : (j : Int) < (E.length : Int) := by omega
        obtain ⟨rb, capr, ea, hrb, hrl⟩ := row_form HROW.out (by omega)
        cases ea
        have hfl := flatK_get E j k hkE
        have ck0 : wr.cell? ⟨rb, j * 2, none⟩ = some (.int .u64 k.a) :=
          (hk.cell (p := ⟨rb, j * 2, none⟩) hrl (fun h => by have := HLT.out rb h; omega)).trans ((World.ownsRow.cellAt HROW.out (j * 2) (by omega)).trans hfl.1)
        have ck1 : wr.cell? ⟨rb, j * 2 + 1, none⟩ = some (.int .u64 k.b) :=
          (hk.cell (p := ⟨rb, j * 2 + 1, none⟩) hrl (fun h => by have := HLT.out rb h; omega)).trans ((World.ownsRow.cellAt HROW.out (j * 2 + 1) (by omega)).trans hfl.2)
        have hkk : ks[j]? = some k := by
          have h1 := (HPK.out E.length (Nat.le_refl _)).1
          rw [List.take_length] at h1
          rw [h1, List.getElem?_take_of_lt hlt] at hkE
          exact hkE
        obtain ⟨hjl, hje⟩ := List.getElem?_eq_some_iff.1 hkk
        have hd : ks.drop j = k :: ks.drop (j + 1) := by rw [List.drop_eq_getElem_cons hjl, hje]
        have htk : ks.take (j + 1) = ks.take j ++ [k] := by rw [List.take_succ_eq_append_getElem hjl, hje]
        obtain ⟨hokj, hksj⟩ := wake_some HOK.out HKS.out HSORT.out j (HPK.out j hj).2
        have hsj : (k :: ks.drop (j + 1)).Pairwise KLt := by rw [← hd]; exact HSORT.out.sublist (List.drop_sublist _ _)
        rw [hd] at hksj hq
        have hdel := del_head hsj
        have hnext := wakeL_snoc x (ks.take j) k
        rw [← htk] at hnext
        obtain ⟨xj, hxj⟩ : ∃ xj, xj = wakeL x (ks.take j) := ⟨_, rfl⟩
        rw [← hxj] at hokj hksj hq hnext
        obtain ⟨i, hi, hke, _, _, _, _, hnN, hnO⟩ := wake_one hokj hksj hsj
        have hkb : k.b = (i : Int) := by rw [hke]; rfl
        obtain ⟨ka, kb⟩ := k
        dsimp only at hkb ck0 ck1 hnext
        subst hkb
        rw [Int.toNat_natCast] at hnext
        have hw8 : IntKind.i64.wrap (i : Int) = (i : Int) := by rw [IntKind.wrap_i64]; omega
        have HNX := Lib.hid hnext; have HDEL := Lib.hid hdel; have HI8 := Lib.hid hi; have HNN := Lib.hid hnN; have HNO := Lib.hid hnO; have HOJ := Lib.hid hokj
        have HQ := Lib.hid hq; have HK := Lib.hid hk; have HS := Lib.hid hs
        clear hkE hfl hkk hjl hje hd htk hksj hsj hdel hnext hxj hke hnN hnO hokj hq hk hs hi hrb hrl hj cu
        go_wp2
        have HB4 := Lib.hid (Whole.new wr 96 #[.int .u64 ka, .int .u64 (i : Int)])
        have K4 := Lib.hid (HK.out.alloc (.cells #[.int .u64 ka, .int .u64 (i : Int)] 96)).drew
        have HQ4 := Lib.hid (HQ.out.kept ((Keep.refl _ wr).alloc (.cells #[.int .u64 ka, .int .u64 (i : Int)] 96)).drew)
        have HB4 : Hid (Whole (wr.alloc (.cells #[.int .u64 ka, .int .u64 (i : Int)] 96)).drew wr.heap.size 96 #[.int .u64 ka, .int .u64 (i : Int)]) := HB4
        have HSZ : Hid (wr.heap.size < (wr.alloc (.cells #[.int .u64 ka, .int .u64 (i : Int)] 96)).drew.heap.size) := Lib.hid HB4.out.lt
        have HG4 : Hid (∀ k, FQown g S' v k → k < wr.heap.size) := Lib.hid (fun k hk => HQ.out.lt hk)
        have HGW := Lib.hid (HG4.out g (.inl rfl))
        clear ck0 ck1
        refine wp_region_sch (fun W => W.cell? ⟨g, 67, none⟩ = some (.pointer (some ⟨tg, 0, none⟩)) ∧ W.cell? ⟨wr.heap.size, 0, none⟩ = some (.int .u64 ka) ∧ W.cell? ⟨wr.heap.size, 1, none⟩ = some (.int .u64 (i : Int))) [(true, 0), (true, 1), (true, 2), (true, 3), (true, 4), (false, 5)] (by kernel_rfl) (by kernel_rfl) (by kernel_rfl) (by kernel_rfl) ⟨HQ4.out.wait, HB4.out.cell 0, HB4.out.cell 1⟩ ?_
        generalize (wr.alloc (.cells #[.int .u64 ka, .int .u64 (i : Int)] 96)).drew = w4 at *
        (repeat (refine wpSch_yes (v := ?_) rfl (fun _ _ _ h => h) (by rfl) ?_ ?_; rotate_left; (next => (intro w hSw; (try dsimp only at hSw); obtain ⟨hS1, hS2, hS3⟩ := hSw; go_simp; (try with_reducible rfl))); (try simp only [Act.put, List.setIfInBounds_toArray, List.set_cons_zero, List.set_cons_succ])))
        refine wpSch_call rfl (by rfl) (fun K hK => ?_); go_simp
        refine (tdel_any ⟨ka, (i : Int)⟩ w4 HQ4.out.tree).mono ?_
        rintro e w5 ⟨rfl, S5, ht5, st5⟩
        rw [HDEL.out] at ht5
        have HB5 := Lib.hid (HB4.out.keep st5.1 (fun h => by have := HG4.out _ (.inr (.inl h)); omega))
        have HQ5 := Lib.hid (HQ4.out.trees ht5 st5)
        have K5 : Hid (Keep (FQown g S v) Wd w5) := Lib.hid (K4.out.then st5.1 (fun k hk hlt => (HS.out k hk).elim (fun e => .inr (.inl e)) (fun e => by omega)))
        have HS5 : Hid (∀ k, S5 k → S k ∨ Wd.heap.size ≤ k) := Lib.hid (fun k hk => (st5.2 k hk).elim (HS.out k) (fun e => .inr (Nat.le_trans K4.out.size e)))
        clear ht5 st5
        refine hK.out _ _ ⟨HQ5.out.wait, HB5.out.cell 0, HB5.out.cell 1⟩ (fun hHeld => ?_)
        clear hK K hHeld
        (try simp only [Act.put, List.setIfInBounds_toArray, List.set_cons_zero, List.set_cons_succ])
        refine wpSch_nil ?_
        clear HQ4 K4 HB4 HSZ HG4 HQ HK HS HDEL
        go_wp2_with fail
        refine wp_region_sch (fun W => W.cell? ⟨wr.heap.size, 1, none⟩ = some (.int .u64 (i : Int))) [(true, 0), (true, 1), (true, 2), (true, 3), (true, 4), (true, 5), (false, 6)] (by kernel_rfl) (by kernel_rfl) (by kernel_rfl) (by kernel_rfl) (HB5.out.cell 1) ?_
        have HQ6 := Lib.hid (HQ5.out.kept (Keep.refl _ w5).drew); have HB6 : Hid (Whole w5.drew wr.heap.size 96 #[.int .u64 ka, .int .u64 (i : Int)]) := HB5; have K6 := Lib.hid K5.out.drew
        generalize w5.drew = w6 at *
        clear HQ5 HB5 K5
        (repeat (refine wpSch_yes (v := ?_) rfl (fun _ _ _ h => h) (by rfl) ?_ ?_; rotate_left; (next => (intro w hSw; (try dsimp only at hSw); (have hS1 := hSw); go_simp; (try with_reducible rfl))); (try simp only [Act.put, List.setIfInBounds_toArray, List.set_cons_zero, List.set_cons_succ])))
        refine wpSch_call rfl (by rfl) (fun K hK => ?_); go_simp
        refine (lppush_any g 49 cs' xj.N xj.O (i : Int) false w6 (HQ6.out.ls HOJ.out.ls)).mono ?_
        rintro e w7 ⟨rfl, h7⟩
        rw [pushV_no HI8.out HNN.out HNO.out]
        obtain ⟨cs7, hq7, hk7⟩ := HQ6.out.lists h7
        have HQ7 := Lib.hid (hq7.seen (seen_wake HI8.out HNN.out HNO.out))
        have HB7 := Lib.hid (HB6.out.keep hk7 (fun e => by have := HGW.out; omega))
        have K7 : Hid (Keep (FQown g S v) Wd w7) := Lib.hid (K6.out.then hk7 (fun k hk _ => .inl hk))
        clear h7 hq7 hk7
        refine hK.out _ _ (HB7.out.cell 1) (fun hHeld => ?_)
        clear hK K hHeld
        (try simp only [Act.put, List.setIfInBounds_toArray, List.set_cons_zero, List.set_cons_succ])
        refine wpSch_nil ?_
        go_wp2
        go_roundw
        case rel => exact ⟨j + 1, S5, cs7, by omega, by go_num, by rw [HNX.out]; exact HQ7.out, K7.out, HS5.out⟩
        case measure => simp [intOf]; omega
      · obtain rfl : j = E.length := by omega
        have hkt := (HPK.out E.length (Nat.le_refl _)).1
        rw [List.take_length] at hkt
        rw [← hkt] at hq
        have HQ := Lib.hid hq; have HK := Lib.hid hk; have HS := Lib.hid hs
        clear hq hk hs hkt hlt
        go_wp2
        rw [Exit.noGoto_normal]
        refine noPanic_normal ?_
        have hKw : wr.heap[D']? = some (.deferred (some [])) := (HK.out.block D' (Array.getElem?_eq_some_iff.1 HKD.out).1 (fun h => by have := HLT.out D' h; omega)).trans HKD.out
        have hDl := (Array.getElem?_eq_some_iff.1 HKD.out).1
        refine ⟨by simp, .inl ⟨_, _, rfl, run_takeDeferred hKw, ?_⟩⟩
        have hkp : Keep (fun k => k = D') wr (wr.putObj D' (.deferred none)) := keep_put wr D' _ rfl
        refine ⟨_, results_none rfl _ _ _, ⟨_, rfl⟩, S', cs', ks.drop E.length, ⟨?_, ?_, ?_⟩, ?_, ?_⟩
        · rw [HWK.out, ← HE.out]
          refine HQ.out.keep hkp (fun k hk e => ?_)
          rcases hk with h | h | h
          · have := HLT.out g (.inl rfl); omega
          · rcases HS.out k h with h | h
            · have := HLT.out k (.inr (.inl h)); omega
            · omega
          · have := HLT.out k (.inr (.inr h)); omega
        · exact wake_ok 8 HOK.out
        · rw [HWK.out, ← HE.out]
          have h1 := (wake_some HOK.out HKS.out HSORT.out E.length (HPK.out _ (Nat.le_refl _)).2).2
          have h2 := (HPK.out E.length (Nat.le_refl _)).1
          rw [List.take_length] at h2
          rwa [← h2] at h1
        · have hwd : Keep (FQown g S v) w Wd := Keep.of_below HBD.out
          exact (hwd.trans HK.out).then hkp (fun k e hlt => by omega)
        · intro k hk
          have := HBD.out.size
          exact (HS.out k hk).imp id (fun e => by omega)
end
end Go.Proofs.Ytnljjdfajmjdjaa
