/-
  Package fq: anyOld: whether there is an old flow (a range over the lists' All). Conditions: the queue lies in memory.
  Package fq: depart: the first segment of a flow, which is in it no more. Conditions: the queue lies in memory, the flow has a segment.
-/
import Derived.Test.YtnljjdfajmjdjaaJ21
import Derived.Test.YtnljjdfajmjdjaaJ23
namespace Go.Proofs.Ytnljjdfajmjdjaa
open Go.RowKit Go.Shelf
set_option maxRecDepth 100000

attribute [local go_sem] Oper.semAt_some

theorem old_none {N O : List Int} (h : ∀ y ∈ tellL N O, y.2 = true) : O = [] := by
  cases O with
  | nil => rfl
  | cons z r =>
    have := h (z, false) (mem_tell.2 (.inr ⟨rfl, List.mem_cons_self ..⟩))
    cases this
theorem old_some {N O : List Int} {q r : List (Int × Bool)} {x : Int × Bool} (h : tellL N O = q ++ x :: r) (hx : x.2 = false) : O ≠ [] := by
  have hm : x ∈ tellL N O := by rw [h]; simp
  rw [mem_tell, hx] at hm
  simp at hm
  intro e
  rw [e] at hm
  cases hm
section
variable {w w' : World} {g tg : Nat} {S : Nat → Prop} {cs : Array Value} {v : Nat → Value} {ks : List Key} {x : Qm}
set_option maxRecDepth 100000 in
set_option maxHeartbeats 2000000 in
theorem FQw.anyOld (h : FQw w g tg S cs v ks x) (hok : LsOk x.N x.O) {b : Bool} (hb : b = !x.O.isEmpty) :
    Calls Try.prog 43 #[.pointer (some ⟨g, 0, none⟩)] w fun e w' => e = .returned (.bool b) ∧ Keep (fun _ => False) w w' := by
  have HIS := Lib.hid (h.ls hok).is
  have hN := hok.len1; have hO := hok.len2
  obtain ⟨N, hNe⟩ : ∃ N, N = x.N := ⟨_, rfl⟩
  obtain ⟨O, hOe⟩ : ∃ O, O = x.O := ⟨_, rfl⟩
  rw [← hNe, ← hOe] at HIS
  rw [← hNe] at hN; rw [← hOe] at hO hb
  have HB := Lib.hid hb
  clear h hok hNe hOe hb
  obtain ⟨n, hn⟩ : ∃ n : Nat, 6 ≤ n := ⟨6, Nat.le_refl _⟩
  refine (callsIn_wide (n := n)).1 ?_
  refine callsIn_of_wp_marks Try.func43 rfl trivial ?_ rfl
  obtain ⟨w0, hw0⟩ : ∃ w0, w0 = w.alloc (.cells #[.bool false] 4) := ⟨_, rfl⟩
  have hk0 : Keep (fun _ => False) w w0 := by rw [hw0]; exact (Keep.refl _ w).alloc _
  have hs0 : w0.heap.size = w.heap.size + 1 := by rw [hw0]; simp
  have b1 : Boxed w0 w.heap.size 4 (.bool false) := by rw [hw0]; exact Boxed.new w _ _
  have H0 := Lib.hid (HIS.out.keep hk0)
  have B1 := Lib.hid b1; have K0 := Lib.hid hk0
  clear b1 hk0
  simp only [Try.ntmps43, List.size_toArray, List.length_cons, List.length_nil, Nat.reduceAdd, Nat.reduceSub, Array.replicate_succ, Array.replicate_zero, List.push_toArray, List.append_toArray, List.nil_append, List.cons_append]
  gi_wp2_with fail
  rw [← hw0]
  refine ⟨trivial, fun h => (by cases h), ?_⟩
  refine (callsIn_wide.2 (lall_is (some ⟨g, 49, none⟩) N O w0 H0.out)).mono ?_
  rintro e w1 ⟨rfl, h1, k1⟩
  rw [hs0] at h1
  have b1 := boxed_kept B1.out k1 id
  have hb1 : Below w.heap.size w w1 := (K0.out.trans k1).below (Nat.le_refl _) (fun _ h => h.elim)
  have hs1 : w.heap.size + 1 ≤ w1.heap.size := by have := k1.size; omega
  have X := Lib.hid h1
  clear hw0 H0 B1 K0 k1 h1 HIS
  gi_wp2
  refine range_law rfl (by omega) (gf := 82) (lb := #[.pointer (some ⟨w.heap.size + 1, 0, none⟩)]) rfl trivial (enters_of Try.func82 (by kernel_rfl) rfl)
    (all1_gives (n - 1) (by omega) (fun _ => False) _ N O w1 X.out hN hO id (fun _ _ => id)) (Below.refl _ _) (fun _ => rfl)
    (fun pre W => (Boxed W w.heap.size 4 (.bool false) ∧ ∀ y ∈ pre, y.2 = true) ∧ Below w.heap.size w W)
    (fun c pre W => (Boxed W w.heap.size 4 (.bool true) ∧ (c = .ret ∧ ∃ q x, pre = q ++ [x] ∧ x.2 = false)) ∧ Below w.heap.size w W)
    (OwnFrom.and (OwnFrom.and (Own.from (boxed_own _ _ (fun _ => _)) _) (ownFrom_pure _ (fun (pre : List (Int × Bool)) => ∀ y ∈ pre, y.2 = true))) (ownFrom_below (Nat.le_refl _) (by omega)))
    (fun c => OwnFrom.and (OwnFrom.and (Own.from (boxed_own _ _ (fun _ => _)) _) (ownFrom_pure _ (fun (pre : List (Int × Bool)) => c = .ret ∧ ∃ q x, pre = q ++ [x] ∧ x.2 = false))) (ownFrom_below (Nat.le_refl _) (by omega)))
    ⟨⟨b1, fun y hy => by cases hy⟩, hb1⟩
    (fun x => { tmps := #[.pointer (some ⟨g, 0, none⟩), undef, .pointer (some ⟨w.heap.size, 0, none⟩), undef, .bool x.2, .pointer (some ⟨g, 0, none⟩), .pointer (some ⟨g, 0, none⟩), .pointer (some ⟨g, 49, none⟩), .func (.func 82) #[] #[.pointer (some ⟨w.heap.size + 1, 0, none⟩)], .int .i64 x.1, .bool x.2, undef, undef], defers := [] }) ?assign ?body ?done ?stop
  case assign =>
    intro l x W K hK
    dsimp only [encL]
    gi_wp2
    exact hK
  case body =>
    rintro l pre ⟨z, f⟩ W ⟨⟨b1, hne⟩, hB⟩ _
    have c1 := b1.cell; have f1 := b1.frozen
    have HB1 := Lib.hid b1; have HBW := Lib.hid hB; have HNE := Lib.hid hne
    clear b1 hB hne
    dsimp only
    cases f with
    | false =>
      gi_wp2
      exact ⟨(KeepsOthers.setCell W _ _).from _, ⟨HB1.out.set _, rfl, _, _, rfl, rfl⟩, HBW.out.setCell (p := ⟨w.heap.size, 0, none⟩) (Nat.le_refl _) _⟩
    | true =>
      gi_wp2
      refine ⟨KeepsFrom.refl _ _, Keep.refl _ _, ⟨HB1.out, fun y hy => ?_⟩, HBW.out⟩
      rcases List.mem_append.1 hy with hy | hy
      · exact HNE.out y hy
      · rw [List.mem_singleton.1 hy]
  case stop =>
    rintro D c pre W hD ⟨k, hk, hpre⟩ ⟨⟨b1, rfl, q, x, hq, hx⟩, hB⟩ hK
    have hv : O ≠ [] := by
      refine old_some (N := N) (q := q) (r := (tellL N O).drop k) (x := x) ?_ hx
      conv => lhs; rw [← List.take_append_drop k (tellL N O), ← hpre, hq]
      simp
    have HV : Hid (b = true) := Lib.hid (by rw [HB.out]; simpa using hv)
    have q2 := (boxed_putObj (o' := .deferred none) b1 hK rfl).cell
    have HBE := Lib.hid (hB.trans (belowK_b (w := w1) (n₀ := w.heap.size) (by omega) W D _ (.deferred none) hD hK rfl rfl))
    clear b1 hB hv hx hq hpre
    gi_wp2
    refine ⟨by simp, .inl ⟨_, _, rfl, run_takeDeferred hK, ?_⟩⟩
    refine ⟨_, (by rw [results_cell1 rfl]; go_simp; rfl), ?_⟩
    exact ⟨by rw [HV.out], Keep.of_below HBE.out⟩
  case done =>
    rintro D ys W hD rfl ⟨⟨b1, hne⟩, hB⟩ hK
    have HV : Hid (b = false) := Lib.hid (by rw [HB.out, old_none hne]; rfl)
    have c2 := b1.cell; have f2 := b1.frozen
    have d2 := b1.set (.bool false)
    have hB3 := hB.setCell (p := ⟨w.heap.size, 0, none⟩) (Nat.le_refl _) (.bool false)
    have hK3 := (KeepsOthers.setCell W ⟨w.heap.size, 0, none⟩ (.bool false)).same D _ hK rfl
    have HD2 := Lib.hid d2; have HB3 := Lib.hid hB3; have HK3 := Lib.hid hK3
    clear b1 hB hne hK d2 hB3 hK3
    gi_wp2
    have d2 := HD2.out; have hB3 := HB3.out; have hK3 := HK3.out
    clear HD2 HB3 HK3
    generalize W.setCell ⟨w.heap.size, 0, none⟩ (.bool false) = W3 at *
    have q2 := (boxed_putObj (o' := .deferred none) d2 hK3 rfl).cell
    have HBE := Lib.hid (hB3.trans (belowK_b (w := w1) (n₀ := w.heap.size) (by omega) W3 D _ (.deferred none) hD hK3 rfl rfl))
    refine ⟨by simp, .inl ⟨_, _, rfl, run_takeDeferred hK3, ?_⟩⟩
    refine ⟨_, (by rw [results_cell1 rfl]; go_simp; rfl), ?_⟩
    exact ⟨by rw [HV.out], Keep.of_below HBE.out⟩
end
end Go.Proofs.Ytnljjdfajmjdjaa
namespace Go.Proofs.Ytnljjdfajmjdjaa
open Go.RowKit
set_option maxRecDepth 100000

/-- A flow behind a departure. -/
def depF (f : Fl) (s : Sg) (r : List Sg) (t : Int) : Fl := { f with q := r, c := f.c - s.l, n := t }
theorem upF_self' {α : Type} {F : Nat → α} {i : Nat} {v : α} (h : F i = v) : upF F i v = F := by subst h; exact upF_self F i
section
variable {w w' : World} {g tg : Nat} {S : Nat → Prop} {cs : Array Value} {v : Nat → Value} {ks : List Key} {x : Qm}
set_option maxHeartbeats 2000000 in
theorem FQw.depart (h : FQw w g tg S cs v ks x) {i : Nat} (hi : i < 8) {s : Sg} {r : List Sg} (hq : (x.F i).q = s :: r) (now rate d : Int) (hc : -65536 ≤ (x.F i).c ∧ (x.F i).c ≤ 65536) (hl : 1 ≤ s.l ∧ s.l ≤ 65536) (hn : U64 now) (hr : U64 rate) (hd : delV s.l rate = d) :
    Calls Try.prog 48 #[.pointer (some ⟨g, 9 + i * 5, none⟩), .int .u64 now, .int .u64 rate] w fun e w' => e = .returned s.v ∧ ∃ cs' v', FQw w' g tg S cs' v' ks { x with F := upF x.F i (depF (x.F i) s r (addS now d)) } ∧ Keep (FQown g S v) w w' ∧ ∀ i k, i < 8 → (v' i).ownBlock = some k → ∃ j, j < 8 ∧ (v j).ownBlock = some k := by
  have H := Lib.hid h
  have HLT := Lib.hid (fun k (hk : FQown g S v k) => h.lt hk)
  have hqi := h.q i hi
  rw [hq] at hqi
  obtain ⟨b, o, cap, hv, hcap, hcm, hbl, q0, q1, q2, q3, q4⟩ := hqi.head
  have c4 := h.seg hi
  have f4 := h.whole.free (9 + i * 5 + 4)
  rw [hv] at c4
  have HV := Lib.hid hv; have HQ := Lib.hid hq; have HC := Lib.hid hc; have HL := Lib.hid hl; have HN := Lib.hid hn; have HR := Lib.hid hr; have HD := Lib.hid hd; have HI := Lib.hid hi
  clear hv hq hc hl hn hr hd hi
  have hgl := h.whole.lt
  have hm1 : (1 : Int) ≤ ((r.length + 1 : Nat) : Int) := by omega
  have hmc : ((r.length + 1 : Nat) : Int) ≤ (cap : Int) := by omega
  clear h hqi
  have HVB : Hid ((v i).ownBlock = some b) := Lib.hid (by rw [HV.out]; rfl)
  have hsg := H.out.q i HI.out
  rw [HQ.out, HV.out] at hsg
  by_cases hcap1 : cap = 1
  · have HT : Hid (SgAt w (.slice (some ⟨b, o, none⟩) 0 0) r) := Lib.hid (hsg.tail (by omega) (by omega) (by rw [if_pos hcap1]))
    clear hsg
    subst hcap1
    go_enter Try.func48, Try.ntmps48
    go_wp2
    obtain ⟨A, hA⟩ : ∃ A : Option Addr, A = some ⟨b, o, none⟩ := ⟨_, rfl⟩
    have HO : Hid (∀ L C k, (Value.slice A L C).ownBlock = some k → k = b) := Lib.hid (fun L C k e => by rw [hA] at e; simpa [Value.ownBlock, eq_comm] using e)
    rw [← hA] at HT ⊢
    clear hA
    have hsz : (w.setCell ⟨g, 9 + i * 5 + 4, none⟩ (.slice A 0 0)).heap.size = w.heap.size := by simp [World.setCell]
    obtain ⟨w2, hw2⟩ : ∃ w2, w2 = ((w.setCell ⟨g, 9 + i * 5 + 4, none⟩ (.slice A 0 0)).alloc (.cells #[.int .i64 0, .int .u64 0, .int .i64 0, .int .u64 0, .bool false] 34)).alloc (.cells #[.int .i64 s.s, .int .u64 s.f, .int .i64 s.l, .int .u64 s.t, .bool s.a] 34) := ⟨_, rfl⟩
    rw [← hw2]
    obtain ⟨u, hu⟩ : ∃ u, u = Value.slice A 0 0 := ⟨_, rfl⟩
    have HO : Hid (∀ k, u.ownBlock = some k → k = b) := Lib.hid (by rw [hu]; exact HO.out _ _)
    rw [← hu] at HT hw2 hsz
    clear hu
    have hk1 : Keep (fun k => k = g) w (w.setCell ⟨g, 9 + i * 5 + 4, none⟩ u) := (Keep.refl (fun k => k = g) w).setCell (p := ⟨g, 9 + i * 5 + 4, none⟩) (.inl rfl) _
    have hk2 : Keep (fun _ => False) (w.setCell ⟨g, 9 + i * 5 + 4, none⟩ u) w2 := by rw [hw2]; exact ((Keep.refl _ _).alloc _).alloc _
    have h6 : Whole w2 w.heap.size 34 #[.int .i64 0, .int .u64 0, .int .i64 0, .int .u64 0, .bool false] := by
      rw [hw2, ← hsz]; exact (Whole.new _ _ _).alloc _
    have h7 : Whole w2 (w.heap.size + 1) 34 #[.int .i64 s.s, .int .u64 s.f, .int .i64 s.l, .int .u64 s.t, .bool s.a] := by
      have e : w.heap.size + 1 = ((w.setCell ⟨g, 9 + i * 5 + 4, none⟩ u).alloc (.cells #[.int .i64 0, .int .u64 0, .int .i64 0, .int .u64 0, .bool false] 34)).heap.size := by rw [World.size_alloc, hsz]
      rw [hw2, e]; exact Whole.new _ _ _
    have hq2 : FQw w2 g tg S (cs.setIfInBounds (9 + i * 5 + 4) u) (upF v i u) ks { x with F := upF x.F i { x.F i with q := r } } := by
      have hh := H.out
      have hs1 : SgAt (w.setCell ⟨g, 9 + i * 5 + 4, none⟩ u) u r := HT.out.keep hk1 (fun k e a => by
        have := HO.out k e
        exact hh.vg HI.out (by rw [HVB.out, ← this, a]))
      have hc := hh.c.set HI.out (k := 4) (by omega) (v' := u) (f := { x.F i with q := r }) (b := x.T i) rfl (fun j hj hne => by
        match j, hj with
        | 0, _ => rfl
        | 1, _ => rfl
        | 2, _ => rfl
        | 3, _ => rfl
        | 4, _ => exact absurd rfl hne)
      have h1 := hh.segs HI.out (R := fun k => k = g) (hh.whole.put (9 + i * 5 + 4) u) hk1 (fun k e => .inl e) hc hs1 (fun k e => .inl (by rw [HVB.out, HO.out k e]))
      rw [upF_self] at h1
      exact h1.kept hk2
    have HV2 : Hid (∀ j k, j < 8 → (upF v i u j).ownBlock = some k → ∃ j, j < 8 ∧ (v j).ownBlock = some k) := Lib.hid (fun j k hj e => by
      by_cases e1 : j = i
      · subst e1
        rw [upF_at] at e
        exact ⟨j, hj, by rw [HVB.out, HO.out k e]⟩
      · rw [upF_ne _ _ e1] at e; exact ⟨j, hj, e⟩)
    have K2 : Hid (Keep (FQown g S v) w w2) := Lib.hid ((hk1.mono (fun k e => .inl e)).trans (hk2.mono (fun _ h => h.elim)))
    obtain ⟨v2, hv2⟩ : ∃ v2, v2 = upF v i u := ⟨_, rfl⟩
    obtain ⟨cs2, hcs2⟩ : ∃ cs2, cs2 = cs.setIfInBounds (9 + i * 5 + 4) u := ⟨_, rfl⟩
    obtain ⟨x2, hx2⟩ : ∃ x2, x2 = ({ x with F := upF x.F i { x.F i with q := r } } : Qm) := ⟨_, rfl⟩
    have HX2 := Lib.hid hx2
    rw [← hv2, ← hcs2, ← hx2] at hq2
    rw [← hv2] at HV2
    have HF2 : Hid (x2.F i = { x.F i with q := r }) := Lib.hid (by rw [hx2]; exact upF_at _ _ _)
    have c1 : w2.cell? ⟨g, 9 + i * 5 + 1, none⟩ = some (.int .i64 (x.F i).c) := by have := hq2.credit HI.out; rwa [HF2.out] at this
    have f1 := hq2.whole.free (9 + i * 5 + 1)
    have cl : w2.cell? ⟨w.heap.size + 1, 2, none⟩ = some (.int .i64 s.l) := h7.cell 2
    have hgl2 := hq2.whole.lt
    have HGS : Hid (g < w.heap.size) := Lib.hid hgl
    have H2 := Lib.hid hq2; have H6 := Lib.hid h6; have H7 := Lib.hid h7
    clear hv2 hcs2 hx2 hq2 h6 h7 hk1 hk2 hsz hw2 c4 f4 q0 q1 q2 q3 q4 hbl hcm hcap hm1 hmc hgl HT HO HVB H HV
    have hwc : IntKind.i64.wrap ((x.F i).c - s.l) = (x.F i).c - s.l := by have := HC.out; have := HL.out; rw [IntKind.wrap_i64]; omega
    go_region
    have hk3 : Keep (fun k => k = g) w2 (w2.setCell ⟨g, 9 + i * 5 + 1, none⟩ (.int .i64 ((x.F i).c - s.l))).drew := ((Keep.refl (fun k => k = g) w2).setCell (p := ⟨g, 9 + i * 5 + 1, none⟩) (.inl rfl) _).drew
    have hq3 := H2.out.set HI.out (k := 1) (by omega) (u := .int .i64 ((x.F i).c - s.l)) (f := { x.F i with q := r, c := (x.F i).c - s.l }) (b := x2.T i) rfl (fun j hj hne => by
      rw [HF2.out]
      match j, hj with
      | 0, _ => rfl
      | 1, _ => exact absurd rfl hne
      | 2, _ => rfl
      | 3, _ => rfl
      | 4, _ => rfl) (by rw [HF2.out])
    rw [upF_self] at hq3
    have hq3 := hq3.kept (Keep.refl _ _).drew
    have h63 := H6.out.keep hk3 (fun e => by have := HGS.out; omega)
    have h73 := H7.out.keep hk3 (fun e => by have := HGS.out; omega)
    have K3 := Lib.hid (K2.out.trans (hk3.mono (fun k e => .inl e)))
    obtain ⟨w3, hw3⟩ : ∃ w3, w3 = (w2.setCell ⟨g, 9 + i * 5 + 1, none⟩ (.int .i64 ((x.F i).c - s.l))).drew := ⟨_, rfl⟩
    rw [← hw3] at hq3 h63 h73 K3 ⊢
    have cl3 : w3.cell? ⟨w.heap.size + 1, 2, none⟩ = some (.int .i64 s.l) := h73.cell 2
    have c2 : w3.cell? ⟨g, 9 + i * 5 + 2, none⟩ = some (.int .u64 (x.F i).n) := by
      have := hq3.next HI.out
      dsimp only at this
      rwa [upF_at] at this
    have f2 := hq3.whole.free (9 + i * 5 + 2)
    have HD0 := Lib.hid (delV_bd s.l HR.out.1)
    rw [HD.out] at HD0
    have HQ3 := Lib.hid hq3; have H63 := Lib.hid h63; have H73 := Lib.hid h73
    clear hw3 c1 f1 cl hgl2 H2 H6 H7 K2 hk3 hq3 h63 h73
    go_wp2_with fail
    refine (del_any s.l rate (by have := HL.out; omega) HR.out.1 HR.out.2 w3).mono ?_
    rintro e w4 ⟨rfl, rfl⟩
    rw [HD.out]
    go_wp2_with fail
    refine (add_any now d HN.out.1 HN.out.2 HD0.out.1 (by have := HD0.out.2; omega) w3).mono ?_
    rintro e w4 ⟨rfl, rfl⟩
    obtain ⟨t, ht⟩ : ∃ t, t = satAdd now d := ⟨_, rfl⟩
    have HTT : Hid (addS now d = t) := Lib.hid ht.symm
    rw [← ht]
    clear ht
    go_upto_region 5 with fail
    have hk5 : Keep (fun k => k = g) w3 (w3.setCell ⟨g, 9 + i * 5 + 2, none⟩ (.int .u64 t)) := (Keep.refl (fun k => k = g) w3).setCell (p := ⟨g, 9 + i * 5 + 2, none⟩) (.inl rfl) _
    have hq5 := HQ3.out.set HI.out (k := 2) (by omega) (u := .int .u64 t) (f := { x.F i with q := r, c := (x.F i).c - s.l, n := t }) (b := x2.T i) rfl (fun j hj hne => by
      dsimp only
      rw [upF_at]
      match j, hj with
      | 0, _ => rfl
      | 1, _ => rfl
      | 2, _ => exact absurd rfl hne
      | 3, _ => rfl
      | 4, _ => rfl) (by dsimp only; rw [upF_at])
    dsimp only at hq5
    rw [upF_self] at hq5
    have h65 := H63.out.keep hk5 (fun e => by have := HGS.out; omega)
    have h75 := H73.out.keep hk5 (fun e => by have := HGS.out; omega)
    have K5 := Lib.hid (K3.out.trans (hk5.mono (fun k e => .inl e)))
    obtain ⟨w5, hw5⟩ : ∃ w5, w5 = w3.setCell ⟨g, 9 + i * 5 + 2, none⟩ (.int .u64 t) := ⟨_, rfl⟩
    rw [← hw5] at hq5 h65 h75 K5 ⊢
    have d0 := h75.cell 0; have d1 := h75.cell 1; have d2 := h75.cell 2; have d3 := h75.cell 3; have d4 := h75.cell 4
    simp only [List.getElem?_toArray, List.getElem?_cons_zero, List.getElem?_cons_succ] at d0 d1 d2 d3 d4
    have e0 := h65.cell 0; have e1 := h65.cell 1; have e2 := h65.cell 2; have e3 := h65.cell 3; have e4 := h65.cell 4
    simp only [List.getElem?_toArray, List.getElem?_cons_zero, List.getElem?_cons_succ] at e0 e1 e2 e3 e4
    have g0 := h65.free 0; have g1 := h65.free 1; have g2 := h65.free 2; have g3 := h65.free 3; have g4 := h65.free 4
    have HP := Lib.hid h65
    have HQ5 := Lib.hid hq5
    clear hw5 hk5 hq5 h65 h75 HQ3 H63 H73 K3 c2 f2 cl3
    go_wp2
    refine bodyPost_ret (v := .agg #[.int .i64 s.s, .int .u64 s.f, .int .i64 s.l, .int .u64 s.t, .bool s.a]) (by rw [results_cell1 rfl]; go_simp) rfl ?_
    have hk7 : Keep (fun k => k = w.heap.size) w5 (((((w5.setCell ⟨w.heap.size, 0, none⟩ (.int .i64 s.s)).setCell ⟨w.heap.size, 1, none⟩ (.int .u64 s.f)).setCell ⟨w.heap.size, 2, none⟩ (.int .i64 s.l)).setCell ⟨w.heap.size, 3, none⟩ (.int .u64 s.t)).setCell ⟨w.heap.size, 4, none⟩ (.bool s.a)) :=
      (((((Keep.refl (fun k => k = w.heap.size) w5).setCell (.inl rfl) _).setCell (.inl rfl) _).setCell (.inl rfl) _).setCell (.inl rfl) _).setCell (.inl rfl) _
    refine ⟨rfl, ((cs2.setIfInBounds (9 + i * 5 + 1) (.int .i64 ((x.F i).c - s.l))).setIfInBounds (9 + i * 5 + 2) (.int .u64 t)), v2, ?_, K5.out.then hk7 (fun k e hlt => by omega), HV2.out⟩
    have he : ({ x2 with F := upF (upF x2.F i { x.F i with q := r, c := (x.F i).c - s.l }) i { x.F i with q := r, c := (x.F i).c - s.l, n := t } } : Qm) = { x with F := upF x.F i (depF (x.F i) s r (addS now d)) } := by
      rw [HX2.out, HTT.out]
      congr 1
      funext j
      by_cases e : j = i
      · subst e; rw [upF_at, upF_at]; rfl
      · rw [upF_ne _ _ e, upF_ne _ _ e, upF_ne _ _ e]; exact upF_ne _ _ e
    rw [← he]
    refine HQ5.out.keep hk7 (fun k hk e => ?_)
    rcases hk with h1 | h1 | ⟨j, hj, h1⟩
    · have := HGS.out; omega
    · have := HLT.out k (.inr (.inl h1)); omega
    · obtain ⟨j', hj', h2⟩ := HV2.out j k hj h1
      have := HLT.out k (.inr (.inr ⟨j', hj', h2⟩)); omega
  · have HT : Hid (SgAt w (.slice (some ⟨b, o + 5, none⟩) r.length (cap - 1)) r) := Lib.hid (hsg.tail rfl rfl (by rw [if_neg hcap1]))
    clear hsg
    go_enter Try.func48, Try.ntmps48
    go_wp2
    obtain ⟨A, hA⟩ : ∃ A : Option Addr, A = some ⟨b, o + 5, none⟩ := ⟨_, rfl⟩
    have HO : Hid (∀ L C k, (Value.slice A L C).ownBlock = some k → k = b) := Lib.hid (fun L C k e => by rw [hA] at e; simpa [Value.ownBlock, eq_comm] using e)
    rw [← hA] at HT ⊢
    clear hA hcap1
    have hsz : (w.setCell ⟨g, 9 + i * 5 + 4, none⟩ (.slice A r.length (cap - 1))).heap.size = w.heap.size := by simp [World.setCell]
    obtain ⟨w2, hw2⟩ : ∃ w2, w2 = ((w.setCell ⟨g, 9 + i * 5 + 4, none⟩ (.slice A r.length (cap - 1))).alloc (.cells #[.int .i64 0, .int .u64 0, .int .i64 0, .int .u64 0, .bool false] 34)).alloc (.cells #[.int .i64 s.s, .int .u64 s.f, .int .i64 s.l, .int .u64 s.t, .bool s.a] 34) := ⟨_, rfl⟩
    rw [← hw2]
    obtain ⟨u, hu⟩ : ∃ u, u = Value.slice A r.length (cap - 1) := ⟨_, rfl⟩
    have HO : Hid (∀ k, u.ownBlock = some k → k = b) := Lib.hid (by rw [hu]; exact HO.out _ _)
    rw [← hu] at HT hw2 hsz
    clear hu
    have hk1 : Keep (fun k => k = g) w (w.setCell ⟨g, 9 + i * 5 + 4, none⟩ u) := (Keep.refl (fun k => k = g) w).setCell (p := ⟨g, 9 + i * 5 + 4, none⟩) (.inl rfl) _
    have hk2 : Keep (fun _ => False) (w.setCell ⟨g, 9 + i * 5 + 4, none⟩ u) w2 := by rw [hw2]; exact ((Keep.refl _ _).alloc _).alloc _
    have h6 : Whole w2 w.heap.size 34 #[.int .i64 0, .int .u64 0, .int .i64 0, .int .u64 0, .bool false] := by
      rw [hw2, ← hsz]; exact (Whole.new _ _ _).alloc _
    have h7 : Whole w2 (w.heap.size + 1) 34 #[.int .i64 s.s, .int .u64 s.f, .int .i64 s.l, .int .u64 s.t, .bool s.a] := by
      have e : w.heap.size + 1 = ((w.setCell ⟨g, 9 + i * 5 + 4, none⟩ u).alloc (.cells #[.int .i64 0, .int .u64 0, .int .i64 0, .int .u64 0, .bool false] 34)).heap.size := by rw [World.size_alloc, hsz]
      rw [hw2, e]; exact Whole.new _ _ _
    have hq2 : FQw w2 g tg S (cs.setIfInBounds (9 + i * 5 + 4) u) (upF v i u) ks { x with F := upF x.F i { x.F i with q := r } } := by
      have hh := H.out
      have hs1 : SgAt (w.setCell ⟨g, 9 + i * 5 + 4, none⟩ u) u r := HT.out.keep hk1 (fun k e a => by
        have := HO.out k e
        exact hh.vg HI.out (by rw [HVB.out, ← this, a]))
      have hc := hh.c.set HI.out (k := 4) (by omega) (v' := u) (f := { x.F i with q := r }) (b := x.T i) rfl (fun j hj hne => by
        match j, hj with
        | 0, _ => rfl
        | 1, _ => rfl
        | 2, _ => rfl
        | 3, _ => rfl
        | 4, _ => exact absurd rfl hne)
      have h1 := hh.segs HI.out (R := fun k => k = g) (hh.whole.put (9 + i * 5 + 4) u) hk1 (fun k e => .inl e) hc hs1 (fun k e => .inl (by rw [HVB.out, HO.out k e]))
      rw [upF_self] at h1
      exact h1.kept hk2
    have HV2 : Hid (∀ j k, j < 8 → (upF v i u j).ownBlock = some k → ∃ j, j < 8 ∧ (v j).ownBlock = some k) := Lib.hid (fun j k hj e => by
      by_cases e1 : j = i
      · subst e1
        rw [upF_at] at e
        exact ⟨j, hj, by rw [HVB.out, HO.out k e]⟩
      · rw [upF_ne _ _ e1] at e; exact ⟨j, hj, e⟩)
    have K2 : Hid (Keep (FQown g S v) w w2) := Lib.hid ((hk1.mono (fun k e => .inl e)).trans (hk2.mono (fun _ h => h.elim)))
    obtain ⟨v2, hv2⟩ : ∃ v2, v2 = upF v i u := ⟨_, rfl⟩
    obtain ⟨cs2, hcs2⟩ : ∃ cs2, cs2 = cs.setIfInBounds (9 + i * 5 + 4) u := ⟨_, rfl⟩
    obtain ⟨x2, hx2⟩ : ∃ x2, x2 = ({ x with F := upF x.F i { x.F i with q := r } } : Qm) := ⟨_, rfl⟩
    have HX2 := Lib.hid hx2
    rw [← hv2, ← hcs2, ← hx2] at hq2
    rw [← hv2] at HV2
    have HF2 : Hid (x2.F i = { x.F i with q := r }) := Lib.hid (by rw [hx2]; exact upF_at _ _ _)
    have c1 : w2.cell? ⟨g, 9 + i * 5 + 1, none⟩ = some (.int .i64 (x.F i).c) := by have := hq2.credit HI.out; rwa [HF2.out] at this
    have f1 := hq2.whole.free (9 + i * 5 + 1)
    have cl : w2.cell? ⟨w.heap.size + 1, 2, none⟩ = some (.int .i64 s.l) := h7.cell 2
    have hgl2 := hq2.whole.lt
    have HGS : Hid (g < w.heap.size) := Lib.hid hgl
    have H2 := Lib.hid hq2; have H6 := Lib.hid h6; have H7 := Lib.hid h7
    clear hv2 hcs2 hx2 hq2 h6 h7 hk1 hk2 hsz hw2 c4 f4 q0 q1 q2 q3 q4 hbl hcm hcap hm1 hmc hgl HT HO HVB H HV
    have hwc : IntKind.i64.wrap ((x.F i).c - s.l) = (x.F i).c - s.l := by have := HC.out; have := HL.out; rw [IntKind.wrap_i64]; omega
    go_region
    have hk3 : Keep (fun k => k = g) w2 (w2.setCell ⟨g, 9 + i * 5 + 1, none⟩ (.int .i64 ((x.F i).c - s.l))).drew := ((Keep.refl (fun k => k = g) w2).setCell (p := ⟨g, 9 + i * 5 + 1, none⟩) (.inl rfl) _).drew
    have hq3 := H2.out.set HI.out (k := 1) (by omega) (u := .int .i64 ((x.F i).c - s.l)) (f := { x.F i with q := r, c := (x.F i).c - s.l }) (b := x2.T i) rfl (fun j hj hne => by
      rw [HF2.out]
      match j, hj with
      | 0, _ => rfl
      | 1, _ => exact absurd rfl hne
      | 2, _ => rfl
      | 3, _ => rfl
      | 4, _ => rfl) (by rw [HF2.out])
    rw [upF_self] at hq3
    have hq3 := hq3.kept (Keep.refl _ _).drew
    have h63 := H6.out.keep hk3 (fun e => by have := HGS.out; omega)
    have h73 := H7.out.keep hk3 (fun e => by have := HGS.out; omega)
    have K3 := Lib.hid (K2.out.trans (hk3.mono (fun k e => .inl e)))
    obtain ⟨w3, hw3⟩ : ∃ w3, w3 = (w2.setCell ⟨g, 9 + i * 5 + 1, none⟩ (.int .i64 ((x.F i).c - s.l))).drew := ⟨_, rfl⟩
    rw [← hw3] at hq3 h63 h73 K3 ⊢
    have cl3 : w3.cell? ⟨w.heap.size + 1, 2, none⟩ = some (.int .i64 s.l) := h73.cell 2
    have c2 : w3.cell? ⟨g, 9 + i * 5 + 2, none⟩ = some (.int .u64 (x.F i).n) := by
      have := hq3.next HI.out
      dsimp only at this
      rwa [upF_at] at this
    have f2 := hq3.whole.free (9 + i * 5 + 2)
    have HD0 := Lib.hid (delV_bd s.l HR.out.1)
    rw [HD.out] at HD0
    have HQ3 := Lib.hid hq3; have H63 := Lib.hid h63; have H73 := Lib.hid h73
    clear hw3 c1 f1 cl hgl2 H2 H6 H7 K2 hk3 hq3 h63 h73
    go_wp2_with fail
    refine (del_any s.l rate (by have := HL.out; omega) HR.out.1 HR.out.2 w3).mono ?_
    rintro e w4 ⟨rfl, rfl⟩
    rw [HD.out]
    go_wp2_with fail
    refine (add_any now d HN.out.1 HN.out.2 HD0.out.1 (by have := HD0.out.2; omega) w3).mono ?_
    rintro e w4 ⟨rfl, rfl⟩
    obtain ⟨t, ht⟩ : ∃ t, t = satAdd now d := ⟨_, rfl⟩
    have HTT : Hid (addS now d = t) := Lib.hid ht.symm
    rw [← ht]
    clear ht
    go_upto_region 5 with fail
    have hk5 : Keep (fun k => k = g) w3 (w3.setCell ⟨g, 9 + i * 5 + 2, none⟩ (.int .u64 t)) := (Keep.refl (fun k => k = g) w3).setCell (p := ⟨g, 9 + i * 5 + 2, none⟩) (.inl rfl) _
    have hq5 := HQ3.out.set HI.out (k := 2) (by omega) (u := .int .u64 t) (f := { x.F i with q := r, c := (x.F i).c - s.l, n := t }) (b := x2.T i) rfl (fun j hj hne => by
      dsimp only
      rw [upF_at]
      match j, hj with
      | 0, _ => rfl
      | 1, _ => rfl
      | 2, _ => exact absurd rfl hne
      | 3, _ => rfl
      | 4, _ => rfl) (by dsimp only; rw [upF_at])
    dsimp only at hq5
    rw [upF_self] at hq5
    have h65 := H63.out.keep hk5 (fun e => by have := HGS.out; omega)
    have h75 := H73.out.keep hk5 (fun e => by have := HGS.out; omega)
    have K5 := Lib.hid (K3.out.trans (hk5.mono (fun k e => .inl e)))
    obtain ⟨w5, hw5⟩ : ∃ w5, w5 = w3.setCell ⟨g, 9 + i * 5 + 2, none⟩ (.int .u64 t) := ⟨_, rfl⟩
    rw [← hw5] at hq5 h65 h75 K5 ⊢
    have d0 := h75.cell 0; have d1 := h75.cell 1; have d2 := h75.cell 2; have d3 := h75.cell 3; have d4 := h75.cell 4
    simp only [List.getElem?_toArray, List.getElem?_cons_zero, List.getElem?_cons_succ] at d0 d1 d2 d3 d4
    have e0 := h65.cell 0; have e1 := h65.cell 1; have e2 := h65.cell 2; have e3 := h65.cell 3; have e4 := h65.cell 4
    simp only [List.getElem?_toArray, List.getElem?_cons_zero, List.getElem?_cons_succ] at e0 e1 e2 e3 e4
    have g0 := h65.free 0; have g1 := h65.free 1; have g2 := h65.free 2; have g3 := h65.free 3; have g4 := h65.free 4
    have HP := Lib.hid h65
    have HQ5 := Lib.hid hq5
    clear hw5 hk5 hq5 h65 h75 HQ3 H63 H73 K3 c2 f2 cl3
    go_wp2
    refine bodyPost_ret (v := .agg #[.int .i64 s.s, .int .u64 s.f, .int .i64 s.l, .int .u64 s.t, .bool s.a]) (by rw [results_cell1 rfl]; go_simp) rfl ?_
    have hk7 : Keep (fun k => k = w.heap.size) w5 (((((w5.setCell ⟨w.heap.size, 0, none⟩ (.int .i64 s.s)).setCell ⟨w.heap.size, 1, none⟩ (.int .u64 s.f)).setCell ⟨w.heap.size, 2, none⟩ (.int .i64 s.l)).setCell ⟨w.heap.size, 3, none⟩ (.int .u64 s.t)).setCell ⟨w.heap.size, 4, none⟩ (.bool s.a)) :=
      (((((Keep.refl (fun k => k = w.heap.size) w5).setCell (.inl rfl) _).setCell (.inl rfl) _).setCell (.inl rfl) _).setCell (.inl rfl) _).setCell (.inl rfl) _
    refine ⟨rfl, ((cs2.setIfInBounds (9 + i * 5 + 1) (.int .i64 ((x.F i).c - s.l))).setIfInBounds (9 + i * 5 + 2) (.int .u64 t)), v2, ?_, K5.out.then hk7 (fun k e hlt => by omega), HV2.out⟩
    have he : ({ x2 with F := upF (upF x2.F i { x.F i with q := r, c := (x.F i).c - s.l }) i { x.F i with q := r, c := (x.F i).c - s.l, n := t } } : Qm) = { x with F := upF x.F i (depF (x.F i) s r (addS now d)) } := by
      rw [HX2.out, HTT.out]
      congr 1
      funext j
      by_cases e : j = i
      · subst e; rw [upF_at, upF_at]; rfl
      · rw [upF_ne _ _ e, upF_ne _ _ e, upF_ne _ _ e]; exact upF_ne _ _ e
    rw [← he]
    refine HQ5.out.keep hk7 (fun k hk e => ?_)
    rcases hk with h1 | h1 | ⟨j, hj, h1⟩
    · have := HGS.out; omega
    · have := HLT.out k (.inr (.inl h1)); omega
    · obtain ⟨j', hj', h2⟩ := HV2.out j k hj h1
      have := HLT.out k (.inr (.inr ⟨j', hj', h2⟩)); omega
end
end Go.Proofs.Ytnljjdfajmjdjaa
