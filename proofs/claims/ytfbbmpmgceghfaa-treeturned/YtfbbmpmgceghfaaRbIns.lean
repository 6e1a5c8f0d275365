/-
  The call Insert of package rbtree, walked. Conditions: the tree lies in memory.
-/
import Derived.Test.YtfbbmpmgceghfaaRbInsert
namespace Go.Proofs.Ytfbbmpmgceghfaa
open Go.RowKit
set_option maxRecDepth 100000

theorem Try.infoNode : (Try.prog.info? 63).map (fun i => (i.zero, i.size, i.bytes)) = some (some (.agg #[.int .u64 0, .int .u64 0, .int .i64 0, .int .i64 0, .int .i64 0, .bool false]), 6, 48) := by kernel_rfl


theorem ids_ins {L A B : List (Nat × Key)} {a : Nat} {k : Key} (e : L = A ++ B) {i : Nat} : i ∈ (A ++ (a, k) :: B).map (·.1) ↔ i = a ∨ i ∈ L.map (·.1) := by
  subst e
  simp only [List.map_append, List.map_cons, List.mem_append, List.mem_cons]
  constructor
  · rintro (h | h | h)
    · exact .inr (.inl h)
    · exact .inl h
    · exact .inr (.inr h)
  · rintro (h | h | h)
    · exact .inr (.inl h)
    · exact .inl h
    · exact .inr (.inr h)

set_option maxHeartbeats 4000000 in
set_option maxRecDepth 100000 in
theorem tins_any {S : Nat → Prop} {g N : Nat} {ks : List Key} (k : Key) (w : World) (h : TreeAt w S g N ks) :
    Calls Try.prog 8 #[.pointer (some ⟨g, 0, none⟩), kv k] w fun e w' => e = .returned (.int .i64 (insE N ks k)) ∧ ∃ S', TreeAt w' S' g N (insS N ks k) ∧ Step S S' w w' := by
  have H0 := Lib.hid h
  obtain ⟨ga, b, cap, n, tp, m, L, s, Sa, h, hks, hN⟩ := h
  subst hks hN
  obtain ⟨t0, hrep⟩ := h.rep
  obtain ⟨hnle, hlN, hN⟩ := h.n_le
  have HH := Lib.hid h; have HREP := Lib.hid hrep; clear h hrep
  have hkeq : kv k = .agg #[.int .u64 k.a, .int .u64 k.b] := rfl
  obtain ⟨ka, kb⟩ := k
  have HF := Lib.hid (fun w' (t' : Tr w' g b cap (.pointer (some ⟨ga, 0, none⟩)) n tp m) => find_any ⟨ka, kb⟩ w' t' HREP.out HH.out.sorted)
  rw [hkeq] at HF
  rw [hkeq]
  dsimp only at HF ⊢
  clear hkeq
  have T1 := Lib.hid (HH.out.tr.alloc (.cells #[.int .u64 ka, .int .u64 kb] 30))
  have K1 : Hid (Keep (fun _ => False) w (w.alloc (.cells #[.int .u64 ka, .int .u64 kb] 30))) := Lib.hid ((Keep.refl _ w).alloc _)
  have W1 := Lib.hid (Whole.new w 30 #[.int .u64 ka, .int .u64 kb])
  go_enter Try.func8, Try.ntmps8
  go_wp2_with fail
  generalize w.alloc (.cells #[.int .u64 ka, .int .u64 kb] 30) = w1 at *
  refine (HF.out w1 T1.out).mono ?_
  rintro e w2 ⟨z, t, rfl, hf, k2⟩
  have K2 := Lib.hid (K1.out.trans k2); have T2 := Lib.hid (T1.out.kept k2); have W2 := Lib.hid (W1.out.keep k2 (fun h => h))
  clear k2 T1 K1 W1 HF
  obtain ⟨hfr, hfound⟩ := hf
  rcases hfound with ⟨rfl, hl, hg⟩ | ⟨i, c, l, r, rfl⟩
  · have HR2 := Lib.hid hfr
    have hgone := Found.gone hfr hl hg
    have HGONE := Lib.hid hgone
    have A2 := Lib.hid (HH.out.ar.keep K2.out (fun _ _ h => h))
    have c0 := T2.out.st.cell 0
    have HSRT : Hid (∀ a, Sorted (z.zl ++ (a, ⟨ka, kb⟩) :: z.zr)) := Lib.hid (fun a => sorted_in (by have := HH.out.sorted; rwa [← hfr.rep.its, show z.zl ++ T.nil.its ++ z.zr = z.zl ++ z.zr by simp [T.its]] at this) hl hg)
    have HLL : Hid (L = z.zl ++ z.zr) := Lib.hid (by rw [← hfr.rep.its]; simp [T.its])
    have hzp := hfr.rep.parLt (by have := HH.out.len; omega)
    have HFIT : Hid (Fits z 0 false) := Lib.hid (by obtain ⟨N, h1, h2⟩ := hfr.rb; have h1 : N = 0 := h1; subst h1; exact h2)
    clear hl hg hfr
    simp only [T.root]
    go_wp2_with fail
    refine (get_any Sa ga s w2 A2.out).mono ?_
    rintro e w3 ⟨rfl, S3, a3, st3⟩
    have A3 := Lib.hid a3; have ST3 := Lib.hid st3
    have T3 := Lib.hid (T2.out.keep st3.1 HH.out.ng HH.out.nb)
    have hBS : ¬ Sa w.heap.size := fun h => by have := HH.out.ar.lt h; omega
    have W3 := Lib.hid (W2.out.keep st3.1 hBS)
    have HS3g : Hid (¬ S3 g) := Lib.hid (st3.apart (R := fun k => k = g) (fun k e => by rw [e]; exact T2.out.gLt) (fun k e => by rw [e]; exact HH.out.ng) g rfl)
    have HS3b : Hid (¬ S3 b) := Lib.hid (st3.apart (R := fun k => k = b) (fun k e => by rw [e]; exact T2.out.hLt) (fun k e => by rw [e]; exact HH.out.nb) b rfl)
    have K3 : Hid (Keep S w w3) := Lib.hid (K2.out.none_left.then st3.1 (fun i hi _ => (HH.out.foot i).2 (.inr hi)))
    have HFT : Hid (∀ k, Mine g b k ∨ S3 k → S k ∨ w.heap.size ≤ k) := Lib.hid (fun k hk => by
      rcases hk with hk | hk
      · exact .inl ((HH.out.foot k).2 (.inl hk))
      · rcases st3.2 k hk with h | h
        · exact .inl ((HH.out.foot k).2 (.inr h))
        · exact .inr (Nat.le_trans K2.out.size h))
    clear a3 st3 A2 c0 hBS
    have hok := HH.out.ar.ok
    have hlen := HH.out.len
    have hcnt := HH.out.cnt
    have hids := HH.out.ids
    have HF2 := Lib.hid HH.out.foot
    obtain ⟨N0, out, fr⟩ := s
    dsimp only at *
    rcases List.eq_nil_or_concat fr with rfl | ⟨fr, i, rfl⟩
    · by_cases hfull : out.length = N0
      · obtain ⟨g1, g2, g3⟩ := get_full (N := N0) hfull
        rw [g1, g2]
        rw [g3] at A3
        have hlf : N0 ≤ (L.map (·.2)).length := by have := hok.cnt; simp at this ⊢; omega
        have HE : Hid (insE N0 (L.map (·.2)) ⟨ka, kb⟩ = 5) := Lib.hid (by unfold insE; rw [if_neg hgone.1, if_pos hlf])
        have HST : Hid (insS N0 (L.map (·.2)) ⟨ka, kb⟩ = L.map (·.2)) := Lib.hid (by unfold insS; rw [if_neg hgone.1, if_pos hlf])
        have HREP3 : Hid (∃ t, RepB m n tp .top t L) := Lib.hid ⟨t0, HREP.out⟩
        have HOLD := Lib.hid HH.out
        clear hok hlen hcnt hids hgone HGONE hlf
        go_wp2
        go_ret
        refine ⟨ret_i HE.out.symm, fun k => Mine g b k ∨ S3 k, ?_, K3.out, HFT.out⟩
        rw [HST.out]
        exact ⟨ga, b, cap, n, tp, m, L, _, S3, ⟨T3.out, HREP3.out, HOLD.out.sorted, A3.out, HOLD.out.len, HOLD.out.ids, HOLD.out.cnt, HS3g.out, HS3b.out, fun _ => Iff.rfl⟩, rfl, rfl⟩
      · obtain ⟨g1, g2, g3⟩ := get_new (N := N0) hfull
        rw [g1, g2]
        rw [g3] at A3
        have hol : out.length ≤ N0 := hok.len
        have hlf : ¬ N0 ≤ (L.map (·.2)).length := by have h1 := hok.cnt; simp at h1 ⊢; omega
        have HE : Hid (insE N0 (L.map (·.2)) ⟨ka, kb⟩ = 0) := Lib.hid (by unfold insE; rw [if_neg hgone.1, if_neg hlf])
        have HST : Hid (insS N0 (L.map (·.2)) ⟨ka, kb⟩ = insK ⟨ka, kb⟩ (L.map (·.2))) := Lib.hid (by unfold insS; rw [if_neg hgone.1, if_neg hlf])
        have HNA : Hid (n ∉ L.map (·.1)) := Lib.hid (fun h => by obtain ⟨p, e, hp⟩ := (hids n).1 h; rw [List.getElem?_eq_none (by omega)] at hp; cases hp)
        have HIDS : Hid (∀ i, i ∈ (z.zl ++ (n, (⟨ka, kb⟩ : Key)) :: z.zr).map (·.1) ↔ ∃ p, i = p + 1 ∧ (out ++ [true])[p]? = some true) := Lib.hid (fun i => by
          rw [ids_ins HLL.out, hids i]
          constructor
          · rintro (rfl | ⟨p, rfl, hp⟩)
            · exact ⟨out.length, hlen, (ids_new _).2 (.inl rfl)⟩
            · exact ⟨p, rfl, (ids_new _).2 (.inr hp)⟩
          · rintro ⟨p, rfl, hp⟩
            rcases (ids_new _).1 hp with rfl | hp
            · exact .inl hlen.symm
            · exact .inr ⟨p, rfl, hp⟩)
        have HCNT : Hid ((z.zl ++ (n, (⟨ka, kb⟩ : Key)) :: z.zr).length = (out ++ [true]).count true) := Lib.hid (by have := congrArg List.length HLL.out; simp at this ⊢; omega)
        have HLEN : Hid (n + 1 = (out ++ [true]).length + 1) := Lib.hid (by simp; omega)
        have HSORT := Lib.hid (HSRT.out n)
        have HKS := Lib.hid ((HGONE.out.2 n).trans HST.out.symm)
        have heq : (((out.length : Int) + 1) == (n : Int)) = true := by rw [beq_iff_eq]; omega
        have hnv : Hid ((out.length : Int) + 1 = (n : Int)) := Lib.hid (by omega)
        obtain ⟨i0, hi, hz0, hz1, hz2⟩ := info_parts Try.infoNode
        have HI := Lib.hid hi; have HZ0 := Lib.hid hz0; have HZ1 := Lib.hid hz1; have HZ2 := Lib.hid hz2; clear hi hz0 hz1 hz2
        have c1 := T3.out.st.cell 1
        have T3' := Lib.hid (T3.out.alloc (.cells #[.int .u64 0, .int .u64 0, .int .i64 0, .int .i64 0, .int .i64 0, .bool false] 63))
        have hold : out.length ≤ 4096 := by omega
        clear hok hcnt hids hgone HGONE hlf H0 hfull hlen
        go_wp2_with (at_builtin; refine wpList_append_rows rfl _ _ 54 rfl 63 i0 (.agg #[.int .u64 0, .int .u64 0, .int .i64 0, .int .i64 0, .int .i64 0, .bool false]) 6 48 Try.underlying54 HI.out HZ0.out HZ1.out HZ2.out rfl (by decide) _ n (flat m n) rfl T3'.out.row (some ⟨w3.heap.size, 0, none⟩) 1 1 (cellsN Nd.zero) rfl rfl (fun h => (by cases h)) (row_news w3 (cellsN Nd.zero) 63) (one_cellsN _) (by unfold maxLen; omega) (by omega) ?_; intro v' w4 hown hk hnew hnil; obtain ⟨b5, cap5, rfl, hb5, cg, fg, t5, k5⟩ := T3'.out.grown hk hown hnew; have T5 := Lib.hid t5; have K45 := Lib.hid k5; have HB5' := Lib.hid hb5; have HW4 := Lib.hid hk; clear hown hk hnew hnil t5 k5 hb5)
        rw [hnv.out]
        have hwlt : w.heap.size < w3.heap.size := W3.out.lt
        have hb0 : b < w3.heap.size := T3.out.hLt
        have hg0 : g < w3.heap.size := T3.out.gLt
        have hbw : b < w.heap.size := HH.out.tr.hLt
        have hgw : g < w.heap.size := HH.out.tr.gLt
        have hb5 : b5 = b ∨ w3.heap.size + 1 ≤ b5 := by have := HB5'.out; rwa [World.size_alloc] at this
        have HB5 : Hid (w.heap.size ≠ b5) := Lib.hid (by omega)
        have HBg : Hid (w.heap.size ≠ g) := Lib.hid (by omega)
        have ke : Keep (Mine g b) w3 (w4.setCell ⟨g, 1, none⟩ (.slice (some ⟨b5, 0, none⟩) (n + 1) cap5)) := ((Keep.refl _ w3).alloc _).trans K45.out
        have W5 := Lib.hid (W3.out.keep ke (fun h => by rcases h with h | h <;> omega))
        have A5 := Lib.hid (A3.out.keep ke (fun k hk h => by rcases h with h | h; exact HS3g.out (h ▸ hk); exact HS3b.out (h ▸ hk)))
        have K5 : Hid (Keep S w (w4.setCell ⟨g, 1, none⟩ (.slice (some ⟨b5, 0, none⟩) (n + 1) cap5))) := Lib.hid (K3.out.then ke (fun i hi _ => (HF2.out i).2 (.inl hi)))
        have HMS : Hid (∀ k, Mine g b5 k → ¬ S3 k) := Lib.hid (fun k hk h3 => by
          have h4 := A3.out.lt h3
          rcases hk with rfl | rfl
          · exact HS3g.out h3
          · rcases hb5 with e | e
            · rw [e] at h3; exact HS3b.out h3
            · omega)
        have HTHEN : Hid (∀ i, Mine g b5 i → i < w.heap.size → S i) := Lib.hid (fun i hi hlt => by
          rcases hi with rfl | rfl
          · exact (HF2.out _).2 (.inl (.inl rfl))
          · rcases hb5 with e | e
            · rw [e]; exact (HF2.out _).2 (.inl (.inr rfl))
            · omega)
        have HFOOT : Hid (∀ k, Mine g b5 k ∨ S3 k → S k ∨ w.heap.size ≤ k) := Lib.hid (fun k hk => by
          rcases hk with (rfl | rfl) | hk
          · exact HFT.out _ (.inl (.inl rfl))
          · rcases hb5 with e | e
            · rw [e]; exact HFT.out _ (.inl (.inr rfl))
            · exact .inr (by omega)
          · exact HFT.out _ (.inr hk))
        have hn0 : n ≠ 0 := by omega
        have R5 := Lib.hid (HR2.out.rep.other (x := Nd.zero) HNA.out hn0)
        have HN : Hid ((⟨N0, out ++ [true], []⟩ : St).N = N0) := Lib.hid rfl
        clear hnv heq cg fg c1 T3 T3' T2 W2 W3 A3 K3 HB5' HW4 K45 ke hb5 hb0 hg0 hwlt HR2 HREP HI HZ0 HZ1 HZ2 ST3 HSRT HFT HLL HST HF2
        generalize w4.setCell ⟨g, 1, none⟩ (.slice (some ⟨b5, 0, none⟩) (n + 1) cap5) = w5 at *
        generalize upd m n Nd.zero = m5 at *
        obtain ⟨a, haa⟩ : ∃ a, a = n := ⟨_, rfl⟩
        obtain ⟨n5, hnn⟩ : ∃ n5, n5 = n + 1 := ⟨_, rfl⟩
        rw [← hnn] at T5 HLEN
        rw [← haa] at HNA HIDS HCNT HSORT HKS
        have ha5 : a < n5 := by omega
        have hzp5 : z.par < n5 := by omega
        have ha0 : 0 < a := by omega
        have hn5 : n ≤ n5 := by omega
        rw [← haa]
        obtain ⟨s5, hs5⟩ : ∃ s5 : St, s5 = ⟨N0, out ++ [true], []⟩ := ⟨_, rfl⟩
        have HLEN : Hid (n5 = s5.out.length + 1) := Lib.hid (by rw [hs5]; exact HLEN.out)
        have HIDS : Hid (∀ i, i ∈ (z.zl ++ (a, (⟨ka, kb⟩ : Key)) :: z.zr).map (·.1) ↔ ∃ p, i = p + 1 ∧ s5.out[p]? = some true) := Lib.hid (by rw [hs5]; exact HIDS.out)
        have HCNT : Hid ((z.zl ++ (a, (⟨ka, kb⟩ : Key)) :: z.zr).length = s5.out.count true) := Lib.hid (by rw [hs5]; exact HCNT.out)
        rw [← hs5] at A5 HN
        clear haa hnn hs5
        obtain ⟨⟨e0, f0⟩, ⟨e1, f1⟩, ⟨e2, f2⟩, ⟨e3, f3⟩, ⟨e4, f4⟩, ⟨e5, f5⟩, t6, k6⟩ := T5.out.six (i := a) ha5 ⟨⟨ka, kb⟩, 0, 0, 0, true⟩
        dsimp only at e0 e1 e2 e3 e4 e5 f0 f1 f2 f3 f4 f5 t6 k6
        simp only [show ((0 : Nat) : Int) = 0 from rfl] at e3 f3 e4 f4 e5 f5 t6 k6
        have T6 := Lib.hid t6.drew; have K6 := Lib.hid k6.drew
        have W6 := Lib.hid (W5.out.keep k6.drew (fun h => h.elim HBg.out HB5.out))
        obtain ⟨hc1, hc2⟩ := T5.out.capB
        have hac : (a : Int) < (n5 : Int) := by omega
        clear t6 k6
        refine wp_region_sch (fun W => W.cell? ⟨w.heap.size, 0, none⟩ = some (.int .u64 ka) ∧ W.cell? ⟨w.heap.size, 1, none⟩ = some (.int .u64 kb) ∧ W.cell? ⟨g, 1, none⟩ = some (.slice (some ⟨b5, 0, none⟩) n5 cap5)) [(true, 0), (true, 1), (true, 2), (true, 3), (true, 4), (true, 5), (true, 6), (true, 7), (false, 8)] (by kernel_rfl) (by kernel_rfl) (by kernel_rfl) (by kernel_rfl) ⟨W5.out.drew.cell 0, W5.out.drew.cell 1, T5.out.drew.st.cell 1⟩ ?_
        (repeat (refine wpSch_yes (v := ?_) rfl (fun _ _ _ h => h) (by rfl) ?_ ?_; rotate_left; (next => (intro w hSw; (try dsimp only at hSw); obtain ⟨hS1, hS2, hS3⟩ := hSw; go_simp; (try with_reducible rfl))); (try simp only [Act.put, List.setIfInBounds_toArray, List.set_cons_zero, List.set_cons_succ])))
        refine wpSch_call rfl (by rfl) (fun K hK => ?_); go_simp
        refine hK.out _ _ ?_ (fun hHeld => ?_)
        · exact ⟨W6.out.cell 0, W6.out.cell 1, T6.out.st.cell 1⟩
        clear hK K
        (try simp only [Act.put, List.setIfInBounds_toArray, List.set_cons_zero, List.set_cons_succ])
        refine wpSch_nil ?_
        go_wp2_with fail
        refine (hang_any a z.par z.side _ T6.out ha5 hzp5).mono ?_
        rintro e w7 ⟨⟨v7, rfl⟩, t7, k7⟩
        have T7 := Lib.hid t7; have K7 := Lib.hid (K6.out.trans k7)
        clear t7 k7 T6 K6 W6 e0 e1 e2 e3 e4 e5 f0 f1 f2 f3 f4 f5
        have HRED : Hid (Red (hangM (upd m5 a ⟨⟨ka, kb⟩, 0, 0, 0, true⟩) a z.par z.side) n5 (hangT tp a z.par) z (.nd a ⟨ka, kb⟩ true .nil .nil) (z.zl ++ (a, ⟨ka, kb⟩) :: z.zr) 0) := Lib.hid ⟨R5.out.hangNew HNA.out ha0 ha5 hn5, rfl, ⟨fun _ => ⟨rfl, rfl⟩, 0, rfl, rfl, rfl⟩, HFIT.out⟩
        go_wp2_with fail
        refine (mendRed_any (tt := .nd a ⟨ka, kb⟩ true .nil .nil) w7 T7.out HRED.out).mono ?_
        rintro e w8 ⟨⟨v8, rfl⟩, m8, tp8, t8, r8, k8⟩
        have T8 := Lib.hid t8; have R8 := Lib.hid r8; have K8 := Lib.hid (K7.out.trans k8)
        clear t8 r8 k8 T7 K7 HRED
        go_wp2
        go_ret
        have kk : Keep (Mine g b5) w5 w8 := K8.out
        refine ⟨ret_i HE.out.symm, fun k => Mine g b5 k ∨ S3 k, ⟨ga, b5, cap5, n5, tp8, m8, _, s5, S3, ⟨T8.out, R8.out, HSORT.out, A5.out.keep kk (fun k hk h => HMS.out k h hk), HLEN.out, HIDS.out, HCNT.out, fun h => HMS.out g (.inl rfl) h, fun h => HMS.out b5 (.inr rfl) h, fun _ => Iff.rfl⟩, HKS.out, HN.out⟩, ?_, HFOOT.out⟩
        exact K5.out.then kk HTHEN.out
    · rw [List.concat_eq_append] at *
      obtain ⟨g1, g2, g3⟩ := get_last (N := N0) (out := out) (fr := fr) (i := i)
      rw [g1, g2]
      rw [g3] at A3
      obtain ⟨hok', hoff⟩ := ok_last hok
      have hio : i < out.length := (List.getElem?_eq_some_iff.1 hoff).1
      have hol : out.length ≤ N0 := hok.len
      have hlf : ¬ N0 ≤ (L.map (·.2)).length := by have h1 := hok.cnt; simp at h1 ⊢; omega
      have HE : Hid (insE N0 (L.map (·.2)) ⟨ka, kb⟩ = 0) := Lib.hid (by unfold insE; rw [if_neg hgone.1, if_neg hlf])
      have HST : Hid (insS N0 (L.map (·.2)) ⟨ka, kb⟩ = insK ⟨ka, kb⟩ (L.map (·.2))) := Lib.hid (by unfold insS; rw [if_neg hgone.1, if_neg hlf])
      obtain ⟨a, haa⟩ : ∃ a, a = i + 1 := ⟨_, rfl⟩
      have hna : a ∉ L.map (·.1) := fun h => by
        obtain ⟨p, e, hp⟩ := (hids a).1 h
        have e' : p = i := by omega
        rw [e', hoff] at hp; cases hp
      have HNA := Lib.hid hna
      clear hna
      have HIDS : Hid (∀ j, j ∈ (z.zl ++ (a, (⟨ka, kb⟩ : Key)) :: z.zr).map (·.1) ↔ ∃ p, j = p + 1 ∧ (out.set i true)[p]? = some true) := Lib.hid (fun j => by
        rw [ids_ins HLL.out, hids j]
        constructor
        · rintro (rfl | ⟨p, rfl, hp⟩)
          · exact ⟨i, haa, (ids_set hio _).2 (.inl rfl)⟩
          · exact ⟨p, rfl, (ids_set hio _).2 (.inr hp)⟩
        · rintro ⟨p, rfl, hp⟩
          rcases (ids_set hio _).1 hp with rfl | hp
          · exact .inl haa.symm
          · exact .inr ⟨p, rfl, hp⟩)
      have HCNT : Hid ((z.zl ++ (a, (⟨ka, kb⟩ : Key)) :: z.zr).length = (out.set i true).count true) := Lib.hid (by have := congrArg List.length HLL.out; rw [count_set_true hoff]; simp at this ⊢; omega)
      have HLEN : Hid (n = (out.set i true).length + 1) := Lib.hid (by simp; omega)
      have HSORT := Lib.hid (HSRT.out a)
      have HKS := Lib.hid ((HGONE.out.2 a).trans HST.out.symm)
      have heq : (((i : Int) + 1) == (n : Int)) = false := by rw [beq_eq_false_iff_ne]; omega
      have hnv : Hid ((i : Int) + 1 = (a : Int)) := Lib.hid (by omega)
      have c1 := T3.out.st.cell 1
      have hold : out.length ≤ 4096 := by omega
      have hin : i ≤ 4096 := by omega
      have ha5 : a < n := by omega
      have ha0 : 0 < a := by omega
      have hn5 : n ≤ n := Nat.le_refl _
      clear hok hok' hoff hcnt hids hgone HGONE hlf H0 hlen haa
      go_wp2
      rw [hnv.out]
      have hbw : b < w.heap.size := HH.out.tr.hLt
      have hgw : g < w.heap.size := HH.out.tr.gLt
      obtain ⟨b5, hb5⟩ : ∃ b5, b5 = b := ⟨_, rfl⟩
      rw [← hb5] at T3 HS3b hbw HFT HF2 ⊢
      have HB5 : Hid (w.heap.size ≠ b5) := Lib.hid (by omega)
      have HBg : Hid (w.heap.size ≠ g) := Lib.hid (by omega)
      have HMS : Hid (∀ k, Mine g b5 k → ¬ S3 k) := Lib.hid (fun k hk h3 => by
        rcases hk with rfl | rfl
        · exact HS3g.out h3
        · exact HS3b.out h3)
      have HTHEN : Hid (∀ i, Mine g b5 i → i < w.heap.size → S i) := Lib.hid (fun i hi _ => (HF2.out i).2 (.inl hi))
      have HFOOT := HFT
      have R5 := Lib.hid HR2.out.rep
      have HN : Hid ((⟨N0, out.set i true, fr⟩ : St).N = N0) := Lib.hid rfl
      have T5 := T3; have W5 := W3; have A5 := A3; have K5 := K3
      clear hnv heq c1 T3 T2 W2 W3 A3 K3 HR2 HREP ST3 HSRT HFT HLL HST HF2 hb5
      obtain ⟨n5, hnn⟩ : ∃ n5, n5 = n := ⟨_, rfl⟩
      obtain ⟨m5, hmm⟩ : ∃ m5, m5 = m := ⟨_, rfl⟩
      obtain ⟨cap5, hcc⟩ : ∃ cap5, cap5 = cap := ⟨_, rfl⟩
      obtain ⟨w5, hww⟩ : ∃ w5, w5 = w3 := ⟨_, rfl⟩
      have hzp5 : z.par < n5 := by omega
      rw [← hmm] at R5
      rw [← hnn, ← hmm, ← hcc, ← hww] at T5
      rw [← hww] at W5 A5 K5 ⊢
      rw [← hnn] at ha5 HLEN ⊢
      rw [← hcc]
      have hn5 : n ≤ n5 := by omega
      obtain ⟨s5, hs5⟩ : ∃ s5 : St, s5 = ⟨N0, out.set i true, fr⟩ := ⟨_, rfl⟩
      have HLEN : Hid (n5 = s5.out.length + 1) := Lib.hid (by rw [hs5]; exact HLEN.out)
      have HIDS : Hid (∀ i, i ∈ (z.zl ++ (a, (⟨ka, kb⟩ : Key)) :: z.zr).map (·.1) ↔ ∃ p, i = p + 1 ∧ s5.out[p]? = some true) := Lib.hid (by rw [hs5]; exact HIDS.out)
      have HCNT : Hid ((z.zl ++ (a, (⟨ka, kb⟩ : Key)) :: z.zr).length = s5.out.count true) := Lib.hid (by rw [hs5]; exact HCNT.out)
      rw [← hs5] at A5 HN
      clear hs5 hnn hmm hcc hww
      obtain ⟨⟨e0, f0⟩, ⟨e1, f1⟩, ⟨e2, f2⟩, ⟨e3, f3⟩, ⟨e4, f4⟩, ⟨e5, f5⟩, t6, k6⟩ := T5.out.six (i := a) ha5 ⟨⟨ka, kb⟩, 0, 0, 0, true⟩
      dsimp only at e0 e1 e2 e3 e4 e5 f0 f1 f2 f3 f4 f5 t6 k6
      simp only [show ((0 : Nat) : Int) = 0 from rfl] at e3 f3 e4 f4 e5 f5 t6 k6
      have T6 := Lib.hid t6.drew; have K6 := Lib.hid k6.drew
      have W6 := Lib.hid (W5.out.keep k6.drew (fun h => h.elim HBg.out HB5.out))
      obtain ⟨hc1, hc2⟩ := T5.out.capB
      have hac : (a : Int) < (n5 : Int) := by omega
      clear t6 k6
      refine wp_region_sch (fun W => W.cell? ⟨w.heap.size, 0, none⟩ = some (.int .u64 ka) ∧ W.cell? ⟨w.heap.size, 1, none⟩ = some (.int .u64 kb) ∧ W.cell? ⟨g, 1, none⟩ = some (.slice (some ⟨b5, 0, none⟩) n5 cap5)) [(true, 0), (true, 1), (true, 2), (true, 3), (true, 4), (true, 5), (true, 6), (true, 7), (false, 8)] (by kernel_rfl) (by kernel_rfl) (by kernel_rfl) (by kernel_rfl) ⟨W5.out.drew.cell 0, W5.out.drew.cell 1, T5.out.drew.st.cell 1⟩ ?_
      (repeat (refine wpSch_yes (v := ?_) rfl (fun _ _ _ h => h) (by rfl) ?_ ?_; rotate_left; (next => (intro w hSw; (try dsimp only at hSw); obtain ⟨hS1, hS2, hS3⟩ := hSw; go_simp; (try with_reducible rfl))); (try simp only [Act.put, List.setIfInBounds_toArray, List.set_cons_zero, List.set_cons_succ])))
      refine wpSch_call rfl (by rfl) (fun K hK => ?_); go_simp
      refine hK.out _ _ ?_ (fun hHeld => ?_)
      · exact ⟨W6.out.cell 0, W6.out.cell 1, T6.out.st.cell 1⟩
      clear hK K
      (try simp only [Act.put, List.setIfInBounds_toArray, List.set_cons_zero, List.set_cons_succ])
      refine wpSch_nil ?_
      go_wp2_with fail
      refine (hang_any a z.par z.side _ T6.out ha5 hzp5).mono ?_
      rintro e w7 ⟨⟨v7, rfl⟩, t7, k7⟩
      have T7 := Lib.hid t7; have K7 := Lib.hid (K6.out.trans k7)
      clear t7 k7 T6 K6 W6 e0 e1 e2 e3 e4 e5 f0 f1 f2 f3 f4 f5
      have HRED : Hid (Red (hangM (upd m5 a ⟨⟨ka, kb⟩, 0, 0, 0, true⟩) a z.par z.side) n5 (hangT tp a z.par) z (.nd a ⟨ka, kb⟩ true .nil .nil) (z.zl ++ (a, ⟨ka, kb⟩) :: z.zr) 0) := Lib.hid ⟨R5.out.hangNew HNA.out ha0 ha5 hn5, rfl, ⟨fun _ => ⟨rfl, rfl⟩, 0, rfl, rfl, rfl⟩, HFIT.out⟩
      go_wp2_with fail
      refine (mendRed_any (tt := .nd a ⟨ka, kb⟩ true .nil .nil) w7 T7.out HRED.out).mono ?_
      rintro e w8 ⟨⟨v8, rfl⟩, m8, tp8, t8, r8, k8⟩
      have T8 := Lib.hid t8; have R8 := Lib.hid r8; have K8 := Lib.hid (K7.out.trans k8)
      clear t8 r8 k8 T7 K7 HRED
      go_wp2
      go_ret
      have kk : Keep (Mine g b5) w5 w8 := K8.out
      refine ⟨ret_i HE.out.symm, fun k => Mine g b5 k ∨ S3 k, ⟨ga, b5, cap5, n5, tp8, m8, _, s5, S3, ⟨T8.out, R8.out, HSORT.out, A5.out.keep kk (fun k hk h => HMS.out k h hk), HLEN.out, HIDS.out, HCNT.out, fun h => HMS.out g (.inl rfl) h, fun h => HMS.out b5 (.inr rfl) h, fun _ => Iff.rfl⟩, HKS.out, HN.out⟩, ?_, HFOOT.out⟩
      exact K5.out.then kk HTHEN.out
  · have HE : Hid (insE s.N (L.map (·.2)) ⟨ka, kb⟩ = 6) := Lib.hid (if_pos (Found.here hfr))
    have HST : Hid (insS s.N (L.map (·.2)) ⟨ka, kb⟩ = L.map (·.2)) := Lib.hid (if_pos (Found.here hfr))
    obtain ⟨_, hi0, _⟩ := hfr.rep.node
    have hi' : ((i : Int) == 0) = false := by rw [beq_eq_false_iff_ne]; omega
    clear hfr
    simp only [T.root]
    go_wp2
    go_ret
    refine ⟨ret_i HE.out.symm, S, ?_, K2.out.none_left, fun _ h => .inl h⟩
    rw [HST.out]
    exact H0.out.kept K2.out
end Go.Proofs.Ytfbbmpmgceghfaa
