/-
  The document's queue (canterref20.Queue): a flow is put in a place; its watchdog. Conditions: it lies in memory as RQat says.
  The plain definitions Add, Sub, Mul of package canterref01 answer the same mathematics as package sat. Conditions: the numbers are of their kind.
  The document's queue (canterref20.Queue): what a flow's stores leave; flows that are Nowhere for long are collected; a flow is closed. Conditions: it lies in memory as RQat says.
-/
import Derived.Test.YtnljjdfajmjdjaaGreatJ40
import Derived.Test.YtnljjdfajmjdjaaGreatJ26
namespace Go.Proofs.YtnljjdfajmjdjaaGreat
open Go.RowKit
set_option maxRecDepth 100000
set_option linter.unusedSimpArgs false
set_option linter.unusedVariables false

/-- What a call on the queue leaves. -/
def RQto (w : World) (g : Nat) (v : Nat → Value) (n o : Value) (y : Qm) (w' : World) : Prop :=
  ∃ cs' v' n' o', RQ w' g cs' v' n' o' y ∧ Keep (RQown g v n o) w w' ∧ ∀ k, RQown g v' n' o' k → RQown g v n o k ∨ w.heap.size ≤ k
section
variable {w w' w1 : World} {g : Nat} {cs : Array Value} {v v1 : Nat → Value} {n o n1 o1 : Value} {x y : Qm}
theorem RQto.trans (hk : Keep (RQown g v n o) w w1) (hn : ∀ k, RQown g v1 n1 o1 k → RQown g v n o k ∨ w.heap.size ≤ k) (t : RQto w1 g v1 n1 o1 y w') : RQto w g v n o y w' := by
  obtain ⟨cs', v', n', o', h1, h2, h3⟩ := t
  refine ⟨cs', v', n', o', h1, hk.then h2 (fun k e hlt => ?_), fun k e => ?_⟩
  · rcases hn k e with a | a
    · exact a
    · omega
  · rcases h3 k e with a | a
    · exact hn k a
    · exact .inr (Nat.le_trans hk.size a)
theorem RQat.to (h : RQ w' g cs v n o y) (hk : Keep (RQown g v n o) w w') : RQto w g v n o y w' := ⟨cs, v, n, o, h, hk, fun _ e => .inl e⟩
/-- One number of a flow turns. -/
theorem RQat.setf (h : RQ w g cs v n o x) {i k : Nat} (hi : i < 8) (hk : k < 6) {u : Value} {f : Fl} (hu : flV (v i) f k = u) (hels : ∀ j, j < 6 → j ≠ k → flV (v i) f j = flV (v i) (x.F i) j) (hq : f.q = (x.F i).q) (hy : y = { x with F := upF x.F i f }) :
    RQ (w.setCell ⟨g, 9 + i * 6 + k, none⟩ u) g (cs.setIfInBounds (9 + i * 6 + k) u) v n o y := by
  have hs := h.c.size
  have hv : upF v i (v i) = v := by
    funext j
    by_cases e : j = i
    · subst e; rw [upF_at]
    · rw [upF_ne _ _ e]
  have hc := h.c.set (y := y) hi hk (v' := v i) hu hels (by rw [hy]) (by rw [hy]) (by rw [hy])
  rw [hv] at hc
  refine h.turn (h.l.whole.put _ u) hc (by rw [Array.getElem?_setIfInBounds_ne (by omega)]) (by rw [Array.getElem?_setIfInBounds_ne (by omega)]) ((Keep.refl (fun k => k = g) w).setCell (p := ⟨g, 9 + i * 6 + k, none⟩) (.inl rfl) u) (fun k e => .inl e) (fun j hj => ?_) h.ap (by rw [hy]) (by rw [hy])
  rw [hy]
  have hn : ∀ k, (v j).ownBlock = some k → ¬ k = g := fun k e e2 => h.vg hj (by rw [e, e2])
  have hkeep := (sgsT 44 (v j) (x.F j).q).keep (h.q j hj) ((Keep.refl (fun k => k = g) w).setCell (p := ⟨g, 9 + i * 6 + k, none⟩) (.inl rfl) u) hn
  by_cases e : j = i
  · subst e
    show (sgsT 44 (v j) (upF x.F j f j).q).at_ _
    rw [upF_at, hq]
    exact hkeep
  · show (sgsT 44 (v j) (upF x.F i f j).q).at_ _
    rw [upF_ne _ _ e]
    exact hkeep
set_option maxHeartbeats 2000000 in
theorem RQat.put (h : RQ w g cs v n o x) (hx : LsOk x.N x.O) {i : Nat} (hi : i < 8) (p : Int) :
    Calls Tryz.prog 36 #[.pointer (some ⟨g, 0, none⟩), .int .i64 (i : Int), .int .i64 p] w fun e w' => (∃ ev, e = .returned ev) ∧ RQto w g v n o (putQ x i p) w' := by
  have H := Lib.hid h; have HX := Lib.hid hx; have HI := Lib.hid hi
  have hi8 : (i : Int) < 8 := by omega
  clear h hx hi
  go_enter Tryz.func36, Tryz.ntmps36
  go_wp2_with fail
  refine (rremove_any 41 g 65 cs n o x.N x.O (i : Int) _ w H.out.l HX.out rfl).mono ?_
  rintro e w1 ⟨rfl, t⟩
  obtain ⟨cs1, n1, o1, h1, he1, hk1, hn1⟩ := H.out.lists (y := { x with N := x.N.erase (i : Int), O := x.O.erase (i : Int) }) t rfl rfl rfl rfl rfl
  have HQ1 := Lib.hid h1
  have HK1 : Hid (Keep (RQown g v n o) w w1) := Lib.hid (hk1.mono fun k e => by rcases e with e | e | e; exact .inl e; exact .inr (.inl e); exact .inr (.inr (.inl e)))
  have HN1 := Lib.hid hn1
  have hp := h1.setf HI.out (k := 2) (by decide) (u := .int .i64 p) (f := { x.F i with p := p }) (y := { x with F := upF x.F i { x.F i with p := p }, N := x.N.erase (i : Int), O := x.O.erase (i : Int) }) rfl (fun j hj hne => by
    match j, hj with
    | 0, _ => rfl
    | 1, _ => rfl
    | 2, _ => exact absurd rfl hne
    | 3, _ => rfl
    | 4, _ => rfl
    | 5, _ => rfl) rfl rfl
  have c2 : w1.cell? ⟨g, 9 + i * 6 + 2, none⟩ = some (.int .i64 (x.F i).p) := h1.cF HI.out (j := 2) (by decide)
  have f2 := h1.fr (9 + i * 6 + 2)
  have HQ2 := Lib.hid hp
  have HK2 := Lib.hid (HK1.out.setCell (p := ⟨g, 9 + i * 6 + 2, none⟩) (.inl (.inl rfl)) (.int .i64 p))
  clear t h1 he1 hk1 hn1 hp HQ1 HK1 H
  go_upto_region 2 with fail
  clear c2 f2
  generalize World.setCell w1 _ _ = w2 at *
  have hls : LsOk (x.N.erase (i : Int)) (x.O.erase (i : Int)) := HX.out.erase _
  have HLS := Lib.hid hls
  clear hls
  by_cases h12 : p = 1 ∨ p = 2
  · have hx := HX.out
    have hpv : pushV (x.N.erase (i : Int)) (x.O.erase (i : Int)) (i : Int) = 0 := by
      unfold pushV
      rw [if_neg (by omega), if_neg]
      rintro (e | e)
      · exact (List.Nodup.not_mem_erase (List.nodup_append.1 hx.once).1) e
      · exact (List.Nodup.not_mem_erase (List.nodup_append.1 hx.once).2.1) e
    have HPV := Lib.hid hpv
    clear hpv hx
    rcases h12 with rfl | rfl
    · go_wp2_with fail
      refine (rpush_any 41 g 65 _ n1 o1 (x.N.erase (i : Int)) (x.O.erase (i : Int)) (i : Int) true w2 HQ2.out.l HLS.out).mono ?_
      rintro e w3 ⟨rfl, t⟩
      obtain ⟨cs3, n3, o3, h3, he3, hk3, hn3⟩ := HQ2.out.lists (y := putQ x i 1) t rfl rfl rfl (by simp [pushN, putQ, HPV.out]) (by simp [pushO, putQ, HPV.out])
      have HT : Hid (RQto w g v n o (putQ x i 1) w3) := Lib.hid (RQto.trans HK2.out HN1.out ⟨cs3, v, n3, o3, h3, hk3.mono (fun k e => by rcases e with e | e | e; exact .inl e; exact .inr (.inl e); exact .inr (.inr (.inl e))), hn3⟩)
      clear t h3 he3 hk3 hn3 HQ2 HK2
      go_wp2
      try rw [Exit.noGoto_normal]
      go_end0
      exact ⟨⟨_, rfl⟩, HT.out⟩
    · go_wp2_with fail
      refine (rpush_any 41 g 65 _ n1 o1 (x.N.erase (i : Int)) (x.O.erase (i : Int)) (i : Int) false w2 HQ2.out.l HLS.out).mono ?_
      rintro e w3 ⟨rfl, t⟩
      obtain ⟨cs3, n3, o3, h3, he3, hk3, hn3⟩ := HQ2.out.lists (y := putQ x i 2) t rfl rfl rfl (by simp [pushN, putQ, HPV.out]) (by simp [pushO, putQ, HPV.out])
      have HT : Hid (RQto w g v n o (putQ x i 2) w3) := Lib.hid (RQto.trans HK2.out HN1.out ⟨cs3, v, n3, o3, h3, hk3.mono (fun k e => by rcases e with e | e | e; exact .inl e; exact .inr (.inl e); exact .inr (.inr (.inl e))), hn3⟩)
      clear t h3 he3 hk3 hn3 HQ2 HK2
      go_wp2
      try rw [Exit.noGoto_normal]
      go_end0
      exact ⟨⟨_, rfl⟩, HT.out⟩
  · have hp1 : (p == 1) = false := by simp; omega
    have hp2 : (p == 2) = false := by simp; omega
    have HT : Hid (RQto w g v n o (putQ x i p) w2) := Lib.hid ⟨_, v, n1, o1, (show RQ w2 g _ v n1 o1 (putQ x i p) from (by
      have h := HQ2.out
      unfold putQ
      rw [if_neg (fun e => h12 (.inl e)), if_neg (fun e => h12 (.inr e))]
      exact h)), HK2.out, HN1.out⟩
    clear HQ2 HK2 h12
    go_wp2
    try rw [Exit.noGoto_normal]
    go_end0
    exact ⟨⟨_, rfl⟩, HT.out⟩
set_option maxHeartbeats 1000000 in
theorem RQat.dog (h : RQ w g cs v n o x) (hx : x.Ok) :
    Calls Tryz.prog 58 #[.pointer (some ⟨g, 0, none⟩)] w fun e w' => e = .returned (.tuple #[.int .u64 ((dogQ x).getD 0), .bool (dogQ x).isSome]) ∧ Keep (fun _ => False) w w' := by
  have H := Lib.hid h; have HX := Lib.hid hx
  clear h hx
  have hd : dogQ x = (firstN x 8).map fun i => timeF (x.F i) := rfl
  have hb : bestV x 8 = match firstN x 8 with | none => -1 | some b => (b : Int) := rfl
  cases hf : firstN x 8 with
  | none =>
    rw [hf] at hd hb
    rw [hd]
    have HB : Hid (bestV x 8 = -1) := Lib.hid hb
    clear hf hd hb
    dsimp only [Option.map, Option.getD, Option.isSome]
    go_enter Tryz.func58, Tryz.ntmps58
    go_wp2_with fail
    refine (H.out.first HX.out).mono ?_
    rintro e w1 ⟨rfl, k1⟩
    rw [HB.out]
    have K1 := Lib.hid k1
    clear k1
    go_wp2
    go_ret2
    exact ⟨rfl, K1.out⟩
  | some b =>
    rw [hf] at hd hb
    rw [hd]
    have HB : Hid (bestV x 8 = (b : Int)) := Lib.hid hb
    obtain ⟨hb8, hT, hP⟩ := firstN_some hf
    have hne := (HX.out.is b hb8 hT).wt hP
    obtain ⟨sb, rb, hsb⟩ := List.exists_cons_of_ne_nil hne
    have HSB := Lib.hid hsb; have HB8 := Lib.hid hb8
    have hbi : (b : Int) < 8 := by omega
    have hbn : ¬ (b : Int) < 0 := by omega
    clear hf hd hb hb8 hT hP hne hsb
    dsimp only [Option.map, Option.getD, Option.isSome]
    go_enter Tryz.func58, Tryz.ntmps58
    go_wp2_with fail
    refine (H.out.first HX.out).mono ?_
    rintro e w1 ⟨rfl, k1⟩
    rw [HB.out]
    have HQ1 := Lib.hid (H.out.kept k1)
    have K1 := Lib.hid k1
    clear k1
    have hr : w1.rangeAt g (9 + b * 6) (flL (v b) (x.F b)) := range_fl HQ1.out HB8.out
    have HR := Lib.hid hr
    clear hr
    go_wp2_with (first
      | (refine wpList_load_mid rfl 34 (.tmp 13) rfl g (9 + b * 6) rfl (flL (v b) (x.F b)) _ HR.out Tryz.underlying34 rfl Tryz.sizeFl ?_)
      | fail)
    refine (rtime_any (v b) (x.F b) sb rb w1 HSB.out (HQ1.out.q b HB8.out)).mono ?_
    rintro e w2 ⟨rfl, k2⟩
    have K2 := Lib.hid (K1.out.trans k2)
    clear k2
    go_wp2
    go_ret2
    exact ⟨rfl, K2.out⟩
end
end Go.Proofs.YtnljjdfajmjdjaaGreat
namespace Go.Proofs.YtnljjdfajmjdjaaGreat
open Go.RowKit
set_option maxRecDepth 100000

set_option maxHeartbeats 400000 in
theorem radd_any (a b : Int) (ha0 : 0 ≤ a) (ha : a ≤ 18446744073709551615) (hb0 : 0 ≤ b) (hb : b ≤ 18446744073709551615) (w : World) :
    Calls Tryz.prog 7 #[.int .u64 a, .int .u64 b] w fun e w' => e = .returned (.int .u64 (satAdd a b)) ∧ w = w' := by
  by_cases h : a + b ≤ 18446744073709551615
  · have Hf := Lib.hid (satAdd_le h)
    have h2 : a ≤ 18446744073709551615 - b := by omega
    go_enter Tryz.func7, Tryz.ntmps7
    go_wp2
    go_ret
    exact ⟨ret_int Hf.out.symm, rfl⟩
  · have h : 18446744073709551615 < a + b := by omega
    have h2 : 18446744073709551615 - b < a := by omega
    have Hf := Lib.hid (satAdd_gt h)
    go_enter Tryz.func7, Tryz.ntmps7
    go_wp2
    go_ret
    exact ⟨ret_int Hf.out.symm, rfl⟩
end Go.Proofs.YtnljjdfajmjdjaaGreat
namespace Go.Proofs.YtnljjdfajmjdjaaGreat
open Go.RowKit
set_option maxRecDepth 100000
set_option linter.unusedSimpArgs false
set_option linter.unusedVariables false

abbrev nilV : Value := .slice none 0 0
section
variable {w w' w1 : World} {g : Nat} {cs : Array Value} {v v1 : Nat → Value} {n o n1 o1 : Value} {x y : Qm}
/-- Only the eight flows count. -/
theorem RQat.seen (h : RQ w g cs v n o x) (hc : y.c = x.c) (hF : ∀ i, i < 8 → y.F i = x.F i) (hT : ∀ i, i < 8 → y.T i = x.T i) (hN : y.N = x.N) (hO : y.O = x.O) : RQ w g cs v n o y where
  c := ⟨h.c.size, fun j hj => by rw [hc]; exact h.c.c j hj, fun i hi j hj => by rw [hF i hi]; exact h.c.f i hi j hj, fun i hi => by rw [hT i hi]; exact h.c.t i hi⟩
  l := by rw [hN, hO]; exact h.l
  q := fun i hi => by rw [hF i hi]; exact h.q i hi
  ap := h.ap
  ne := h.ne
  ni := h.ni
theorem RQat.setT (h : RQ w g cs v n o x) {i : Nat} (hi : i < 8) (b : Bool) (hy : y = { x with T := upF x.T i b }) :
    RQ (w.setCell ⟨g, 57 + i, none⟩ (.bool b)) g (cs.setIfInBounds (57 + i) (.bool b)) v n o y := by
  have hs := h.c.size
  subst hy
  refine h.turn (S := fun k => k = g) (h.l.whole.put _ _) ⟨by rw [Array.size_setIfInBounds]; exact hs, fun j hj => ?_, fun k hk j hj => ?_, fun k hk => ?_⟩ (by rw [Array.getElem?_setIfInBounds_ne (by omega)]) (by rw [Array.getElem?_setIfInBounds_ne (by omega)]) ((Keep.refl (fun k => k = g) w).setCell (p := ⟨g, 57 + i, none⟩) (.inl rfl) _) (fun k e => .inl e) (fun j hj => ?_) h.ap rfl rfl
  · rw [Array.getElem?_setIfInBounds_ne (by omega)]; exact h.c.c j hj
  · rw [Array.getElem?_setIfInBounds_ne (by omega)]; exact h.c.f k hk j hj
  · by_cases e : k = i
    · subst e
      rw [Array.getElem?_setIfInBounds_self_of_lt (by omega)]
      show _ = some (Value.bool (upF x.T k b k))
      rw [upF_at]
    · rw [Array.getElem?_setIfInBounds_ne (by omega)]
      show _ = some (Value.bool (upF x.T i b k))
      rw [upF_ne _ _ e]; exact h.c.t k hk
  · exact (sgsT 44 (v j) (x.F j).q).keep (h.q j hj) ((Keep.refl (fun k => k = g) w).setCell (p := ⟨g, 57 + i, none⟩) (.inl rfl) _) (fun k e e2 => h.vg hj (by rw [e, e2]))
/-- A flow without segments is stored. -/
theorem RQat.blank (h : RQ w g cs v n o x) {i : Nat} (hi : i < 8) {f : Fl} (hq : f.q = []) (hy : y = { x with F := upF x.F i f }) :
    RQ (w.setCells g (9 + i * 6) (flL nilV f)) g (Lib.lay cs (9 + i * 6) (flL nilV f)) (upF v i nilV) n o y := by
  have hs := h.c.size
  have hl : (flL nilV f).length = 6 := rfl
  have hat : ∀ j, (Lib.lay cs (9 + i * 6) (flL nilV f))[j]? = if 9 + i * 6 ≤ j ∧ j < 9 + i * 6 + 6 then (flL nilV f)[j - (9 + i * 6)]? else cs[j]? := fun j => lay_at _ _ _ _ (by rw [hl]; omega)
  have hne : ∀ j, (j < 9 + i * 6 ∨ 9 + i * 6 + 6 ≤ j) → (Lib.lay cs (9 + i * 6) (flL nilV f))[j]? = cs[j]? := fun j hj => by rw [hat, if_neg (by omega)]
  have hkeep := Keep.setCells (S := fun k => k = g) rfl (flL nilV f) (9 + i * 6) (Keep.refl _ w)
  have hc := h.c.turn (y := y) hi (v' := nilV) (f := f) (b := x.T i) (cs' := Lib.lay cs (9 + i * 6) (flL nilV f)) (Lib.lay_size _ _ _) (fun j hj => by
    rw [hat, if_pos (by omega), show 9 + i * 6 + j - (9 + i * 6) = j by omega]
    match j, hj with
    | 0, _ => rfl
    | 1, _ => rfl
    | 2, _ => rfl
    | 3, _ => rfl
    | 4, _ => rfl
    | 5, _ => rfl) (by rw [hne _ (by omega)]; exact h.c.t i hi) (fun j hj hor hn => hne j hor) (by rw [hy]) (by rw [hy]) (by
      rw [hy]
      funext j
      by_cases e : j = i
      · subst e; rw [upF_at]
      · rw [upF_ne _ _ e])
  subst hy
  refine h.turn (S := fun k => k = g) (h.l.whole.puts _ _) hc (hne _ (by omega)) (hne _ (by omega)) hkeep (fun k e => .inl e) (fun j hj => ?_) (fun a b ha hb hab k e => ?_) rfl rfl
  · by_cases e : j = i
    · subst e
      rw [upF_at]
      show (sgsT 44 nilV (upF x.F j f j).q).at_ _
      rw [upF_at, hq]
      exact sgs_nil _ _
    · rw [upF_ne _ _ e]
      show (sgsT 44 (v j) (upF x.F i f j).q).at_ _
      rw [upF_ne _ _ e]
      exact (sgsT 44 (v j) (x.F j).q).keep (h.q j hj) hkeep (fun k e e2 => h.vg hj (by rw [e, e2]))
  · by_cases ea : a = i
    · subst ea; rw [upF_at] at e; cases e
    · rw [upF_ne _ _ ea] at e
      by_cases eb : b = i
      · subst eb; rw [upF_at]; intro e2; cases e2
      · rw [upF_ne _ _ eb]; exact h.ap a b ha hb hab k e
theorem own_blank {i k : Nat} (h : RQown g (upF v i nilV) n o k) : RQown g v n o k := by
  rcases h with e | e | e | ⟨j, hj, e⟩
  · exact .inl e
  · exact .inr (.inl e)
  · exact .inr (.inr (.inl e))
  · by_cases ej : j = i
    · subst ej; rw [upF_at] at e; cases e
    · rw [upF_ne _ _ ej] at e; exact .inr (.inr (.inr ⟨j, hj, e⟩))
/-- A slice of segments, new, is stored. -/
theorem RQat.slice (h : RQ w g cs v n o x) {i : Nat} (hi : i < 8) {V : Value} {q : List Sg} (hk : Keep (fun _ => False) w w1) (hV : (sgsT 44 V q).at_ w1) (hn : ∀ k, V.ownBlock = some k → w.heap.size ≤ k) (hy : y = { x with F := upF x.F i { x.F i with q := q } }) :
    RQ (w1.setCell ⟨g, 9 + i * 6 + 5, none⟩ V) g (cs.setIfInBounds (9 + i * 6 + 5) V) (upF v i V) n o y := by
  have h1 := h.kept hk
  have hs := h.c.size
  have hg := h.l.whole.lt
  have hkeep := (Keep.refl (fun k => k = g) w1).setCell (p := ⟨g, 9 + i * 6 + 5, none⟩) (.inl rfl) V
  have hc := h1.c.set (y := y) hi (k := 5) (by decide) (u := V) (v' := V) (f := { x.F i with q := q }) rfl (fun j hj hne => by
    match j, hj with
    | 0, _ => rfl
    | 1, _ => rfl
    | 2, _ => rfl
    | 3, _ => rfl
    | 4, _ => rfl
    | 5, _ => exact absurd rfl hne) (by rw [hy]) (by rw [hy]) (by rw [hy])
  subst hy
  refine h1.turn (S := fun k => k = g) (h1.l.whole.put _ V) hc (by rw [Array.getElem?_setIfInBounds_ne (by omega)]) (by rw [Array.getElem?_setIfInBounds_ne (by omega)]) hkeep (fun k e => .inl e) (fun j hj => ?_) (fun a b ha hb hab k e => ?_) rfl rfl
  · by_cases e : j = i
    · subst e
      rw [upF_at]
      show (sgsT 44 V (upF x.F j { x.F j with q := q } j).q).at_ _
      rw [upF_at]
      exact (sgsT 44 V q).keep hV hkeep (fun k e e2 => by have := hn k e; omega)
    · rw [upF_ne _ _ e]
      show (sgsT 44 (v j) (upF x.F i { x.F i with q := q } j).q).at_ _
      rw [upF_ne _ _ e]
      exact (sgsT 44 (v j) (x.F j).q).keep (h1.q j hj) hkeep (fun k e e2 => h1.vg hj (by rw [e, e2]))
  · by_cases ea : a = i
    · subst ea
      rw [upF_at] at e
      rw [upF_ne _ _ (fun e => hab e.symm)]
      intro e2
      have := (sgsT 44 (v b) (x.F b).q).lt (h.q b hb) e2
      have := hn k e
      omega
    · rw [upF_ne _ _ ea] at e
      by_cases eb : b = i
      · subst eb
        rw [upF_at]
        intro e2
        have := (sgsT 44 (v a) (x.F a).q).lt (h.q a ha) e
        have := hn k e2
        omega
      · rw [upF_ne _ _ eb]; exact h.ap a b ha hb hab k e
theorem own_slice {i k : Nat} {V : Value} {m : Nat} (hn : ∀ k, V.ownBlock = some k → m ≤ k) (h : RQown g (upF v i V) n o k) : RQown g v n o k ∨ m ≤ k := by
  rcases h with e | e | e | ⟨j, hj, e⟩
  · exact .inl (.inl e)
  · exact .inl (.inr (.inl e))
  · exact .inl (.inr (.inr (.inl e)))
  · by_cases ej : j = i
    · subst ej; rw [upF_at] at e; exact .inr (hn k e)
    · rw [upF_ne _ _ ej] at e; exact .inl (.inr (.inr (.inr ⟨j, hj, e⟩)))
theorem thereF (h : RQ w g cs v n o x) {i : Nat} (hi : i < 8) : w.there g (9 + i * 6) 6 := fun j hj => ⟨by
  have hj' : j < 6 := hj
  rw [h.cF hi hj']; rfl, h.fr _⟩
theorem one_fl (f : Fl) : (flL nilV f).toArray.all (·.oneCell') = true := all_oneCell_toArray (fun u hu => by
  simp only [flL, List.mem_cons, List.not_mem_nil, or_false] at hu
  rcases hu with rfl | rfl | rfl | rfl | rfl | rfl <;> rfl)
/-- Of the first k flows those that are Nowhere for long are gone. -/
def rcolK (x : Qm) (now : Int) (k : Nat) : Qm := { x with F := fun i => if i < k ∧ deadF x now i = true then Fl.zero else x.F i, T := fun i => x.T i && !(decide (i < k) && deadF x now i) }
set_option maxHeartbeats 4000000 in
theorem RQat.coll (h : RQ w g cs v n o x) (hx : x.Ok) (now : Int) (hn : U64 now) :
    Calls Tryz.prog 54 #[.pointer (some ⟨g, 0, none⟩), .int .u64 now] w fun e w' => (∃ ev, e = .returned ev) ∧ RQto w g v n o (collQ x now) w' := by
  have H := Lib.hid h; have HX := Lib.hid hx; have HN := Lib.hid hn
  clear h hx hn
  go_enter Tryz.func54, Tryz.ntmps54
  go_upto_region 1 with fail
  go_loopw [4] (fun iv wR => ∃ (k : Nat) (cs' : Array Value) (v' : Nat → Value), k ≤ 8 ∧ iv = .int .i64 k ∧ RQ wR g cs' v' n o (rcolK x now k) ∧ Keep (RQown g v n o) w wR ∧ ∀ k, RQown g v' n o k → RQown g v n o k) (fun iv _ => 8 - (intOf iv).toNat)
  case atStart => exact ⟨0, cs, v, by omega, rfl, H.out.seen rfl (fun i hi => by simp [rcolK]) (fun i hi => by simp [rcolK]) rfl rfl, Keep.refl _ _, fun k e => e⟩
  case round =>
    obtain ⟨k, cs', v', hk, rfl, hq, hkp, hown⟩ := hrel
    have HQ := Lib.hid hq; have HK := Lib.hid hkp; have HOW := Lib.hid hown
    clear hq hkp hown
    by_cases hlt : k < 8
    · have hi1 : (k : Int) < 8 := by omega
      have hF : (rcolK x now k).F k = x.F k := if_neg (by omega)
      have hT : (rcolK x now k).T k = x.T k := by simp [rcolK]
      have ct := HQ.out.cT hlt
      have c2 : wr.cell? ⟨g, 9 + k * 6 + 2, none⟩ = some (.int .i64 (x.F k).p) := by rw [← hF]; exact HQ.out.cF hlt (j := 2) (by decide)
      have c4 : wr.cell? ⟨g, 9 + k * 6 + 4, none⟩ = some (.int .u64 (x.F k).u) := by rw [← hF]; exact HQ.out.cF hlt (j := 4) (by decide)
      rw [hT] at ct
      have HI := Lib.hid hlt
      cases hd : deadF x now k with
      | false =>
        have HS : Hid (RQ wr g cs' v' n o (rcolK x now (k + 1))) := Lib.hid (HQ.out.seen rfl (fun i hi => by
          show (if i < k + 1 ∧ deadF x now i = true then _ else _) = if i < k ∧ deadF x now i = true then _ else _
          by_cases e : i = k
          · subst e; rw [if_neg (by rw [hd]; simp), if_neg (by omega)]
          · by_cases h1 : i < k ∧ deadF x now i = true
            · rw [if_pos h1, if_pos ⟨by omega, h1.2⟩]
            · rw [if_neg h1, if_neg (fun h2 => h1 ⟨by omega, h2.2⟩)]) (fun i hi => by
          show (x.T i && !(decide (i < k + 1) && deadF x now i)) = (x.T i && !(decide (i < k) && deadF x now i))
          by_cases e : i = k
          · subst e; rw [hd]; simp
          · rw [show decide (i < k + 1) = decide (i < k) from decide_eq_decide.2 (by omega)]) rfl rfl)
        clear hlt hF hT
        have hcase : x.T k = false ∨ (x.T k = true ∧ ((x.F k).p == 0) = false) ∨ (x.T k = true ∧ ((x.F k).p == 0) = true ∧ ¬ addS (x.F k).u 3000000000 ≤ now) := by
          unfold deadF at hd
          cases ht : x.T k with
          | false => exact .inl rfl
          | true =>
            cases hp : ((x.F k).p == 0) with
            | false => exact .inr (.inl ⟨rfl, rfl⟩)
            | true =>
              rw [ht, hp] at hd
              exact .inr (.inr ⟨rfl, rfl, by simpa using hd⟩)
        clear hd
        rcases hcase with ht | ⟨ht, hp⟩ | ⟨ht, hp, hu⟩
        · go_wp2
          go_roundw
          case rel => exact ⟨k + 1, cs', v', by omega, by go_num, HS.out, HK.out, HOW.out⟩
          case measure => simp [intOf]; omega
        · go_wp2
          go_roundw
          case rel => exact ⟨k + 1, cs', v', by omega, by go_num, HS.out, HK.out, HOW.out⟩
          case measure => simp [intOf]; omega
        · have HU : Hid (U64 (x.F k).u) := Lib.hid (HX.out.is k HI.out ht).hu
          go_wp2_with fail
          refine (radd_any (x.F k).u 3000000000 HU.out.1 HU.out.2 (by decide) (by decide) wr).mono ?_
          rintro e w2 ⟨rfl, rfl⟩
          rw [show satAdd (x.F k).u 3000000000 = addS (x.F k).u 3000000000 from rfl]
          obtain ⟨z, hz⟩ : ∃ z, addS (x.F k).u 3000000000 = z := ⟨_, rfl⟩
          rw [hz] at hu
          rw [hz]
          go_wp2
          go_roundw
          case rel => exact ⟨k + 1, cs', v', by omega, by go_num, HS.out, HK.out, HOW.out⟩
          case measure => simp [intOf]; omega
      | true =>
        have hd2 := hd
        unfold deadF at hd2
        simp only [Bool.and_eq_true, decide_eq_true_eq] at hd2
        obtain ⟨⟨ht, hp⟩, hu⟩ := hd2
        have HU : Hid (U64 (x.F k).u) := Lib.hid (HX.out.is k HI.out ht).hu
        have HD := Lib.hid hd
        clear hd hF hT
        go_wp2_with fail
        refine (radd_any (x.F k).u 3000000000 HU.out.1 HU.out.2 (by decide) (by decide) wr).mono ?_
        rintro e w2 ⟨rfl, rfl⟩
        rw [show satAdd (x.F k).u 3000000000 = addS (x.F k).u 3000000000 from rfl]
        obtain ⟨z, hz⟩ : ∃ z, addS (x.F k).u 3000000000 = z := ⟨_, rfl⟩
        rw [hz] at hu
        rw [hz]
        go_upto_region 4 with fail
        clear hz hu ht hp ct c2 c4 HU
        have hi := HI.out
        have HOW2 := Lib.hid (show ∀ j, RQown g v' n o j → RQown g v n o j from HOW.out)
        have HVV := Lib.hid (rfl : v' = v')
        generalize wr = wq at *
        refine wp_region_sch (fun _ => True) [(true, 0), (true, 1), (true, 2), (true, 3), (true, 4), (true, 5), (true, 6), (true, 7), (true, 9), (true, 10), (false, 8), (true, 11), (false, 12)] (by kernel_rfl) (by kernel_rfl) (by kernel_rfl) (by kernel_rfl) trivial ?_
        have HW := Lib.hid (HQ.out.kept (Keep.refl _ wq).drew); have HKW := Lib.hid HK.out.drew
        clear HQ HK
        generalize wq.drew = wz at *
        (repeat (refine wpSch_yes (v := ?_) rfl (fun _ _ _ h => h) (by rfl) ?_ ?_; rotate_left; (next => (intro w hSw; clear hSw; go_simp; (try with_reducible rfl))); (try simp only [Act.put, List.setIfInBounds_toArray, List.set_cons_zero, List.set_cons_succ])))
        have hT := HW.out.setT hi (b := false) rfl
        have ct := HW.out.cT hi
        have cf := HW.out.fr (57 + k)
        have HB := Lib.hid (hT.blank hi (f := Fl.zero) rfl rfl)
        have HTH := Lib.hid (thereF hT hi)
        have HKB := Lib.hid (Keep.setCells (S := RQown g v n o) (.inl rfl) (flL nilV Fl.zero) (9 + k * 6) (HKW.out.setCell (p := ⟨g, 57 + k, none⟩) (.inl (.inl rfl)) (.bool false)))
        clear hT HW HKW
        refine wpSch_call rfl (by rfl) (fun K' hK' => ?_); go_simp
        refine hK'.out _ _ trivial (fun hHeld => ?_)
        clear hK' K' hHeld ct cf
        (try simp only [Act.put, List.setIfInBounds_toArray, List.set_cons_zero, List.set_cons_succ])
        (repeat (refine wpSch_yes (v := ?_) rfl (fun _ _ _ h => h) (by rfl) ?_ ?_; rotate_left; (next => (intro w hSw; clear hSw; go_simp; (try with_reducible rfl))); (try simp only [Act.put, List.setIfInBounds_toArray, List.set_cons_zero, List.set_cons_succ])))
        refine wpSch_call rfl (by rfl) (fun K' hK' => ?_)
        refine wp_store_mid 34 (.tmp 47) (.tmp 41) rfl g (9 + k * 6) (flL nilV Fl.zero).toArray rfl rfl HTH.out Tryz.sizeFl (one_fl Fl.zero) ?_
        refine hK'.out _ _ trivial (fun hHeld => ?_)
        clear hK' K' hHeld HTH
        (try simp only [Act.put, List.setIfInBounds_toArray, List.set_cons_zero, List.set_cons_succ])
        generalize World.setCells _ _ _ _ = wy at *
        refine wpSch_nil ?_
        have HS : Hid (RQ wy g _ (upF v' k nilV) n o (rcolK x now (k + 1))) := Lib.hid (HB.out.seen rfl (fun i hi => by
          show (if i < k + 1 ∧ deadF x now i = true then _ else _) = upF _ k Fl.zero i
          by_cases e : i = k
          · subst e; rw [if_pos ⟨by omega, HD.out⟩, upF_at]
          · rw [upF_ne _ _ e]
            show _ = if i < k ∧ deadF x now i = true then _ else _
            by_cases h1 : i < k ∧ deadF x now i = true
            · rw [if_pos h1, if_pos ⟨by omega, h1.2⟩]
            · rw [if_neg h1, if_neg (fun h2 => h1 ⟨by omega, h2.2⟩)]) (fun i hi => by
          show (x.T i && !(decide (i < k + 1) && deadF x now i)) = upF _ k false i
          by_cases e : i = k
          · subst e; rw [HD.out, upF_at]; simp
          · rw [upF_ne _ _ e]
            show _ = (x.T i && !(decide (i < k) && deadF x now i))
            rw [show decide (i < k + 1) = decide (i < k) from decide_eq_decide.2 (by omega)]) rfl rfl)
        clear HB
        go_wp2
        go_roundw
        case rel => exact ⟨k + 1, _, _, by omega, by go_num, HS.out, HKB.out, fun j e => HOW.out j (own_blank e)⟩
        case measure => simp [intOf]; omega
    · obtain rfl : k = 8 := by omega
      clear hlt hk
      have HT : Hid (RQto w g v n o (collQ x now) wr) := Lib.hid ⟨cs', v', n, o, HQ.out.seen rfl (fun i hi => by
        show (if deadF x now i = true then _ else _) = if i < 8 ∧ deadF x now i = true then _ else _
        by_cases h1 : deadF x now i = true
        · rw [if_pos h1, if_pos ⟨hi, h1⟩]
        · rw [if_neg h1, if_neg (fun h2 => h1 h2.2)]) (fun i hi => by
        show (x.T i && !deadF x now i) = (x.T i && !(decide (i < 8) && deadF x now i))
        rw [show decide (i < 8) = true from decide_eq_true hi, Bool.true_and]) rfl rfl, HK.out, fun j e => .inl (HOW.out j e)⟩
      go_wp2
      try rw [Exit.noGoto_normal]
      go_end0
      exact ⟨⟨_, rfl⟩, HT.out⟩
end
end Go.Proofs.YtnljjdfajmjdjaaGreat
