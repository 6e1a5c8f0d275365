/-
  canterref04.Keys: Insert, Delete answer what the document says of a set of keys in order. Conditions: the struct lies in memory as 'KeysAt' says, its keys rise.
-/
import Derived.Test.YtcejgmckghadnaaRefNext
namespace Go.Proofs.Ytcejgmckghadnaa
open Go.RowKit
set_option linter.unusedSimpArgs false

theorem oper_append_rows {P : Program} {w : World} {o : Oper} {a : Act} {K : Act → World → Prop} {Q : Exit → Act → World → Prop} (s x : Operand) (t : TypeId)
    (ho : o.op = .call { callee := .builtin .append, args := #[s, x], argTypes := #[t, t] })
    (e : TypeId) (i : TypeInfo) (z : Value) (sz bytes : Nat) (ht : P.underlying t = some (.slice e)) (hi : P.info? e = some i) (hz : i.zero = some z)
    (hsize : i.size = sz) (hby : i.bytes = bytes) (hzs : z.cells.size = sz) (hsz : 0 < sz) (v : Value) (n : Nat) (xs : List Value) (hs : a.eval s = v) (hown : w.ownsRow 0 e sz v n xs)
    (src : Option Addr) (m c : Nat) (news : List Value) (hx : a.eval x = .slice src m c) (hl : news.length = m * sz) (hn : src = none → m = 0 ∧ c = 0) (hnews : ∀ a, src = some a → ∀ j u, news[j]? = some u → w.cell? (a.add j) = some u) (h1 : ∀ u ∈ news, u.oneCell' = true)
    (h63 : n + m ≤ maxLen) (hbytes : (n + m) * bytes ≤ 140737488355328)
    (h : ∀ v' w', w'.ownsRow 0 e sz v' (n + m) (xs ++ news) → Keep (fun k => v.ownBlock = some k) w w' → (∀ k, v'.ownBlock = some k → v.ownBlock = some k ∨ w.heap.size ≤ k) → K (a.put o.dst v') w') : Oper.wp P o a w K Q := by
  obtain ⟨v', w', hr, h2, h3, h4, h5⟩ := run_append_rows (P := P) w t o.type e i z sz bytes ht hi hz hsize hby hzs hsz v n xs hown src m c news hl hn hnews h1 h63 hbytes
  unfold Oper.wp execOp
  simp only [ho, resolve, invoke, builtin, Sem.run_bind, Sem.run_pure, Result.andThen_ok, List.map_toArray, List.map_cons, List.map_nil, hs, hx, hr]
  exact h v' w' h2 h3 h4

theorem place_split {ks : List Key} (hs : ks.Pairwise KLt) (x : Key) : ∃ A B, ks = A ++ B ∧ placeOf ks x = A.length ∧ (∀ a ∈ A, KLt a x) ∧ ∀ b ∈ B, ¬ KLt b x := by
  refine ⟨ks.takeWhile fun y => decide (KLt y x), ks.dropWhile fun y => decide (KLt y x), List.takeWhile_append_dropWhile.symm, rfl, fun a ha => ?_, ?_⟩
  · have := List.all_eq_true.1 (List.all_takeWhile (p := fun y => decide (KLt y x)) (l := ks)) a ha
    simpa using this
  · have hp : (ks.dropWhile fun y => decide (KLt y x)).Pairwise KLt := hs.sublist (List.dropWhile_sublist _)
    cases hd : ks.dropWhile fun y => decide (KLt y x) with
    | nil => intro b hb; cases hb
    | cons c l =>
      rw [hd] at hp
      have hc : ¬ KLt c x := by
        have := List.head?_dropWhile_not (fun y => decide (KLt y x)) ks
        rw [hd] at this
        simpa using this
      intro b hb
      rcases List.mem_cons.1 hb with rfl | hb
      · exact hc
      · exact fun h => hc (((List.pairwise_cons.1 hp).1 b hb).trans h)
theorem place_in {ks : List Key} (hs : ks.Pairwise KLt) {x : Key} (hx : x ∈ ks) : ∃ A B, ks = A ++ x :: B ∧ placeOf ks x = A.length := by
  obtain ⟨A, B, e, hp, hA, hB⟩ := place_split hs x
  cases B with
  | nil =>
    rw [e, List.append_nil] at hx
    exact ((hA x hx).irr).elim
  | cons c l =>
    rw [e, List.mem_append, List.mem_cons] at hx
    rcases hx with hx | rfl | hx
    · exact ((hA x hx).irr).elim
    · exact ⟨A, l, e, hp⟩
    · rw [e] at hs
      exact (hB c (by simp) ((List.pairwise_cons.1 (List.pairwise_append.1 hs).2.1).1 x hx)).elim
theorem place_del {ks : List Key} (hs : ks.Pairwise KLt) {x : Key} (hx : x ∈ ks) : placeOf ks x < ks.length ∧ delS ks x = ks.take (placeOf ks x) ++ ks.drop (placeOf ks x + 1) := by
  obtain ⟨A, B, e, hp⟩ := place_in hs hx
  rw [hp]
  subst e
  refine ⟨by simp, ?_⟩
  rw [del_split hs, List.take_left, show A.length + 1 = (A ++ [x]).length by simp, show A ++ x :: B = (A ++ [x]) ++ B by simp, List.drop_left]
theorem place_ins {ks : List Key} (hs : ks.Pairwise KLt) {x : Key} (hx : x ∉ ks) : insK x ks = ks.take (placeOf ks x) ++ [x] ++ ks.drop (placeOf ks x) := by
  obtain ⟨A, B, e, hp, hA, hB⟩ := place_split hs x
  rw [hp]
  subst e
  rw [(insK_split hA (fun b hb => by
    rcases KLt.tri x b with h | h | h
    · exact h
    · exact (hx (by rw [h]; simp [hb])).elim
    · exact (hB b hb h).elim)).2, List.take_left, List.drop_left]
  simp

theorem rdk_news {w : World} {a : Option Addr} {ks : List Key} (h : RdK w a ks) : ∀ ad, a = some ad → ∀ j u, (flatK ks)[j]? = some u → w.cell? (ad.add j) = some u := fun ad e j u hj => by
  have hlt : j < ks.length * 2 := by rw [← flatK_len]; exact (List.getElem?_eq_some_iff.1 hj).1
  have hq : j / 2 < ks.length := by omega
  obtain ⟨b, off, e', _, c1, c2⟩ := h (j / 2) ks[j / 2] (List.getElem?_eq_getElem hq)
  obtain ⟨f1, f2⟩ := flatK_get ks (j / 2) ks[j / 2] (List.getElem?_eq_getElem hq)
  rw [e] at e'; cases e'
  rw [Go.WideShapes.add_plain]
  rcases Nat.mod_two_eq_zero_or_one j with hm | hm
  · have ej : j / 2 * 2 = j := by omega
    rw [ej] at f1 c1
    rw [hj] at f1; cases f1
    exact c1
  · have ej : j / 2 * 2 + 1 = j := by omega
    rw [ej] at f2
    rw [Nat.add_assoc, ej] at c2
    rw [hj] at f2; cases f2
    exact c2
theorem RdK.take' {w : World} {a : Option Addr} {ks : List Key} (h : RdK w a ks) (i : Nat) : RdK w a (ks.take i) := fun j k hj => h j k (by
  rw [List.getElem?_take] at hj
  split at hj
  · exact hj
  · cases hj)
theorem RdK.drop' {w : World} {b o : Nat} {ks : List Key} (h : RdK w (some ⟨b, o, none⟩) ks) (i : Nat) : RdK w (some ⟨b, o + i * 2, none⟩) (ks.drop i) := fun j k hj => by
  rw [List.getElem?_drop] at hj
  obtain ⟨b', o', e, hlt, c1, c2⟩ := h (i + j) k hj
  cases e
  exact ⟨b, o + i * 2, rfl, hlt, by rw [show o + i * 2 + j * 2 = o + (i + j) * 2 by omega]; exact c1, by rw [show o + i * 2 + j * 2 + 1 = o + (i + j) * 2 + 1 by omega]; exact c2⟩
theorem keys_of_row {w : World} {v : Value} {n : Nat} {ks : List Key} (hn : n = ks.length) (h : w.ownsRow 0 25 2 v n (flatK ks)) : ∃ a c, v = .slice a ks.length c ∧ RdK w a ks ∧ ks.length ≤ c ∧ (a = none → c = 0) ∧ (∀ ad, a = some ad → ∃ b, ad = ⟨b, 0, none⟩ ∧ v.ownBlock = some b ∧ b < w.heap.size) ∧ c ≤ maxLen := by
  subst hn
  have h' := h
  rcases h.2 with ⟨rfl, h0⟩ | ⟨g, cap, cur, rfl, hb, hg, hle, hmax, _⟩
  · obtain rfl := List.eq_nil_of_length_eq_zero h0
    exact ⟨none, 0, rfl, fun i k hi => (by simp at hi), Nat.le_refl _, fun _ => rfl, fun ad e => (by cases e), Nat.zero_le _⟩
  · obtain ⟨a, c, e, hr, _⟩ := ownsK_rd h'
    cases e
    exact ⟨_, cap, rfl, hr, hle, fun e => (by cases e), fun ad e => (by cases e; exact ⟨g, rfl, rfl, (Array.getElem?_eq_some_iff.1 hg).1⟩), hmax⟩
theorem keepN {w w' : World} {v : Value} {n₀ : Nat} {u : World} (h : Keep (fun _ => False) u w) (hk : Keep (fun k => v.ownBlock = some k) w w') (hv : ∀ k, v.ownBlock = some k → n₀ ≤ k) (hn : u.heap.size ≤ n₀) : Keep (fun _ => False) u w' := h.then hk (fun i e hi => by have := hv i e; omega)
theorem nil_own (k : Nat) : (Value.slice none 0 0).ownBlock = some k → False := fun h => by simp [Value.ownBlock] at h

/-- What Insert and Delete leave of the reference. -/
def KeysTo (w w' : World) (g : Nat) (n : Int) (a : Option Addr) (ks : List Key) : Prop := ∃ a' c', KeysAt w' g n a' c' ks ∧ Keep (fun k => k = g) w w' ∧ ∀ b off, a' = some ⟨b, off, none⟩ → a' = a ∨ (w.heap.size ≤ b ∧ b < w'.heap.size)
theorem KeysAt.to {w w' : World} {g : Nat} {n : Int} {a : Option Addr} {cap : Nat} {ks : List Key} (h : KeysAt w g n a cap ks) (hk : Keep (fun _ => False) w w') : KeysTo w w' g n a ks := ⟨a, cap, h.kept hk, hk.mono (fun _ h => h.elim), fun _ _ _ => .inl rfl⟩
/-- The new row is stored. -/
theorem KeysAt.stored {w u W : World} {g : Nat} {n : Int} {a : Option Addr} {cap : Nat} {ks ks' : List Key} {v : Value} {m : Nat} (h : KeysAt u g n a cap ks) (hu : Keep (fun _ => False) w u) (hk : Keep (fun _ => False) u W) (hm : m = ks'.length) (hrow : W.ownsRow 0 25 2 v m (flatK ks')) (hnew : ∀ k, v.ownBlock = some k → u.heap.size ≤ k) (hfew : ks'.length ≤ 4096) : KeysTo w (W.setCell ⟨g, 1, none⟩ v) g n a ks' := by
  obtain ⟨a', c', rfl, hr, h1, h2, h3, h4⟩ := keys_of_row hm hrow
  have hg := h.st.lt
  have hne : ∀ b off, a' = some ⟨b, off, none⟩ → u.heap.size ≤ b := fun b off e => by
    obtain ⟨b', e', ho, _⟩ := h3 _ e
    cases e'
    exact hnew b ho
  have hlt : ∀ b off, a' = some ⟨b, off, none⟩ → b < W.heap.size := fun b off e => by
    obtain ⟨b', e', _, ho⟩ := h3 _ e
    cases e'
    exact ho
  refine ⟨a', c', ⟨?_, hr.keep (S := fun k => k = g) ((Keep.refl (fun k => k = g) W).setCell (p := ⟨g, 1, none⟩) (.inl rfl) _) (fun b off e hb => by have := hne b off e; omega), fun b off e hb => by have := hne b off e; omega, h1, h2, hfew, fun ad e => (by obtain ⟨b, e', _⟩ := h3 ad e; exact ⟨b, e'⟩), h4⟩, (Keep.mono (T := fun k => k = g) (hu.trans hk) (fun _ h => h.elim)).setCell (p := ⟨g, 1, none⟩) (.inl rfl) _, fun b off e => .inr ⟨Nat.le_trans hu.size (hne b off e), by rw [World.size_setCell]; exact hlt b off e⟩⟩
  exact (h.st.keep hk id).put 1 _

theorem slice_hi (b n c i : Nat) (h : i ≤ c) (hc : ¬ c = 0) (w : World) : (Instr.slice 29 (.slice (some ⟨b, 0, none⟩) n c) none (some (.int .i64 (i : Int))) none).run Try.prog w = .ok (.slice (some ⟨b, 0, none⟩) i c) w := by
  have h1 : (i : Int) ≤ (c : Int) := by omega
  have h2 : (sizeOf 25).run Try.prog w = .ok 2 w := by kernel_rfl
  rw [run_slice_h (P := Try.prog) w 29 _ _ _ Try.underlying29 _ _ (by omega) h1]
  show ((sizeOf 25).run Try.prog w).andThen _ = _
  rw [h2]
  simp [Result.andThen, sliced, hc, Addr.add]
theorem slice_lo (b n c j : Nat) (h : j ≤ n) (w : World) : (Instr.slice 29 (.slice (some ⟨b, 0, none⟩) n c) (some (.int .i64 (j : Int))) none none).run Try.prog w = .ok (.slice (if c = j then some ⟨b, 0, none⟩ else some ⟨b, j * 2, none⟩) (n - j) (c - j)) w := by
  have h1 : (j : Int) ≤ (n : Int) := by omega
  have h2 : (sizeOf 25).run Try.prog w = .ok 2 w := by kernel_rfl
  rw [run_slice_l (P := Try.prog) w 29 _ _ _ Try.underlying29 _ _ (by omega) h1]
  show ((sizeOf 25).run Try.prog w).andThen _ = _
  rw [h2]
  simp [Result.andThen, sliced, Go.WideShapes.add_plain]
theorem slice_from {w0 : World} {b n c : Nat} {ks : List Key} (hn : ks.length = n) (hc : n ≤ c) (hr : RdK w0 (some ⟨b, 0, none⟩) ks) (j : Nat) (h : j ≤ n) : ∃ o, (∀ w : World, (Instr.slice 29 (.slice (some ⟨b, 0, none⟩) n c) (some (.int .i64 (j : Int))) none none).run Try.prog w = .ok (.slice (some ⟨b, o, none⟩) (n - j) (c - j)) w) ∧ RdK w0 (some ⟨b, o, none⟩) (ks.drop j) := by
  by_cases e : c = j
  · refine ⟨0, fun w => ?_, ?_⟩
    · rw [slice_lo b n c j h w, if_pos e]
    · rw [List.drop_eq_nil_of_le (by omega)]; exact fun i k hi => (by simp at hi)
  · refine ⟨j * 2, fun w => ?_, ?_⟩
    · rw [slice_lo b n c j h w, if_neg e]
    · have := hr.drop' j; rwa [Nat.zero_add] at this
set_option maxHeartbeats 2000000 in
set_option maxRecDepth 100000 in
theorem kdel_any (g : Nat) (n : Int) (a : Option Addr) (cap : Nat) (ks : List Key) (x : Key) (w : World) (h : KeysAt w g n a cap ks) (hs : ks.Pairwise KLt) :
    Calls Try.prog 12 #[.pointer (some ⟨g, 0, none⟩), kv x] w fun e w' => e = .returned (.int .i64 (delE ks x)) ∧ KeysTo w w' g n a (delS ks x) := by
  have HHAS := Lib.hid (fun w' (h' : KeysAt w' g n a cap ks) => khas_any g n a cap ks x w' h')
  have HPL := Lib.hid (fun w' (h' : KeysAt w' g n a cap ks) => place_any g n a cap ks x w' h')
  have HX : Hid (x = x) := Lib.hid rfl
  by_cases hx : x ∈ ks
  · have hE : delE ks x = 0 := if_pos hx
    obtain ⟨hpl, hdel⟩ := place_del hs hx
    have hda : decide (x ∈ ks) = true := by simpa using hx
    have hfew := h.few
    have hle := h.le
    have hbig := h.big
    obtain ⟨ad, had⟩ : ∃ ad, a = some ad := by
      cases a with
      | none => have := h.no rfl; omega
      | some ad => exact ⟨ad, rfl⟩
    obtain ⟨b, hb⟩ := h.at0 ad had
    subst hb had
    have HE := Lib.hid hE; have HDEL := Lib.hid hdel; have HDA := Lib.hid hda
    have HDL : Hid (placeOf ks x + (ks.length - (placeOf ks x + 1)) = (delS ks x).length) := Lib.hid (by rw [hdel, List.length_append, List.length_take, List.length_drop]; omega)
    have HDF : Hid ((delS ks x).length ≤ 4096) := Lib.hid (by have := HDL.out; omega)
    have HAW := Lib.hid h
    clear hE hdel hda h hs hx HX
    generalize delS ks x = ks' at *
    generalize delE ks x = ee at *
    generalize decide (x ∈ ks) = bb at *
    generalize placeOf ks x = i at *
    obtain ⟨xa, xb⟩ := x
    unfold kv at *
    dsimp only at *
    have K0 : Hid (Keep (fun _ => False) w (w.alloc (.cells #[.int .u64 xa, .int .u64 xb] 25))) := Lib.hid ((Keep.refl _ w).alloc _)
    have W0 := Lib.hid (Whole.new w 25 #[.int .u64 xa, .int .u64 xb])
    have g1 := W0.out.cell 0
    have g2 := W0.out.cell 1
    rw [HDA.out] at HHAS
    obtain ⟨i0, hi, hz0, hz1, hz2⟩ := info_parts Try.infoKey
    have HI := Lib.hid hi; have HZ0 := Lib.hid hz0; have HZ1 := Lib.hid hz1; have HZ2 := Lib.hid hz2; clear hi hz0 hz1 hz2
    go_enter Try.func12, Try.ntmps12
    go_wp2_with fail
    generalize w.alloc (.cells #[.int .u64 xa, .int .u64 xb] 25) = w1 at *
    refine (HHAS.out w1 (HAW.out.kept K0.out)).mono ?_
    rintro e w2 ⟨rfl, k2⟩
    have K2 := Lib.hid (K0.out.trans k2)
    have W2 := Lib.hid (W0.out.keep k2 id)
    have g3 := W2.out.cell 0
    have g4 := W2.out.cell 1
    clear k2 g1 g2 W0 K0 HHAS
    go_wp2_with (go_at_call 34; (with_reducible refine (HPL.out w2 (HAW.out.kept K2.out)).mono ?_); rintro e w3 ⟨rfl, k3⟩; have KW3 := Lib.hid (K2.out.trans k3); clear k3)
    have HA3 := Lib.hid (HAW.out.kept KW3.out)
    have HC : Hid (∀ W, Keep (fun _ => False) w3 W → W.cell? ⟨g, 1, none⟩ = some (.slice (some ⟨b, 0, none⟩) ks.length cap)) := Lib.hid (fun W hW => (HA3.out.st.keep hW id).cell 1)
    have HZF : Hid (∀ W, Keep (fun _ => False) w3 W → W.frozen? ⟨g, 1, none⟩ = false) := Lib.hid (fun W hW => (HA3.out.st.keep hW id).free 1)
    have HR1 : Hid (∀ W, Keep (fun _ => False) w3 W → RdK W (some ⟨b, 0, none⟩) (ks.take i)) := Lib.hid (fun W hW => (HA3.out.rd.kept hW).take' i)
    clear HAW K2 W2 g3 g4 HPL
    have hwr : IntKind.i64.wrap ((i : Int) + 1) = (i : Int) + 1 := by rw [IntKind.wrap_i64]; omega
    have hsl1 := slice_hi b ks.length cap i (by omega) (by omega)
    obtain ⟨o2, hsl2, hr2⟩ := slice_from rfl hle HA3.out.rd (i + 1) (by omega)
    simp only [Int.natCast_add, Int.natCast_one] at hsl2
    have HR2 : Hid (∀ W, Keep (fun _ => False) w3 W → RdK W (some ⟨b, o2, none⟩) (ks.drop (i + 1))) := Lib.hid (fun W hW => hr2.kept hW)
    clear hr2
    have HLE := Lib.hid hle; have HBIG := Lib.hid hbig
    clear hle hbig
    refine wp_region_late (fun W => W.cell? ⟨g, 1, none⟩ = some (.slice (some ⟨b, 0, none⟩) ks.length cap)) [18] (.yes 0 (.yes 1 (.yes 2 (.yes 3 (.yes 4 (.yes 5 (.yes 6 (.yes 8 (.yes 9 (.yes 10 (.yes 11 (.yes 12 (.yes 13 (.yes 14 (.one 7 (.one 15 (.yes 16 (.yes 17 (.one 18 .nil))))))))))))))))))) (by kernel_rfl) (by kernel_rfl) (by kernel_rfl) (by kernel_rfl) (HC.out _ (Keep.refl _ _).drew) ?_
    (repeat (refine wpSchL_yes (v := ?_) rfl (fun _ _ _ h => h) (by rfl) ?_ ?_; rotate_left; (next => (intro w hSw; (try dsimp only at hSw); (try obtain ⟨hS1, hS2, hS3⟩ := hSw); go_simp; (try with_reducible rfl))); (try simp only [Act.put, List.setIfInBounds_toArray, List.set_cons_zero, List.set_cons_succ])))
    have KD : Hid (Keep (fun _ => False) w3 w3.drew) := Lib.hid (Keep.refl _ w3).drew
    generalize w3.drew = w4 at *
    refine wpSchL_one ?_
    refine wpOneL_call rfl (by rfl) (fun K hK => ?_)
    refine oper_append_rows (.const (.slice none 0 0)) (.tmp 19) 29 rfl 25 i0 (.agg #[.int .u64 0, .int .u64 0]) 2 16 Try.underlying29 HI.out HZ0.out HZ1.out HZ2.out rfl (by decide) (.slice none 0 0) 0 [] rfl (World.ownsRow_nil _ _ _ _) (some ⟨b, 0, none⟩) i cap (flatK (ks.take i)) rfl (by rw [flatK_len, List.length_take, Nat.min_eq_left (by omega)]) (fun h => (by cases h)) (rdk_news (HR1.out w4 KD.out)) (one_flatK _) (by unfold maxLen; omega) (by omega) ?_
    intro v1 w5 ow1 kw1 nw1
    rw [List.nil_append, Nat.zero_add] at ow1
    have N1 : Hid (∀ k, v1.ownBlock = some k → w3.heap.size ≤ k) := Lib.hid (fun k e => by rcases nw1 k e with h | h; exact (nil_own k h).elim; exact Nat.le_trans KD.out.size h)
    have K5 : Hid (Keep (fun _ => False) w3 w5) := Lib.hid (KD.out.trans (kw1.mono (fun k h => nil_own k h)))
    have O5 := Lib.hid ow1
    clear ow1 kw1 nw1
    refine hK.out _ _ ?_ (fun hHeld => ?_)
    · exact fun _ => HC.out _ K5.out
    clear hK K hHeld
    (try simp only [Act.put, List.setIfInBounds_toArray, List.set_cons_zero, List.set_cons_succ])
    refine wpSchL_one ?_
    refine wpOneL_call rfl (by rfl) (fun K hK => ?_)
    refine oper_append_rows (.tmp 20) (.tmp 27) 29 rfl 25 i0 (.agg #[.int .u64 0, .int .u64 0]) 2 16 Try.underlying29 HI.out HZ0.out HZ1.out HZ2.out rfl (by decide) v1 i (flatK (ks.take i)) rfl O5.out (some ⟨b, o2, none⟩) (ks.length - (i + 1)) (cap - (i + 1)) (flatK (ks.drop (i + 1))) rfl (by rw [flatK_len, List.length_drop]) (fun h => (by cases h)) (rdk_news (HR2.out w5 K5.out)) (one_flatK _) (by unfold maxLen; omega) (by omega) ?_
    intro v2 w6 ow2 kw2 nw2
    have N2 : Hid (∀ k, v2.ownBlock = some k → w3.heap.size ≤ k) := Lib.hid (fun k e => by rcases nw2 k e with h | h; exact N1.out k h; exact Nat.le_trans K5.out.size h)
    have K6 : Hid (Keep (fun _ => False) w3 w6) := Lib.hid (keepN K5.out kw2 N1.out (Nat.le_refl _))
    rw [← flatK_append, ← HDEL.out] at ow2
    have O6 := Lib.hid ow2
    obtain ⟨a2, cc2, hv2, _⟩ := keys_of_row HDL.out ow2
    rw [← HDL.out] at hv2
    subst hv2
    clear ow2 kw2 nw2
    refine hK.out _ _ ?_ (fun hHeld => ?_)
    · exact fun _ => HC.out _ K6.out
    clear hK K hHeld
    (try simp only [Act.put, List.setIfInBounds_toArray, List.set_cons_zero, List.set_cons_succ])
    (repeat (refine wpSchL_yes (v := ?_) rfl (fun _ _ _ h => h) (by rfl) ?_ ?_; rotate_left; (next => (intro w hSw; (try dsimp only at hSw); (try obtain ⟨hS1, hS2, hS3⟩ := hSw); go_simp; (try with_reducible rfl))); (try simp only [Act.put, List.setIfInBounds_toArray, List.set_cons_zero, List.set_cons_succ])))
    have z1 := HC.out _ K6.out
    have z2 := HZF.out _ K6.out
    refine wpSchL_one ?_
    refine wpOneL_call rfl (by rfl) (fun K hK => ?_)
    go_simp
    refine hK.out _ _ ?_ (fun hHeld => ?_)
    · exact fun h => absurd h (by decide)
    clear hK K hHeld
    (try simp only [Act.put, List.setIfInBounds_toArray, List.set_cons_zero, List.set_cons_succ])
    refine wpSchL_nil ?_
    go_wp2
    go_ret
    exact ⟨by rw [HE.out]; rfl, KeysAt.stored HA3.out KW3.out K6.out HDL.out O6.out N2.out HDF.out⟩
  · have hE : delE ks x = 7 := if_neg hx
    have hda : decide (x ∈ ks) = false := by simpa using hx
    have HE := Lib.hid hE; have HDN := Lib.hid (del_none hx); have HDA := Lib.hid hda
    have HAW := Lib.hid h
    clear hE hda h hs hx HX
    generalize delS ks x = ks' at *
    generalize delE ks x = ee at *
    generalize decide (x ∈ ks) = bb at *
    obtain ⟨xa, xb⟩ := x
    unfold kv at *
    dsimp only at *
    have K0 : Hid (Keep (fun _ => False) w (w.alloc (.cells #[.int .u64 xa, .int .u64 xb] 25))) := Lib.hid ((Keep.refl _ w).alloc _)
    have W0 := Lib.hid (Whole.new w 25 #[.int .u64 xa, .int .u64 xb])
    have g1 := W0.out.cell 0
    have g2 := W0.out.cell 1
    rw [HDA.out] at HHAS
    go_enter Try.func12, Try.ntmps12
    go_wp2_with fail
    generalize w.alloc (.cells #[.int .u64 xa, .int .u64 xb] 25) = w1 at *
    refine (HHAS.out w1 (HAW.out.kept K0.out)).mono ?_
    rintro e w2 ⟨rfl, k2⟩
    have K2 := Lib.hid (K0.out.trans k2)
    clear k2 g1 g2 W0 K0 HHAS
    go_wp2
    go_ret
    exact ⟨by rw [HE.out]; rfl, by rw [HDN.out]; exact HAW.out.to K2.out⟩

/-! ### Insert -/
theorem slice_both {w0 : World} {a : Option Addr} {cap : Nat} {ks : List Key} (hr : RdK w0 a ks) (hle : ks.length ≤ cap) (hno : a = none → cap = 0) (h0 : ∀ ad, a = some ad → ∃ b, ad = ⟨b, 0, none⟩) (i : Nat) (hi : i ≤ ks.length) :
    ∃ a1 c1 a2 c2, ((∀ w : World, (Instr.slice 29 (.slice a ks.length cap) none (some (.int .i64 (i : Int))) none).run Try.prog w = .ok (.slice a1 i c1) w) ∧ RdK w0 a1 (ks.take i) ∧ (a1 = none → i = 0 ∧ c1 = 0)) ∧
      (∀ w : World, (Instr.slice 29 (.slice a ks.length cap) (some (.int .i64 (i : Int))) none none).run Try.prog w = .ok (.slice a2 (ks.length - i) c2) w) ∧ RdK w0 a2 (ks.drop i) ∧ (a2 = none → ks.length - i = 0 ∧ c2 = 0) := by
  by_cases hc : cap = 0
  · subst hc
    obtain rfl : ks = [] := List.eq_nil_of_length_eq_zero (by omega)
    obtain rfl : i = 0 := by simpa using hi
    have hnil : ∀ a, RdK w0 a [] := fun a j k hj => by simp at hj
    cases a with
    | none => exact ⟨none, 0, none, 0, ⟨fun w => by kernel_rfl, hnil _, fun _ => ⟨rfl, rfl⟩⟩, fun w => by kernel_rfl, hnil _, fun _ => ⟨rfl, rfl⟩⟩
    | some ad =>
      obtain ⟨b, rfl⟩ := h0 ad rfl
      exact ⟨some ⟨b, 0, none⟩, 0, some ⟨b, 0, none⟩, 0, ⟨fun w => by kernel_rfl, hnil _, fun e => (by cases e)⟩, fun w => by kernel_rfl, hnil _, fun e => (by cases e)⟩
  · cases a with
    | none => exact (hc (hno rfl)).elim
    | some ad =>
      obtain ⟨b, rfl⟩ := h0 ad rfl
      obtain ⟨o, h1, h2⟩ := slice_from rfl hle hr i hi
      exact ⟨_, cap, _, _, ⟨slice_hi b ks.length cap i (by omega) hc, hr.take' i, fun e => (by cases e)⟩, h1, h2, fun e => (by cases e)⟩
theorem whole_row {w : World} {g : Nat} {t : TypeId} {cs : List Value} (h : Whole w g t cs.toArray) : ∀ a, (some ⟨g, 0, none⟩ : Option Addr) = some a → ∀ j u, cs[j]? = some u → w.cell? (a.add j) = some u := fun a e j u hj => by
  cases e
  rw [Go.WideShapes.add_plain, Nat.zero_add, h.cell j]
  simpa using hj
theorem ins_len {ks : List Key} (i : Nat) (x : Key) (h : i ≤ ks.length) : (ks.take i ++ [x] ++ ks.drop i).length = i + 1 + (ks.length - i) := by
  simp; omega

set_option maxHeartbeats 2000000 in
set_option maxRecDepth 100000 in
theorem kins_any (g : Nat) (n : Int) (a : Option Addr) (cap : Nat) (ks : List Key) (x : Key) (w : World) (h : KeysAt w g n a cap ks) (hs : ks.Pairwise KLt) :
    Calls Try.prog 14 #[.pointer (some ⟨g, 0, none⟩), kv x] w fun e w' => e = .returned (.int .i64 (insE (capN n) ks x)) ∧ KeysTo w w' g n a (insS (capN n) ks x) := by
  have HHAS := Lib.hid (fun w' (h' : KeysAt w' g n a cap ks) => khas_any g n a cap ks x w' h')
  have HPL := Lib.hid (fun w' (h' : KeysAt w' g n a cap ks) => place_any g n a cap ks x w' h')
  have HPLE := Lib.hid (placeOf_le ks x)
  have hfew := h.few
  by_cases hx : x ∈ ks
  · have HE : Hid (insE (capN n) ks x = 6) := Lib.hid (if_pos hx)
    have HDN : Hid (insS (capN n) ks x = ks) := Lib.hid (if_pos hx)
    have HDA : Hid (decide (x ∈ ks) = true) := Lib.hid (by simpa using hx)
    have HAW := Lib.hid h
    clear h hs hx HPL HPLE
    generalize insS (capN n) ks x = ks' at *
    generalize insE (capN n) ks x = ee at *
    generalize decide (x ∈ ks) = bb at *
    obtain ⟨xa, xb⟩ := x
    unfold kv at *
    dsimp only at *
    have K0 : Hid (Keep (fun _ => False) w (w.alloc (.cells #[.int .u64 xa, .int .u64 xb] 25))) := Lib.hid ((Keep.refl _ w).alloc _)
    have W0 := Lib.hid (Whole.new w 25 #[.int .u64 xa, .int .u64 xb])
    have g1 := W0.out.cell 0
    have g2 := W0.out.cell 1
    rw [HDA.out] at HHAS
    go_enter Try.func14, Try.ntmps14
    go_wp2_with fail
    generalize w.alloc (.cells #[.int .u64 xa, .int .u64 xb] 25) = w1 at *
    refine (HHAS.out w1 (HAW.out.kept K0.out)).mono ?_
    rintro e w2 ⟨rfl, k2⟩
    have K2 := Lib.hid (K0.out.trans k2)
    clear k2 g1 g2 W0 K0 HHAS
    go_wp2
    go_ret
    exact ⟨by rw [HE.out]; rfl, by rw [HDN.out]; exact HAW.out.to K2.out⟩
  · have HDA : Hid (decide (x ∈ ks) = false) := Lib.hid (by simpa using hx)
    have HFULL : Hid (capN n ≤ ks.length → insE (capN n) ks x = 5 ∧ insS (capN n) ks x = ks) := Lib.hid (fun h => ⟨by unfold insE; rw [if_neg hx, if_pos h], by unfold insS; rw [if_neg hx, if_pos h]⟩)
    have HMORE : Hid (¬ capN n ≤ ks.length → insE (capN n) ks x = 0 ∧ insS (capN n) ks x = ks.take (placeOf ks x) ++ [x] ++ ks.drop (placeOf ks x)) := Lib.hid (fun h => ⟨by unfold insE; rw [if_neg hx, if_neg h], by unfold insS; rw [if_neg hx, if_neg h]; exact place_ins hs hx⟩)
    have HCAP : Hid (capN n ≤ 4096) := Lib.hid (capN_ok n).n
    have hCN : ∃ N, capN n = N := ⟨_, rfl⟩
    have HAW := Lib.hid h
    clear h hs hx
    generalize insS (capN n) ks x = ks' at *
    generalize insE (capN n) ks x = ee at *
    generalize decide (x ∈ ks) = bb at *
    generalize placeOf ks x = i at *
    obtain ⟨xa, xb⟩ := x
    unfold kv at *
    dsimp only at *
    have K0 : Hid (Keep (fun _ => False) w (w.alloc (.cells #[.int .u64 xa, .int .u64 xb] 25))) := Lib.hid ((Keep.refl _ w).alloc _)
    have W0 := Lib.hid (Whole.new w 25 #[.int .u64 xa, .int .u64 xb])
    have g1 := W0.out.cell 0
    have g2 := W0.out.cell 1
    rw [HDA.out] at HHAS
    obtain ⟨i0, hi, hz0, hz1, hz2⟩ := info_parts Try.infoKey
    have HI := Lib.hid hi; have HZ0 := Lib.hid hz0; have HZ1 := Lib.hid hz1; have HZ2 := Lib.hid hz2; clear hi hz0 hz1 hz2
    go_enter Try.func14, Try.ntmps14
    go_wp2_with fail
    generalize w.alloc (.cells #[.int .u64 xa, .int .u64 xb] 25) = w1 at *
    refine (HHAS.out w1 (HAW.out.kept K0.out)).mono ?_
    rintro e w2 ⟨rfl, k2⟩
    have K2 := Lib.hid (K0.out.trans k2)
    have W2 := Lib.hid (W0.out.keep k2 id)
    have A2 := Lib.hid (HAW.out.kept K2.out)
    have g3 := W2.out.cell 0
    have g4 := W2.out.cell 1
    have g5 := A2.out.st.cell 0
    have g6 := A2.out.st.cell 1
    clear k2 g1 g2 W0 K0 HHAS
    go_upto_region 3 with fail
    go_cut [20] (fun s20 wx => s20 = .bool (decide (capN n ≤ ks.length)) ∧ wx = w2.drew)
    case first =>
      rcases Int.lt_trichotomy n 0 with h | h | h
      · have HV : Hid (capN n = 0) := Lib.hid (if_pos h)
        refine wp_region_sch (fun W => W.cell? ⟨g, 0, none⟩ = some (.int .i64 _) ∧ W.cell? ⟨g, 1, none⟩ = some (.slice a ks.length cap)) [(true, 0), (true, 1), (true, 2), (true, 3), (true, 4), (true, 5), (true, 6), (true, 7), (true, 8), (true, 9), (true, 10), (true, 11)] (by kernel_rfl) (by kernel_rfl) (by kernel_rfl) (by kernel_rfl) ⟨g5, g6⟩ ?_
        (repeat (refine wpSch_yes (v := ?_) rfl (fun _ _ _ h => h) (by rfl) ?_ ?_; rotate_left; (next => (intro w hSw; (try dsimp only at hSw); obtain ⟨hS1, hS2⟩ := hSw; go_simp; (try with_reducible rfl))); (try simp only [Act.put, List.setIfInBounds_toArray, List.set_cons_zero, List.set_cons_succ])))
        refine wpSch_nil ?_
        go_wp2
        go_meet
        exact ⟨by first | (simp [HV.out]; done) | (simp [HV.out]; omega), rfl⟩
      · subst h
        have HV : Hid (capN 0 = 0) := Lib.hid rfl
        refine wp_region_sch (fun W => W.cell? ⟨g, 0, none⟩ = some (.int .i64 _) ∧ W.cell? ⟨g, 1, none⟩ = some (.slice a ks.length cap)) [(true, 0), (true, 1), (true, 2), (true, 3), (true, 4), (true, 5), (true, 6), (true, 7), (true, 8), (true, 9), (true, 10), (true, 11)] (by kernel_rfl) (by kernel_rfl) (by kernel_rfl) (by kernel_rfl) ⟨g5, g6⟩ ?_
        (repeat (refine wpSch_yes (v := ?_) rfl (fun _ _ _ h => h) (by rfl) ?_ ?_; rotate_left; (next => (intro w hSw; (try dsimp only at hSw); obtain ⟨hS1, hS2⟩ := hSw; go_simp; (try with_reducible rfl))); (try simp only [Act.put, List.setIfInBounds_toArray, List.set_cons_zero, List.set_cons_succ])))
        refine wpSch_nil ?_
        go_wp2
        go_meet
        exact ⟨by first | (simp [HV.out]; done) | (simp [HV.out]; omega), rfl⟩
      · rcases Int.lt_trichotomy n 4096 with h' | h' | h'
        · obtain ⟨m, rfl⟩ : ∃ m : Nat, n = m := ⟨n.toNat, by omega⟩
          have HV : Hid (capN (m : Int) = m) := Lib.hid (by unfold capN; rw [if_neg (by omega), if_pos (by omega)]; simp)
          refine wp_region_sch (fun W => W.cell? ⟨g, 0, none⟩ = some (.int .i64 _) ∧ W.cell? ⟨g, 1, none⟩ = some (.slice a ks.length cap)) [(true, 0), (true, 1), (true, 2), (true, 3), (true, 4), (true, 5), (true, 6), (true, 7), (true, 8), (true, 9), (true, 10), (true, 11)] (by kernel_rfl) (by kernel_rfl) (by kernel_rfl) (by kernel_rfl) ⟨g5, g6⟩ ?_
          (repeat (refine wpSch_yes (v := ?_) rfl (fun _ _ _ h => h) (by rfl) ?_ ?_; rotate_left; (next => (intro w hSw; (try dsimp only at hSw); obtain ⟨hS1, hS2⟩ := hSw; go_simp; (try with_reducible rfl))); (try simp only [Act.put, List.setIfInBounds_toArray, List.set_cons_zero, List.set_cons_succ])))
          refine wpSch_nil ?_
          go_wp2
          go_meet
          exact ⟨by first | (simp [HV.out]; done) | (simp [HV.out]; omega), rfl⟩
        · subst h'
          have HV : Hid (capN 4096 = 4096) := Lib.hid rfl
          refine wp_region_sch (fun W => W.cell? ⟨g, 0, none⟩ = some (.int .i64 _) ∧ W.cell? ⟨g, 1, none⟩ = some (.slice a ks.length cap)) [(true, 0), (true, 1), (true, 2), (true, 3), (true, 4), (true, 5), (true, 6), (true, 7), (true, 8), (true, 9), (true, 10), (true, 11)] (by kernel_rfl) (by kernel_rfl) (by kernel_rfl) (by kernel_rfl) ⟨g5, g6⟩ ?_
          (repeat (refine wpSch_yes (v := ?_) rfl (fun _ _ _ h => h) (by rfl) ?_ ?_; rotate_left; (next => (intro w hSw; (try dsimp only at hSw); obtain ⟨hS1, hS2⟩ := hSw; go_simp; (try with_reducible rfl))); (try simp only [Act.put, List.setIfInBounds_toArray, List.set_cons_zero, List.set_cons_succ])))
          refine wpSch_nil ?_
          go_wp2
          go_meet
          exact ⟨by first | (simp [HV.out]; done) | (simp [HV.out]; omega), rfl⟩
        · have HV : Hid (capN n = 4096) := Lib.hid (by unfold capN; rw [if_neg (by omega), if_neg (by omega)])
          refine wp_region_sch (fun W => W.cell? ⟨g, 0, none⟩ = some (.int .i64 _) ∧ W.cell? ⟨g, 1, none⟩ = some (.slice a ks.length cap)) [(true, 0), (true, 1), (true, 2), (true, 3), (true, 4), (true, 5), (true, 6), (true, 7), (true, 8), (true, 9), (true, 10), (true, 11)] (by kernel_rfl) (by kernel_rfl) (by kernel_rfl) (by kernel_rfl) ⟨g5, g6⟩ ?_
          (repeat (refine wpSch_yes (v := ?_) rfl (fun _ _ _ h => h) (by rfl) ?_ ?_; rotate_left; (next => (intro w hSw; (try dsimp only at hSw); obtain ⟨hS1, hS2⟩ := hSw; go_simp; (try with_reducible rfl))); (try simp only [Act.put, List.setIfInBounds_toArray, List.set_cons_zero, List.set_cons_succ])))
          refine wpSch_nil ?_
          go_wp2
          go_meet
          exact ⟨by first | (simp [HV.out]; done) | (simp [HV.out]; omega), rfl⟩
    case rest =>
      obtain ⟨rfl, hwc⟩ := hcut
      by_cases hfull : capN n ≤ ks.length
      · obtain ⟨hE, hS⟩ := HFULL.out hfull
        have HE := Lib.hid hE; have HS := Lib.hid hS; have HWC := Lib.hid hwc
        rw [decide_eq_true hfull]
        clear hE hS hwc
        go_wp2
        go_ret
        exact ⟨by rw [HE.out]; rfl, by rw [HS.out, HWC.out]; exact HAW.out.to K2.out.drew⟩
      · obtain ⟨hE, hS⟩ := HMORE.out hfull
        have HE := Lib.hid hE; have HINS := Lib.hid hS
        have HIL : Hid (i + 1 + (ks.length - i) = ks'.length) := Lib.hid (by rw [hS, ins_len i _ HPLE.out])
        have HIF : Hid (ks'.length ≤ 4096) := Lib.hid (by have := HIL.out; have := HPLE.out; have := HCAP.out; omega)
        rw [decide_eq_false hfull]
        have W2' : Hid (Whole wc w.heap.size 25 #[.int .u64 xa, .int .u64 xb]) := Lib.hid (by rw [hwc]; exact W2.out)
        have K2' : Hid (Keep (fun _ => False) w wc) := Lib.hid (by rw [hwc]; exact K2.out.drew)
        have g7 := W2'.out.cell 0
        have g8 := W2'.out.cell 1
        clear hE hS hwc g3 g4 g5 g6 A2 W2 K2
        go_wp2_with (go_at_call 34; (with_reducible refine (HPL.out wc (HAW.out.kept K2'.out)).mono ?_); rintro e w3 ⟨rfl, k3⟩; have KW3 := Lib.hid (K2'.out.trans k3); have W3 := Lib.hid (W2'.out.keep k3 id); clear k3)
        have HA3 := Lib.hid (HAW.out.kept KW3.out)
        have HC : Hid (∀ W, Keep (fun _ => False) w3 W → W.cell? ⟨w.heap.size, 0, none⟩ = some (.int .u64 xa) ∧ W.cell? ⟨w.heap.size, 1, none⟩ = some (.int .u64 xb) ∧ W.cell? ⟨g, 1, none⟩ = some (.slice a ks.length cap)) := Lib.hid (fun W hW => ⟨(W3.out.keep hW id).cell 0, (W3.out.keep hW id).cell 1, (HA3.out.st.keep hW id).cell 1⟩)
        have HZF : Hid (∀ W, Keep (fun _ => False) w3 W → W.frozen? ⟨g, 1, none⟩ = false) := Lib.hid (fun W hW => (HA3.out.st.keep hW id).free 1)
        have hpl := HPLE.out
        obtain ⟨a1, c1, a2, c2, ⟨hsl1, hr1, hn1⟩, hsl2, hr2, hn2⟩ := slice_both HA3.out.rd HA3.out.le HA3.out.no HA3.out.at0 i hpl
        have HR1 : Hid (∀ W, Keep (fun _ => False) w3 W → RdK W a1 (ks.take i)) := Lib.hid (fun W hW => hr1.kept hW)
        have HR2 : Hid (∀ W, Keep (fun _ => False) w3 W → RdK W a2 (ks.drop i)) := Lib.hid (fun W hW => hr2.kept hW)
        have HN1 := Lib.hid hn1; have HN2 := Lib.hid hn2
        clear hr1 hr2 hn1 hn2 g7 g8 W2' K2' hfull HFULL HMORE HPL
        refine wp_region_late (fun W => W.cell? ⟨w.heap.size, 0, none⟩ = some (.int .u64 xa) ∧ W.cell? ⟨w.heap.size, 1, none⟩ = some (.int .u64 xb) ∧ W.cell? ⟨g, 1, none⟩ = some (.slice a ks.length cap)) [20] (.yes 0 (.yes 1 (.yes 2 (.yes 3 (.yes 4 (.yes 5 (.yes 6 (.yes 8 (.yes 11 (.yes 12 (.yes 13 (.yes 14 (.yes 15 (.yes 16 (.two 7 (.one 9 (.one 10 (.one 17 (.yes 18 (.yes 19 (.one 20 .nil)))))) 9 (.one 7 (.one 10 (.one 17 (.yes 18 (.yes 19 (.one 20 .nil))))))))))))))))))))) (by kernel_rfl) (by kernel_rfl) (by kernel_rfl) (by kernel_rfl) (HC.out _ (Keep.refl _ _).drew) ?_
        (repeat (refine wpSchL_yes (v := ?_) rfl (fun _ _ _ h => h) (by rfl) ?_ ?_; rotate_left; (next => (intro w hSw; (try dsimp only at hSw); (try obtain ⟨hS1, hS2, hS3⟩ := hSw); go_simp; (try with_reducible rfl))); (try simp only [Act.put, List.setIfInBounds_toArray, List.set_cons_zero, List.set_cons_succ])))
        have KD : Hid (Keep (fun _ => False) w3 w3.drew) := Lib.hid (Keep.refl _ w3).drew
        generalize w3.drew = w4 at *
        refine wpSchL_two ?_ ?_
        · skip
          refine wpOneL_call rfl (by rfl) (fun K hK => ?_)
          refine oper_append_rows (.const (.slice none 0 0)) (.tmp 30) 29 rfl 25 i0 (.agg #[.int .u64 0, .int .u64 0]) 2 16 Try.underlying29 HI.out HZ0.out HZ1.out HZ2.out rfl (by decide) (.slice none 0 0) 0 [] rfl (World.ownsRow_nil _ _ _ _) a1 i c1 (flatK (ks.take i)) rfl (by rw [flatK_len, List.length_take, Nat.min_eq_left (by omega)]) HN1.out (rdk_news (HR1.out _ KD.out)) (one_flatK _) (by unfold maxLen; omega) (by omega) ?_
          intro v1 w5 ow1 kw1 nw1
          rw [List.nil_append, Nat.zero_add] at ow1
          have N1 : Hid (∀ k, v1.ownBlock = some k → w3.heap.size ≤ k) := Lib.hid (fun k e => by rcases nw1 k e with h | h; exact (nil_own k h).elim; exact Nat.le_trans KD.out.size h)
          have K5 : Hid (Keep (fun _ => False) w3 w5) := Lib.hid (KD.out.trans (kw1.mono (fun k h => nil_own k h)))
          have O5 := Lib.hid ow1
          clear ow1 kw1 nw1
          refine hK.out _ _ ?_ (fun hHeld => ?_)
          · exact fun _ => HC.out _ K5.out
          clear hK K hHeld
          (try simp only [Act.put, List.setIfInBounds_toArray, List.set_cons_zero, List.set_cons_succ])
          refine wpSchL_one ?_
          refine wpOneL_call rfl (by rfl) (fun K hK => ?_)
          go_simp
          have wz := Whole.new w5 25 #[.int .u64 xa, .int .u64 xb]
          have kz : Keep (fun _ => False) w3 (w5.alloc (.cells #[.int .u64 xa, .int .u64 xb] 25)) := K5.out.alloc _
          refine hK.out _ _ ?_ (fun hHeld => ?_)
          · exact fun _ => HC.out _ kz
          clear hK K hHeld
          (try simp only [Act.put, List.setIfInBounds_toArray, List.set_cons_zero, List.set_cons_succ])
          have ox : (w5.alloc (.cells #[.int .u64 xa, .int .u64 xb] 25)).ownsRow 0 25 2 v1 i (flatK (ks.take i)) := World.ownsRow.alloc O5.out _
          generalize hsz : w5.heap.size = sz at *
          generalize w5.alloc (.cells #[.int .u64 xa, .int .u64 xb] 25) = w6 at *
          clear hsz
          have WZ := Lib.hid wz; have KZ := Lib.hid kz; have O6 := Lib.hid ox
          clear wz kz ox
          refine wpSchL_one ?_
          refine wpOneL_call rfl (by rfl) (fun K hK => ?_)
          refine oper_append_rows (.tmp 31) (.tmp 33) 29 rfl 25 i0 (.agg #[.int .u64 0, .int .u64 0]) 2 16 Try.underlying29 HI.out HZ0.out HZ1.out HZ2.out rfl (by decide) v1 i (flatK (ks.take i)) rfl O6.out (some ⟨sz, 0, none⟩) 1 1 (kcells ⟨xa, xb⟩) rfl rfl (fun h => (by cases h)) (whole_row (cs := kcells ⟨xa, xb⟩) WZ.out) (one_kcells _) (by unfold maxLen; omega) (by omega) ?_
          intro v2 w7 ow2 kw2 nw2
          have N2 : Hid (∀ k, v2.ownBlock = some k → w3.heap.size ≤ k) := Lib.hid (fun k e => by rcases nw2 k e with h | h; exact N1.out k h; exact Nat.le_trans KZ.out.size h)
          have K7 : Hid (Keep (fun _ => False) w3 w7) := Lib.hid (keepN KZ.out kw2 N1.out (Nat.le_refl _))
          rw [flatK_app] at ow2
          have O7 := Lib.hid ow2
          clear ow2 kw2 nw2
          refine hK.out _ _ ?_ (fun hHeld => ?_)
          · exact fun _ => HC.out _ K7.out
          clear hK K hHeld
          (try simp only [Act.put, List.setIfInBounds_toArray, List.set_cons_zero, List.set_cons_succ])
          refine wpSchL_one ?_
          refine wpOneL_call rfl (by rfl) (fun K hK => ?_)
          refine oper_append_rows (.tmp 34) (.tmp 40) 29 rfl 25 i0 (.agg #[.int .u64 0, .int .u64 0]) 2 16 Try.underlying29 HI.out HZ0.out HZ1.out HZ2.out rfl (by decide) v2 (i + 1) (flatK (ks.take i ++ [⟨xa, xb⟩])) rfl O7.out a2 (ks.length - i) c2 (flatK (ks.drop i)) rfl (by rw [flatK_len, List.length_drop]) HN2.out (rdk_news (HR2.out _ K7.out)) (one_flatK _) (by unfold maxLen; omega) (by omega) ?_
          intro v3 w8 ow3 kw3 nw3
          have N3 : Hid (∀ k, v3.ownBlock = some k → w3.heap.size ≤ k) := Lib.hid (fun k e => by rcases nw3 k e with h | h; exact N2.out k h; exact Nat.le_trans K7.out.size h)
          have K8 : Hid (Keep (fun _ => False) w3 w8) := Lib.hid (keepN K7.out kw3 N2.out (Nat.le_refl _))
          rw [← flatK_append, ← HINS.out] at ow3
          have O8 := Lib.hid ow3
          obtain ⟨a3, cc3, hv3, _⟩ := keys_of_row HIL.out ow3
          rw [← HIL.out] at hv3
          subst hv3
          clear ow3 kw3 nw3
          refine hK.out _ _ ?_ (fun hHeld => ?_)
          · exact fun _ => HC.out _ K8.out
          clear hK K hHeld
          (try simp only [Act.put, List.setIfInBounds_toArray, List.set_cons_zero, List.set_cons_succ])
          (repeat (refine wpSchL_yes (v := ?_) rfl (fun _ _ _ h => h) (by rfl) ?_ ?_; rotate_left; (next => (intro w hSw; (try dsimp only at hSw); (try obtain ⟨hS1, hS2, hS3⟩ := hSw); go_simp; (try with_reducible rfl))); (try simp only [Act.put, List.setIfInBounds_toArray, List.set_cons_zero, List.set_cons_succ])))
          have z1 := (HC.out _ K8.out).2.2
          have z2 := HZF.out _ K8.out
          refine wpSchL_one ?_
          refine wpOneL_call rfl (by rfl) (fun K hK => ?_)
          go_simp
          refine hK.out _ _ ?_ (fun hHeld => ?_)
          · exact fun h => absurd h (by decide)
          clear hK K hHeld
          (try simp only [Act.put, List.setIfInBounds_toArray, List.set_cons_zero, List.set_cons_succ])
          refine wpSchL_nil ?_
          go_wp2
          go_ret
          exact ⟨by rw [HE.out]; rfl, KeysAt.stored HA3.out KW3.out K8.out HIL.out O8.out N3.out HIF.out⟩
        · refine wpOneL_call rfl (by rfl) (fun K hK => ?_)
          go_simp
          have wz := Whole.new w4 25 #[.int .u64 xa, .int .u64 xb]
          have kz : Keep (fun _ => False) w3 (w4.alloc (.cells #[.int .u64 xa, .int .u64 xb] 25)) := KD.out.alloc _
          refine hK.out _ _ ?_ (fun hHeld => ?_)
          · exact fun _ => HC.out _ kz
          clear hK K hHeld
          (try simp only [Act.put, List.setIfInBounds_toArray, List.set_cons_zero, List.set_cons_succ])
          generalize hsz : w4.heap.size = sz at *
          generalize w4.alloc (.cells #[.int .u64 xa, .int .u64 xb] 25) = w4' at *
          clear hsz
          have WZ' := Lib.hid wz
          clear KD wz
          have KD := Lib.hid kz
          clear kz
          refine wpSchL_one ?_
          refine wpOneL_call rfl (by rfl) (fun K hK => ?_)
          refine oper_append_rows (.const (.slice none 0 0)) (.tmp 30) 29 rfl 25 i0 (.agg #[.int .u64 0, .int .u64 0]) 2 16 Try.underlying29 HI.out HZ0.out HZ1.out HZ2.out rfl (by decide) (.slice none 0 0) 0 [] rfl (World.ownsRow_nil _ _ _ _) a1 i c1 (flatK (ks.take i)) rfl (by rw [flatK_len, List.length_take, Nat.min_eq_left (by omega)]) HN1.out (rdk_news (HR1.out _ KD.out)) (one_flatK _) (by unfold maxLen; omega) (by omega) ?_
          intro v1 w5 ow1 kw1 nw1
          rw [List.nil_append, Nat.zero_add] at ow1
          have N1 : Hid (∀ k, v1.ownBlock = some k → w3.heap.size ≤ k) := Lib.hid (fun k e => by rcases nw1 k e with h | h; exact (nil_own k h).elim; exact Nat.le_trans KD.out.size h)
          have K5 : Hid (Keep (fun _ => False) w3 w5) := Lib.hid (KD.out.trans (kw1.mono (fun k h => nil_own k h)))
          have O5 := Lib.hid ow1
          have WZ := Lib.hid (WZ'.out.keep (kw1.mono (T := fun _ => False) (fun k h => nil_own k h)) id)
          clear ow1 kw1 nw1
          refine hK.out _ _ ?_ (fun hHeld => ?_)
          · exact fun _ => HC.out _ K5.out
          clear hK K hHeld
          (try simp only [Act.put, List.setIfInBounds_toArray, List.set_cons_zero, List.set_cons_succ])
          have KZ := Lib.hid K5.out; have O6 := Lib.hid O5.out
          generalize w5 = w6 at *
          refine wpSchL_one ?_
          refine wpOneL_call rfl (by rfl) (fun K hK => ?_)
          refine oper_append_rows (.tmp 31) (.tmp 33) 29 rfl 25 i0 (.agg #[.int .u64 0, .int .u64 0]) 2 16 Try.underlying29 HI.out HZ0.out HZ1.out HZ2.out rfl (by decide) v1 i (flatK (ks.take i)) rfl O6.out (some ⟨sz, 0, none⟩) 1 1 (kcells ⟨xa, xb⟩) rfl rfl (fun h => (by cases h)) (whole_row (cs := kcells ⟨xa, xb⟩) WZ.out) (one_kcells _) (by unfold maxLen; omega) (by omega) ?_
          intro v2 w7 ow2 kw2 nw2
          have N2 : Hid (∀ k, v2.ownBlock = some k → w3.heap.size ≤ k) := Lib.hid (fun k e => by rcases nw2 k e with h | h; exact N1.out k h; exact Nat.le_trans KZ.out.size h)
          have K7 : Hid (Keep (fun _ => False) w3 w7) := Lib.hid (keepN KZ.out kw2 N1.out (Nat.le_refl _))
          rw [flatK_app] at ow2
          have O7 := Lib.hid ow2
          clear ow2 kw2 nw2
          refine hK.out _ _ ?_ (fun hHeld => ?_)
          · exact fun _ => HC.out _ K7.out
          clear hK K hHeld
          (try simp only [Act.put, List.setIfInBounds_toArray, List.set_cons_zero, List.set_cons_succ])
          refine wpSchL_one ?_
          refine wpOneL_call rfl (by rfl) (fun K hK => ?_)
          refine oper_append_rows (.tmp 34) (.tmp 40) 29 rfl 25 i0 (.agg #[.int .u64 0, .int .u64 0]) 2 16 Try.underlying29 HI.out HZ0.out HZ1.out HZ2.out rfl (by decide) v2 (i + 1) (flatK (ks.take i ++ [⟨xa, xb⟩])) rfl O7.out a2 (ks.length - i) c2 (flatK (ks.drop i)) rfl (by rw [flatK_len, List.length_drop]) HN2.out (rdk_news (HR2.out _ K7.out)) (one_flatK _) (by unfold maxLen; omega) (by omega) ?_
          intro v3 w8 ow3 kw3 nw3
          have N3 : Hid (∀ k, v3.ownBlock = some k → w3.heap.size ≤ k) := Lib.hid (fun k e => by rcases nw3 k e with h | h; exact N2.out k h; exact Nat.le_trans K7.out.size h)
          have K8 : Hid (Keep (fun _ => False) w3 w8) := Lib.hid (keepN K7.out kw3 N2.out (Nat.le_refl _))
          rw [← flatK_append, ← HINS.out] at ow3
          have O8 := Lib.hid ow3
          obtain ⟨a3, cc3, hv3, _⟩ := keys_of_row HIL.out ow3
          rw [← HIL.out] at hv3
          subst hv3
          clear ow3 kw3 nw3
          refine hK.out _ _ ?_ (fun hHeld => ?_)
          · exact fun _ => HC.out _ K8.out
          clear hK K hHeld
          (try simp only [Act.put, List.setIfInBounds_toArray, List.set_cons_zero, List.set_cons_succ])
          (repeat (refine wpSchL_yes (v := ?_) rfl (fun _ _ _ h => h) (by rfl) ?_ ?_; rotate_left; (next => (intro w hSw; (try dsimp only at hSw); (try obtain ⟨hS1, hS2, hS3⟩ := hSw); go_simp; (try with_reducible rfl))); (try simp only [Act.put, List.setIfInBounds_toArray, List.set_cons_zero, List.set_cons_succ])))
          have z1 := (HC.out _ K8.out).2.2
          have z2 := HZF.out _ K8.out
          refine wpSchL_one ?_
          refine wpOneL_call rfl (by rfl) (fun K hK => ?_)
          go_simp
          refine hK.out _ _ ?_ (fun hHeld => ?_)
          · exact fun h => absurd h (by decide)
          clear hK K hHeld
          (try simp only [Act.put, List.setIfInBounds_toArray, List.set_cons_zero, List.set_cons_succ])
          refine wpSchL_nil ?_
          go_wp2
          go_ret
          exact ⟨by rw [HE.out]; rfl, KeysAt.stored HA3.out KW3.out K8.out HIL.out O8.out N3.out HIF.out⟩
end Go.Proofs.Ytcejgmckghadnaa
