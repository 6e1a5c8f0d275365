/-
  canterlaw17.awake answers true; models among other things in memory: their calls leave the others. Conditions: numbers are of 64 bits; fewer than 2^64-1 rounds have begun.
  The document's own model among other things in memory: NewModel, Update, State. Conditions: numbers are of 64 bits; fewer than 2^64-1 rounds have begun.
  canterplay.Sample answers a sample whose numbers are not apart by too much. Conditions: the sample's numbers are of 64 bits.
  What comes in: slices of structs, as the walk reads them. Conditions: none.
  What comes in: a list of samples (api.Sample), as the walk reads them. Conditions: none.
  What comes in: a list of uint64, as the walk reads it. Conditions: none.
-/
import Derived.Test.YtcjgpkjhfbamfaaGreatJ34
import Derived.Test.YtcjgpkjhfbamfaaGreatJ36
import Derived.Test.YtcjgpkjhfbamfaaGreatJ37
import Derived.Test.YtcjgpkjhfbamfaaGreatJ35
import Derived.Test.YtcjgpkjhfbamfaaGreatJ05
import Derived.Test.YtcjgpkjhfbamfaaGreatJ01
import Derived.Test.YtcjgpkjhfbamfaaGreatChecked
import Derived.KernelRfl
import Derived.WalkSpells
import Derived.WalkLawsBesides
import Derived.Deep.QuietTactic
import Derived.Deep.DeepCutAuto
import Derived.Deep.Draws
import Derived.Laws.ResultCell
import Derived.Lib.SmallJoins
import Derived.Deep.SlicePairs
import Derived.Deep.Slices
import Derived.Deep.Strs
import Derived.OpenShut
set_option linter.unusedVariables false
namespace Go.Proofs.YtcjgpkjhfbamfaaGreat
open Go.RowKit
set_option maxRecDepth 100000

theorem Tryz.fieldM0 (v0 v1 v2 v3 v4 v5 v6 v7 v8 v9 : Value) (w : World) : (Instr.field 31 (.agg #[v0, v1, v2, v3, v4, v5, v6, v7, v8, v9]) 0).run Tryz.prog w = .ok v0 w := by kernel_rfl
theorem Tryz.fieldM1 (v0 v1 v2 v3 v4 v5 v6 v7 v8 v9 : Value) (w : World) : (Instr.field 31 (.agg #[v0, v1, v2, v3, v4, v5, v6, v7, v8, v9]) 1).run Tryz.prog w = .ok v1 w := by kernel_rfl
theorem Tryz.fieldM2 (v0 v1 v2 v3 v4 v5 v6 v7 v8 v9 : Value) (w : World) : (Instr.field 31 (.agg #[v0, v1, v2, v3, v4, v5, v6, v7, v8, v9]) 2).run Tryz.prog w = .ok v2 w := by kernel_rfl
theorem Tryz.fieldM3 (v0 v1 v2 v3 v4 v5 v6 v7 v8 v9 : Value) (w : World) : (Instr.field 31 (.agg #[v0, v1, v2, v3, v4, v5, v6, v7, v8, v9]) 3).run Tryz.prog w = .ok v3 w := by kernel_rfl
theorem Tryz.fieldM4 (v0 v1 v2 v3 v4 v5 v6 v7 v8 v9 : Value) (w : World) : (Instr.field 31 (.agg #[v0, v1, v2, v3, v4, v5, v6, v7, v8, v9]) 4).run Tryz.prog w = .ok v4 w := by kernel_rfl
theorem Tryz.fieldM5 (v0 v1 v2 v3 v4 v5 v6 v7 v8 v9 : Value) (w : World) : (Instr.field 31 (.agg #[v0, v1, v2, v3, v4, v5, v6, v7, v8, v9]) 5).run Tryz.prog w = .ok v5 w := by kernel_rfl
theorem Tryz.fieldM6 (v0 v1 v2 v3 v4 v5 v6 v7 v8 v9 : Value) (w : World) : (Instr.field 31 (.agg #[v0, v1, v2, v3, v4, v5, v6, v7, v8, v9]) 6).run Tryz.prog w = .ok v6 w := by kernel_rfl
theorem Tryz.fieldM7 (v0 v1 v2 v3 v4 v5 v6 v7 v8 v9 : Value) (w : World) : (Instr.field 31 (.agg #[v0, v1, v2, v3, v4, v5, v6, v7, v8, v9]) 7).run Tryz.prog w = .ok v7 w := by kernel_rfl
theorem Tryz.fieldM8 (v0 v1 v2 v3 v4 v5 v6 v7 v8 v9 : Value) (w : World) : (Instr.field 31 (.agg #[v0, v1, v2, v3, v4, v5, v6, v7, v8, v9]) 8).run Tryz.prog w = .ok v8 w := by kernel_rfl
theorem Tryz.fieldM9 (v0 v1 v2 v3 v4 v5 v6 v7 v8 v9 : Value) (w : World) : (Instr.field 31 (.agg #[v0, v1, v2, v3, v4, v5, v6, v7, v8, v9]) 9).run Tryz.prog w = .ok v9 w := by kernel_rfl
abbrev soloF : Fr := ⟨69, [], []⟩
/-- A model in a block of its own. -/
structure ModAt (w : World) (g : Nat) (x : Mdl) : Prop where
  m : MdlAt soloF 0 w g x
  fit : x.Fit
theorem ModAt.keep {w w' : World} {g : Nat} {x : Mdl} {R : Nat → Prop} (h : ModAt w g x) (hk : Keep R w w') (hg : ¬ R g) : ModAt w' g x := ⟨h.m.keep hk hg, h.fit⟩
theorem ModAt.lt {w : World} {g : Nat} {x : Mdl} (h : ModAt w g x) : g < w.heap.size := h.m.lt
theorem modnew_any (m : Int) (w : World) (hm : Num m) : Calls Tryz.prog 4 #[.int .u64 m] w fun e w' => ∃ g, e = .returned (.pointer (some ⟨g, 0, none⟩)) ∧ w.heap.size ≤ g ∧ ModAt w' g (newM (clampS m)) ∧ Keep (fun _ => False) w w' :=
  (mnew_any m w hm).mono fun _ _ ⟨g, he, hl, h1, k1⟩ => ⟨g, he, hl, ⟨h1, fit_newM clampS_bd.1 clampS_bd.2⟩, k1⟩
theorem modupd_any (g : Nat) (x : Mdl) (s : Spl) (tso : Int) (w : World) (h : ModAt w g x) (hs : s.Fit) (ht : Num tso) (hc : x.r.c < 18446744073709551615) :
    Calls Tryz.prog 10 #[.pointer (some ⟨g, 0, none⟩), s.v, .int .u64 tso] w fun e w' => e = .returned (.agg (staC (updM x s tso))) ∧ ModAt w' g (updM x s tso) ∧ Keep (fun k => k = g) w w' :=
  (update_any g x s tso w h.m h.fit hs ht hc).mono fun _ _ ⟨he, h1, k1⟩ => ⟨he, ⟨h1, h.fit.upd hs ht.1 hc⟩, k1⟩
theorem modupd_is {x y : Mdl} {s : Spl} {tso : Int} {v : Array Value} (e : updM x s tso = y) (ev : staC y = v) (g : Nat) (w : World) (h : ModAt w g x) (hs : s.Fit) (ht : Num tso) (hc : x.r.c < 18446744073709551615) :
    Calls Tryz.prog 10 #[.pointer (some ⟨g, 0, none⟩), s.v, .int .u64 tso] w fun e w' => e = .returned (.agg v) ∧ ModAt w' g y ∧ Keep (fun k => k = g) w w' := by
  have := modupd_any g x s tso w h hs ht hc
  rw [e, ev] at this
  exact this
theorem modsta_is {x : Mdl} {v : Array Value} (e : staC x = v) (g : Nat) (w : World) (h : ModAt w g x) : Calls Tryz.prog 7 #[.pointer (some ⟨g, 0, none⟩)] w fun e w' => e = .returned (.agg v) ∧ Keep (fun _ => False) w w' := by
  have := state_any g x w h.m h.fit
  rw [e] at this
  exact this
def modT (g : Nat) (x : Mdl) : Thing := ⟨fun w => ModAt w g x, fun k => k = g, fun h hk hs => h.keep hk (hs g rfl), fun h e => e ▸ h.lt⟩
section
variable {wB w : World} {L : List Thing} {g : Nat} {x y : Mdl} {s : Spl} {m tso : Int} {v : Array Value}
theorem Room.modnew (h : Room wB w L) (hm : Num m) : Calls Tryz.prog 4 #[.int .u64 m] w fun e w' => ∃ g, e = .returned (.pointer (some ⟨g, 0, none⟩)) ∧ Room wB w' (modT g (newM (clampS m)) :: L) :=
  (modnew_any m w hm).mono fun _ _ ⟨g, he, hl, h1, k1⟩ => ⟨g, he, h.add (t := modT g (newM (clampS m))) h1 k1 (fun k e => by subst e; exact hl)⟩
theorem Room.modupd (h : Room wB w (modT g x :: L)) (e : updM x s tso = y) (ev : staC y = v) (hs : s.Fit) (ht : Num tso) (hc : x.r.c < 18446744073709551615) :
    Calls Tryz.prog 10 #[.pointer (some ⟨g, 0, none⟩), s.v, .int .u64 tso] w fun e w' => e = .returned (.agg v) ∧ Room wB w' (modT g y :: L) :=
  (modupd_is e ev g w h.get0 hs ht hc).mono fun _ _ ⟨he, h1, k1⟩ => ⟨he, h.step0 (t' := modT g y) h1 k1 own_same⟩
theorem Room.modsta (h : Room wB w (modT g x :: L)) (e : staC x = v) : Calls Tryz.prog 7 #[.pointer (some ⟨g, 0, none⟩)] w fun e w' => e = .returned (.agg v) ∧ Room wB w' (modT g x :: L) :=
  (modsta_is e g w h.get0).mono fun _ _ ⟨he, k1⟩ => ⟨he, h.kept k1⟩
end
abbrev awmS : Spl := ⟨1000, 1000, 0, 1000, 1000, 1000, 0, 0, false⟩
theorem awm_fit : awmS.Fit := ⟨⟨by decide, by decide⟩, ⟨by decide, by decide⟩, ⟨by decide, by decide⟩, ⟨by decide, by decide⟩, ⟨by decide, by decide⟩, ⟨by decide, by decide⟩, ⟨by decide, by decide⟩, ⟨by decide, by decide⟩⟩
theorem awm1 : staC (newM (clampS 1000)) = #[.int .i64 0, .int .i64 0, .int .u64 28867187, .int .u64 10000, .int .u64 0, .int .u64 0, .int .u64 739, .int .u64 0, .bool false, .bool false] := by kernel_rfl
theorem awm2 : staC (updM (newM (clampS 1000)) awmS 2000) = #[.int .i64 0, .int .i64 0, .int .u64 2886718750, .int .u64 11000, .int .u64 1000000000, .int .u64 1000, .int .u64 739, .int .u64 1, .bool false, .bool false] := by kernel_rfl
set_option maxHeartbeats 1000000 in
set_option maxRecDepth 100000 in
theorem awakem_any (w : World) : Calls Tryz.prog 6 #[] w fun e w' => e = .returned (.bool true) ∧ Keep (fun _ => False) w w' := by
  have hf3 := Tryz.fieldM3
  have hf6 := Tryz.fieldM6
  go_enter Tryz.func6, Tryz.ntmps6
  go_wp2_with fail
  refine (modnew_any _ _ ⟨by decide, by decide⟩).mono ?_
  rintro e w1 ⟨g, rfl, hl, h1, k1⟩
  have H1 := Lib.hid h1; have K1 := Lib.hid k1; have HL := Lib.hid hl; clear h1 k1 hl
  go_wp2_with fail
  refine (modsta_is awm1 _ _ H1.out).mono ?_
  rintro e w2 ⟨rfl, k2⟩
  have H2 := Lib.hid (H1.out.keep k2 id); have K2 := Lib.hid (K1.out.trans k2); clear k2 H1 K1
  go_wp2_with fail
  refine (modsta_is awm1 _ _ H2.out).mono ?_
  rintro e w3 ⟨rfl, k3⟩
  have H3 := Lib.hid (H2.out.keep k3 id); have K3 := Lib.hid (K2.out.trans k3); clear k3 H2 K2
  go_wp2_with fail
  refine (modupd_is rfl awm2 _ _ H3.out awm_fit ⟨by decide, by decide⟩ (by decide)).mono ?_
  rintro e w4 ⟨rfl, h4, k4⟩
  have K4 := Lib.hid (K3.out.then k4 (fun i e hlt => by have := HL.out; omega)); clear h4 k4 H3 K3
  go_wp2
  go_ret
  exact ⟨rfl, K4.out.alloc _⟩
theorem Room.awakem {wB w : World} {L : List Thing} (h : Room wB w L) : Calls Tryz.prog 6 #[] w fun e w' => e = .returned (.bool true) ∧ Room wB w' L := (awakem_any w).mono fun _ _ ⟨he, k⟩ => ⟨he, h.kept k⟩
end Go.Proofs.YtcjgpkjhfbamfaaGreat
set_option linter.unusedVariables false
namespace Go.Proofs.YtcjgpkjhfbamfaaGreat
open Go.RowKit
set_option maxRecDepth 100000
/-- A model of the document's own, its window beside it. -/
structure RModAt (w : World) (g k : Nat) (x : Mdl) : Prop where
  m : RM w g k x (gainM x)
  fit : x.Fit
theorem RModAt.keep {w w' : World} {g k : Nat} {x : Mdl} {R : Nat → Prop} (h : RModAt w g k x) (hk : Keep R w w') (hg : ∀ i, own2 g k i → ¬ R i) : RModAt w' g k x := ⟨h.m.keep hk (hg g (.inl rfl)) (hg k (.inr rfl)), h.fit⟩
theorem RModAt.lt {w : World} {g k i : Nat} {x : Mdl} (h : RModAt w g k x) (e : own2 g k i) : i < w.heap.size := by
  rcases e with rfl | rfl
  · exact h.m.lt
  · exact h.m.m.whole.lt
def rmodT (g k : Nat) (x : Mdl) : Thing := ⟨fun w => RModAt w g k x, own2 g k, fun h hk hs => h.keep hk hs, fun h e => h.lt e⟩
theorem gain_newM {h : Int} : gainM (newM h) = 739 := by kernel_rfl
section
variable {wB w : World} {L : List Thing} {g k : Nat} {x y : Mdl} {s : Spl} {m tso : Int} {v : Array Value} {a : Thing}
theorem Room.rmodnew (h : Room wB w L) (hm : Num m) : Calls Tryz.prog 5 #[.int .u64 m] w fun e w' => ∃ g k, e = .returned (.pointer (some ⟨g, 0, none⟩)) ∧ Room wB w' (rmodT g k (newM (clampS m)) :: L) :=
  (rmnew_any m w hm).mono fun _ _ ⟨g, k, he, hg, hk, h1, k1⟩ => ⟨g, k, he, h.add (t := rmodT g k (newM (clampS m))) ⟨by rw [gain_newM]; exact h1, fit_newM clampS_bd.1 clampS_bd.2⟩ k1 (fun i e => by rcases e with rfl | rfl <;> assumption)⟩
theorem rmodupd_is (e : updM x s tso = y) (ev : staC y = v) (h : RModAt w g k x) (hs : s.Fit) (ht : Num tso) (hc : x.r.c < 18446744073709551615) :
    Calls Tryz.prog 11 #[.pointer (some ⟨g, 0, none⟩), s.v, .int .u64 tso] w fun e w' => e = .returned (.agg v) ∧ RModAt w' g k y ∧ Keep (own2 g k) w w' := by
  refine (rmupd_any g k x (gainM x) s tso w h.m h.fit hs ht hc).mono fun e w' ⟨he, h1, k1⟩ => ?_
  have hf := h.fit.upd hs ht.1 hc
  rw [‹updM x s tso = y›] at he h1 hf
  rw [ev] at he
  exact ⟨he, ⟨h1, hf⟩, k1⟩
theorem Room.rmodupd (h : Room wB w (rmodT g k x :: L)) (e : updM x s tso = y) (ev : staC y = v) (hs : s.Fit) (ht : Num tso) (hc : x.r.c < 18446744073709551615) :
    Calls Tryz.prog 11 #[.pointer (some ⟨g, 0, none⟩), s.v, .int .u64 tso] w fun e w' => e = .returned (.agg v) ∧ Room wB w' (rmodT g k y :: L) :=
  (rmodupd_is e ev h.get0 hs ht hc).mono fun _ _ ⟨he, h1, k1⟩ => ⟨he, h.step0 (t' := rmodT g k y) h1 k1 own_same⟩
theorem Room.rmodupd1 (h : Room wB w (a :: rmodT g k x :: L)) (e : updM x s tso = y) (ev : staC y = v) (hs : s.Fit) (ht : Num tso) (hc : x.r.c < 18446744073709551615) :
    Calls Tryz.prog 11 #[.pointer (some ⟨g, 0, none⟩), s.v, .int .u64 tso] w fun e w' => e = .returned (.agg v) ∧ Room wB w' (a :: rmodT g k y :: L) :=
  (rmodupd_is e ev h.get1 hs ht hc).mono fun _ _ ⟨he, h1, k1⟩ => ⟨he, h.step1 (t' := rmodT g k y) h1 k1 own_same⟩
theorem rmodsta_is (e : staC x = v) (h : RModAt w g k x) : Calls Tryz.prog 8 #[.pointer (some ⟨g, 0, none⟩)] w fun e w' => e = .returned (.agg v) ∧ Keep (fun _ => False) w w' := by
  have := rstate_any g k x w h.m
  rw [e] at this
  exact this
theorem Room.rmodsta (h : Room wB w (rmodT g k x :: L)) (e : staC x = v) : Calls Tryz.prog 8 #[.pointer (some ⟨g, 0, none⟩)] w fun e w' => e = .returned (.agg v) ∧ Room wB w' (rmodT g k x :: L) :=
  (rmodsta_is e h.get0).mono fun _ _ ⟨he, k1⟩ => ⟨he, h.kept k1⟩
theorem Room.rmodsta1 (h : Room wB w (a :: rmodT g k x :: L)) (e : staC x = v) : Calls Tryz.prog 8 #[.pointer (some ⟨g, 0, none⟩)] w fun e w' => e = .returned (.agg v) ∧ Room wB w' (a :: rmodT g k x :: L) :=
  (rmodsta_is e h.get1).mono fun _ _ ⟨he, k1⟩ => ⟨he, h.kept k1⟩
end
end Go.Proofs.YtcjgpkjhfbamfaaGreat
set_option linter.unusedVariables false
namespace Go.Proofs.YtcjgpkjhfbamfaaGreat
open Go.RowKit
set_option maxRecDepth 100000
def playV (s : Spl) : Spl := ⟨s.n, s.d, s.p, s.i, s.r, s.a % 1099511627776, s.o % 1099511627776, s.f % 1099511627776, s.l⟩
theorem playV_fit {s : Spl} (h : s.Fit) : (playV s).Fit := by
  have h1 := h.a; have h2 := h.o; have h3 := h.f
  exact ⟨h.n, h.d, h.p, h.i, h.r, ⟨by show 0 ≤ s.a % _; omega, by show s.a % _ ≤ _; omega⟩, ⟨by show 0 ≤ s.o % _; omega, by show s.o % _ ≤ _; omega⟩, ⟨by show 0 ≤ s.f % _; omega, by show s.f % _ ≤ _; omega⟩⟩
set_option maxHeartbeats 2000000 in
theorem play_any (s : Spl) (w : World) (hs : s.Fit) : Calls Tryz.prog 9 #[s.v] w fun e w' => e = .returned (playV s).v ∧ Keep (fun _ => False) w w' := by
  obtain ⟨A, hA⟩ : ∃ A, s.a % 1099511627776 = A := ⟨_, rfl⟩
  obtain ⟨O, hO⟩ : ∃ A, s.o % 1099511627776 = A := ⟨_, rfl⟩
  obtain ⟨F, hF⟩ : ∃ A, s.f % 1099511627776 = A := ⟨_, rfl⟩
  have hp : playV s = ⟨s.n, s.d, s.p, s.i, s.r, A, O, F, s.l⟩ := by unfold playV; rw [hA, hO, hF]
  have hv : (playV s).v = .agg #[.int .u64 s.n, .int .u64 s.d, .int .u64 s.p, .int .u64 s.i, .int .u64 s.r, .int .u64 A, .int .u64 O, .int .u64 F, .bool s.l] := by rw [hp]
  have tA : s.a.tmod 1099511627776 = A := by rw [Int.tmod_eq_emod_of_nonneg hs.a.1]; exact hA
  have tO : s.o.tmod 1099511627776 = O := by rw [Int.tmod_eq_emod_of_nonneg hs.o.1]; exact hO
  have tF : s.f.tmod 1099511627776 = F := by rw [Int.tmod_eq_emod_of_nonneg hs.f.1]; exact hF
  have wA : IntKind.u64.wrap A = A := by have := hs.a.1; rw [IntKind.wrap_u64]; omega
  have wO : IntKind.u64.wrap O = O := by have := hs.o.1; rw [IntKind.wrap_u64]; omega
  have wF : IntKind.u64.wrap F = F := by have := hs.f.1; rw [IntKind.wrap_u64]; omega
  rw [hv]
  clear hp hv hA hO hF hs
  go_enter Tryz.func9, Tryz.ntmps9
  go_wp2
  refine bodyPost_ret (v := .agg #[.int .u64 s.n, .int .u64 s.d, .int .u64 s.p, .int .u64 s.i, .int .u64 s.r, .int .u64 A, .int .u64 O, .int .u64 F, .bool s.l]) (by rw [results_cell1 rfl]; go_simp) rfl ?_
  exact ⟨rfl, ((Keep.refl _ _).alloc _).alloc _⟩
theorem Room.play {wB w : World} {L : List Thing} {s t : Spl} (h : Room wB w L) (hs : s.Fit) (e : playV s = t) : Calls Tryz.prog 9 #[s.v] w fun e w' => e = .returned t.v ∧ Room wB w' L :=
  e ▸ (play_any s w hs).mono fun _ _ ⟨he, k⟩ => ⟨he, h.kept k⟩
end Go.Proofs.YtcjgpkjhfbamfaaGreat
namespace Go.Proofs.YtcjgpkjhfbamfaaGreat
open Go.ChangeShapes Go.WideShapes Go.ChangeAt Go.RowKit Go.Joins Go.Deep
set_option maxRecDepth 100000
section
variable {H : Type} {enc : TypeId × Value → H} {P : Program} {w : World} {base : Nat} {spare : TypeId → Bool} {held : Bool}
/-- One field of a struct. -/
theorem trod_field {t : TypeId} {fs : Array Field} {fuel : Nat} {cs : List Value} {x : DataW H × List MemPlace} (ht : P.underlying t = some (.struct fs)) (h : DataW.trod enc P w base spare held fuel t cs = some x) (i : Nat) (f : Field) (hf : fs[i]? = some f) :
    ∃ y n, DataW.trod enc P w base spare held n f.type ((cs.drop f.offset).take (P.cellsOf f.type)) = some y := by
  obtain ⟨xs, n, _, rfl, hl, hlen, hf'⟩ := DataW.trod_struct ht h
  have hi : i < fs.size := (Array.getElem?_eq_some_iff.1 hf).1
  exact ⟨xs[i]'(by omega), n, (hf' i f hf).trans (List.getElem?_eq_getElem (by omega))⟩
end
/-- The slice that begins at 'a' holds the elements l, sz cells each. -/
def RdL {α : Type} (sz : Nat) (cells : α → List Value) (w : World) (a : Option Addr) (l : List α) : Prop :=
  ∀ i v, l[i]? = some v → ∃ b off, a = some ⟨b, off, none⟩ ∧ b < w.heap.size ∧ ∀ j u, (cells v)[j]? = some u → w.cell? ⟨b, off + i * sz + j, none⟩ = some u
theorem RdL.below {α : Type} {sz : Nat} {cells : α → List Value} {w w' : World} {a : Option Addr} {l : List α} (h : RdL sz cells w a l) (hb : Below w.heap.size w w') : RdL sz cells w' a l := by
  intro i v hi
  obtain ⟨b, off, e, hlt, hc⟩ := h i v hi
  exact ⟨b, off, e, Nat.lt_of_lt_of_le hlt hb.size, fun j u hu => (hb.cell (p := ⟨b, _, none⟩) hlt).trans (hc j u hu)⟩
section
variable {H : Type} {enc : TypeId × Value → H} {W : World} {d : DataW H} {p : List MemPlace}
theorem open_rows {α : Type} (cells : α → List Value) {t e : TypeId} {sz : Nat} (hu : Tryz.prog.underlying t = some (.slice e)) (hsz : Tryz.prog.cellsOf e = sz) (hpos : ∀ v, (cells v).length = sz) (h0 : 0 < sz)
    (hopen : ∀ cs y n, cs.length = sz → DataW.trod enc Tryz.prog W 0 (fun _ => true) true n e cs = some y → ∃ v : α, cs = cells v)
    {a : Option Addr} {len cap : Nat} (h : DataW.Trod enc Tryz.prog W 0 (fun _ => true) true t (.slice a len cap) d p) : ∃ l : List α, l.length = len ∧ len ≤ 9223372036854775807 ∧ RdL sz cells W a l := by
  obtain ⟨fuel, hf⟩ := h
  rcases open_slice hu hf with ⟨hcs, _⟩ | ⟨x, l, c, m, n, D, Pl, hcs, hb, hl, hm, hmm, _, hel⟩
  · simp [Value.cells] at hcs
    obtain ⟨rfl, rfl, rfl⟩ := hcs
    exact ⟨[], rfl, by omega, fun i k hi => by simp at hi⟩
  · simp [Value.cells] at hcs
    obtain ⟨rfl, rfl, rfl⟩ := hcs
    have hml : len ≤ m := by rw [hmm]; simp; omega
    have hR : ∀ i, i < len → ∃ v : α, ∀ j u, (cells v)[j]? = some u → W.cell? (x.add (i * sz + j)) = some u := fun i hi => by
      obtain ⟨cs, hc, ht⟩ := hel i (by omega)
      rw [hsz] at hc
      obtain ⟨_, hlen, hat⟩ := World.cells?_some hc
      obtain ⟨v, rfl⟩ := hopen cs _ _ hlen ht
      refine ⟨v, fun j u hj => ?_⟩
      have hjl := (List.getElem?_eq_some_iff.1 hj).1
      have := hat j (by rw [← hlen]; exact hjl)
      rw [Go.Deep.add_add] at this
      rw [this]; exact hj
    obtain ⟨ds, hlen, hds⟩ := list_of len _ hR
    refine ⟨ds, hlen, by unfold maxLen at hm; omega, fun i k hi => ?_⟩
    have hi0 : 0 < ds.length := by have := (List.getElem?_eq_some_iff.1 hi).1; omega
    have hc0 : 0 < (cells ds[0]).length := by rw [hpos]; exact h0
    have h00 := hds 0 ds[0] (List.getElem?_eq_getElem hi0) 0 _ (List.getElem?_eq_getElem hc0)
    rw [Nat.zero_mul, Nat.zero_add, show x.add 0 = x by obtain ⟨b, off, spot⟩ := x; unfold Addr.add; cases spot <;> simp] at h00
    obtain ⟨b, off, rfl⟩ := addr_plain h00
    have hci : 0 < (cells k).length := by rw [hpos]; exact h0
    have h1 := hds i k hi 0 _ (List.getElem?_eq_getElem hci)
    rw [Go.WideShapes.add_plain] at h1
    exact ⟨b, off, rfl, lt_of_cell h1, fun j u hj => by have := hds i k hi j u hj; rw [Go.WideShapes.add_plain] at this; rw [Nat.add_assoc]; exact this⟩
end
end Go.Proofs.YtcjgpkjhfbamfaaGreat
namespace Go.Proofs.YtcjgpkjhfbamfaaGreat
open Go.ChangeShapes Go.WideShapes Go.ChangeAt Go.RowKit Go.Joins Go.Deep
set_option maxRecDepth 100000
set_option linter.unusedSimpArgs false

/-- A sample whose numbers are of their kind. -/
structure SplF where
  x : Spl
  fit : x.Fit
def cells9 (s : SplF) : List Value := [.int .u64 s.x.n, .int .u64 s.x.d, .int .u64 s.x.p, .int .u64 s.x.i, .int .u64 s.x.r, .int .u64 s.x.a, .int .u64 s.x.o, .int .u64 s.x.f, .bool s.x.l]
section
variable {H : Type} {enc : TypeId × Value → H} {W : World} {d : DataW H} {p : List MemPlace}
set_option maxRecDepth 100000 in
theorem open_spl {n : Nat} {cs : List Value} {y : DataW H × List MemPlace} (hl : cs.length = 9) (h : DataW.trod enc Tryz.prog W 0 (fun _ => true) true n 34 cs = some y) : ∃ s : SplF, cs = cells9 s := by
  have eu : Tryz.prog.cellsOf 22 = 1 := by kernel_rfl
  have eb : Tryz.prog.cellsOf 4 = 1 := by kernel_rfl
  match cs, hl with
  | [u0, u1, u2, u3, u4, u5, u6, u7, u8], _ =>
    obtain ⟨_, _, t0⟩ := trod_field Tryz.underlying34 h 0 _ rfl
    obtain ⟨_, _, t1⟩ := trod_field Tryz.underlying34 h 1 _ rfl
    obtain ⟨_, _, t2⟩ := trod_field Tryz.underlying34 h 2 _ rfl
    obtain ⟨_, _, t3⟩ := trod_field Tryz.underlying34 h 3 _ rfl
    obtain ⟨_, _, t4⟩ := trod_field Tryz.underlying34 h 4 _ rfl
    obtain ⟨_, _, t5⟩ := trod_field Tryz.underlying34 h 5 _ rfl
    obtain ⟨_, _, t6⟩ := trod_field Tryz.underlying34 h 6 _ rfl
    obtain ⟨_, _, t7⟩ := trod_field Tryz.underlying34 h 7 _ rfl
    obtain ⟨_, _, t8⟩ := trod_field Tryz.underlying34 h 8 _ rfl
    simp only [List.getElem_toArray, List.getElem_cons_zero, List.getElem_cons_succ, eu, eb, List.drop_zero, List.take_succ_cons, List.take_zero, List.drop_succ_cons] at t0 t1 t2 t3 t4 t5 t6 t7 t8
    obtain ⟨q0, f0, _, g0⟩ := DataW.trod_int Tryz.underlying22 t0
    obtain ⟨q1, f1, _, g1⟩ := DataW.trod_int Tryz.underlying22 t1
    obtain ⟨q2, f2, _, g2⟩ := DataW.trod_int Tryz.underlying22 t2
    obtain ⟨q3, f3, _, g3⟩ := DataW.trod_int Tryz.underlying22 t3
    obtain ⟨q4, f4, _, g4⟩ := DataW.trod_int Tryz.underlying22 t4
    obtain ⟨q5, f5, _, g5⟩ := DataW.trod_int Tryz.underlying22 t5
    obtain ⟨q6, f6, _, g6⟩ := DataW.trod_int Tryz.underlying22 t6
    obtain ⟨q7, f7, _, g7⟩ := DataW.trod_int Tryz.underlying22 t7
    obtain ⟨q8, f8, _⟩ := DataW.trod_bool Tryz.underlying4 t8
    simp at f0 f1 f2 f3 f4 f5 f6 f7 f8
    subst f0 f1 f2 f3 f4 f5 f6 f7 f8
    exact ⟨⟨⟨q0, q1, q2, q3, q4, q5, q6, q7, q8⟩, ⟨bounds_u64 g0, bounds_u64 g1, bounds_u64 g2, bounds_u64 g3, bounds_u64 g4, bounds_u64 g5, bounds_u64 g6, bounds_u64 g7⟩⟩, rfl⟩
set_option maxRecDepth 100000 in
theorem open_spls {a : Option Addr} {len cap : Nat} (h : DataW.Trod enc Tryz.prog W 0 (fun _ => true) true 23 (.slice a len cap) d p) : ∃ l : List SplF, l.length = len ∧ len ≤ 9223372036854775807 ∧ RdL 9 cells9 W a l :=
  open_rows cells9 Tryz.underlying23 (by kernel_rfl) (fun _ => rfl) (by decide) (fun cs y n hl h => open_spl hl h) h
end
end Go.Proofs.YtcjgpkjhfbamfaaGreat
namespace Go.Proofs.YtcjgpkjhfbamfaaGreat
open Go.ChangeShapes Go.WideShapes Go.ChangeAt Go.RowKit Go.Joins Go.Deep
set_option maxRecDepth 100000
set_option linter.unusedSimpArgs false
/-- A number of 64 bits. -/
structure NumU where
  x : Int
  num : Num x
def cellsU (u : NumU) : List Value := [.int .u64 u.x]
section
variable {H : Type} {enc : TypeId × Value → H} {W : World} {d : DataW H} {p : List MemPlace}
theorem open_uints {a : Option Addr} {len cap : Nat} (h : DataW.Trod enc Tryz.prog W 0 (fun _ => true) true 24 (.slice a len cap) d p) : ∃ l : List NumU, l.length = len ∧ len ≤ 9223372036854775807 ∧ RdL 1 cellsU W a l := by
  refine open_rows cellsU Tryz.underlying24 (by kernel_rfl) (fun _ => rfl) (by decide) (fun cs y n hl h => ?_) h
  match cs, hl with
  | [u0], _ =>
    obtain ⟨q0, f0, _, g0⟩ := DataW.trod_int Tryz.underlying22 h
    simp at f0
    subst f0
    exact ⟨⟨q0, bounds_u64 g0⟩, rfl⟩
end
end Go.Proofs.YtcjgpkjhfbamfaaGreat
