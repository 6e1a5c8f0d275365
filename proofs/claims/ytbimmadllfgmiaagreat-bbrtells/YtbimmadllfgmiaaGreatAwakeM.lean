/-
  canterlaw17.awake answers true; models among other things in memory: their calls leave the others. Conditions: numbers are of 64 bits; fewer than 2^64-1 rounds have begun.
-/
import Derived.Test.YtbimmadllfgmiaaGreatBbrUpd
import Derived.Test.YtbimmadllfgmiaaGreatBbrNew
import Derived.Test.YtbimmadllfgmiaaGreatRoom
import Derived.KernelRfl
set_option linter.unusedVariables false
namespace Go.Proofs.YtbimmadllfgmiaaGreat
open Go.RowKit
set_option maxRecDepth 100000

theorem Tryz.fieldM0 (v0 v1 v2 v3 v4 v5 v6 v7 v8 v9 : Value) (w : World) : (Instr.field 31 (.agg #[v0, v1, v2, v3, v4, v5, v6, v7, v8, v9]) 0).run Tryz.prog w = .ok v0 w := by kernel_rfl
theorem Tryz.fieldM1 (v0 v1 v2 v3 v4 v5 v6 v7 v8 v9 : Value) (w : World) : (Instr.field 31 (.agg #[v0, v1, v2, v3, v4, v5, v6, v7, v8, v9]) 1).run Tryz.prog w = .ok v1 w := by kernel_rfl
theorem Tryz.fieldM2 (v0 v1 v2 v3 v4 v5 v6 v7 v8 v9 : Value) (w : World) : (Instr.field 31 (.agg #[v0, v1, v2, v3, v4, v5, v6, v7, v8, v9]) 2).run Tryz.prog w = .ok v2 w := by kernel_rfl
theorem Tryz.fieldM3 (v0 v1 v2 v3 v4 v5 v6 v7 v8 v9 : Value) (w : World) : (Instr.field 31 (.agg #[v0, v1, v2, v3, v4, v5, v6, v7, v8, v9]) 3).run Tryz.prog w = .ok v3 w := by kernel_rfl
theorem Tryz.fieldM4 (v0 v1 v2 v3 v4 v5 v6 v7 v8 v9 : Value) (w : World) : (Instr.field 31 (.agg #[v0, v1, v2, v3, v4, v5, v6, v7, v8, v9]) 4).run Tryz.prog w = .ok v4 w := by kernel_rfl
theorem Tryz.fieldM5 (v0 v1 v2 v3 v4 v5 v6 v7 v8 v9 : Value) (w : World) : (Instr.field 31 (.agg #[v0, v1, v2, v3, v4, v5, v6, v7, v8, v9]) 5).run Tryz.prog w = .ok v5 w := by kernel_rfl
theorem Tryz.fieldM6 (v0 v1 v2 v3 v4 v5 v6 v7 v8 v9 : Value) (w : World) : (Instr.field 31 (.agg #[v0, v1, v2, v3, v4, v5, v6, v7, v8, v9]) 6).run Tryz.prog w = .ok v6 w := by kernel_rfl
theorem Tryz.fieldM7 (v0 v1 v2 v3 v4 v5 v6 v7 v8 v9 : Value) (w : World) : (Instr.field 31 (.agg #[v0, v1, v2, v3, v4, v5, v6, v7, v8, v9]) 7).run Tryz.prog w = .ok v7 w := by kernel_rfl
theorem Tryz.fieldM8 (v0 v1 v2 v3 v4 v5 v6 v7 v8 v9 : Value) (w : World) : (Instr.field 31 (.agg #[v0, v1, v2, v3, v4, v5, v6, v7, v8, v9]) 8).run Tryz.prog w = .ok v8 w := by kernel_rfl
theorem Tryz.fieldM9 (v0 v1 v2 v3 v4 v5 v6 v7 v8 v9 : Value) (w : World) : (Instr.field 31 (.agg #[v0, v1, v2, v3, v4, v5, v6, v7, v8, v9]) 9).run Tryz.prog w = .ok v9 w := by kernel_rfl
abbrev soloF : Fr := ⟨69, [], []⟩
/-- A model in a block of its own. -/
structure ModAt (w : World) (g : Nat) (x : Mdl) : Prop where
  m : MdlAt soloF 0 w g x
  fit : x.Fit
theorem ModAt.keep {w w' : World} {g : Nat} {x : Mdl} {R : Nat → Prop} (h : ModAt w g x) (hk : Keep R w w') (hg : ¬ R g) : ModAt w' g x := ⟨h.m.keep hk hg, h.fit⟩
theorem ModAt.lt {w : World} {g : Nat} {x : Mdl} (h : ModAt w g x) : g < w.heap.size := h.m.lt
theorem modnew_any (m : Int) (w : World) (hm : Num m) : Calls Tryz.prog 4 #[.int .u64 m] w fun e w' => ∃ g, e = .returned (.pointer (some ⟨g, 0, none⟩)) ∧ w.heap.size ≤ g ∧ ModAt w' g (newM (clampS m)) ∧ Keep (fun _ => False) w w' :=
  (mnew_any m w hm).mono fun _ _ ⟨g, he, hl, h1, k1⟩ => ⟨g, he, hl, ⟨h1, fit_newM clampS_bd.1 clampS_bd.2⟩, k1⟩
theorem modupd_any (g : Nat) (x : Mdl) (s : Spl) (tso : Int) (w : World) (h : ModAt w g x) (hs : s.Fit) (ht : Num tso) (hc : x.r.c < 18446744073709551615) :
    Calls Tryz.prog 10 #[.pointer (some ⟨g, 0, none⟩), s.v, .int .u64 tso] w fun e w' => e = .returned (.agg (staC (updM x s tso))) ∧ ModAt w' g (updM x s tso) ∧ Keep (fun k => k = g) w w' :=
  (update_any g x s tso w h.m h.fit hs ht hc).mono fun _ _ ⟨he, h1, k1⟩ => ⟨he, ⟨h1, h.fit.upd hs ht.1 hc⟩, k1⟩
theorem modupd_is {x y : Mdl} {s : Spl} {tso : Int} {v : Array Value} (e : updM x s tso = y) (ev : staC y = v) (g : Nat) (w : World) (h : ModAt w g x) (hs : s.Fit) (ht : Num tso) (hc : x.r.c < 18446744073709551615) :
    Calls Tryz.prog 10 #[.pointer (some ⟨g, 0, none⟩), s.v, .int .u64 tso] w fun e w' => e = .returned (.agg v) ∧ ModAt w' g y ∧ Keep (fun k => k = g) w w' := by
  have := modupd_any g x s tso w h hs ht hc
  rw [e, ev] at this
  exact this
theorem modsta_is {x : Mdl} {v : Array Value} (e : staC x = v) (g : Nat) (w : World) (h : ModAt w g x) : Calls Tryz.prog 7 #[.pointer (some ⟨g, 0, none⟩)] w fun e w' => e = .returned (.agg v) ∧ Keep (fun _ => False) w w' := by
  have := state_any g x w h.m h.fit
  rw [e] at this
  exact this
def modT (g : Nat) (x : Mdl) : Thing := ⟨fun w => ModAt w g x, fun k => k = g, fun h hk hs => h.keep hk (hs g rfl), fun h e => e ▸ h.lt⟩
section
variable {wB w : World} {L : List Thing} {g : Nat} {x y : Mdl} {s : Spl} {m tso : Int} {v : Array Value}
theorem Room.modnew (h : Room wB w L) (hm : Num m) : Calls Tryz.prog 4 #[.int .u64 m] w fun e w' => ∃ g, e = .returned (.pointer (some ⟨g, 0, none⟩)) ∧ Room wB w' (modT g (newM (clampS m)) :: L) :=
  (modnew_any m w hm).mono fun _ _ ⟨g, he, hl, h1, k1⟩ => ⟨g, he, h.add (t := modT g (newM (clampS m))) h1 k1 (fun k e => by subst e; exact hl)⟩
theorem Room.modupd (h : Room wB w (modT g x :: L)) (e : updM x s tso = y) (ev : staC y = v) (hs : s.Fit) (ht : Num tso) (hc : x.r.c < 18446744073709551615) :
    Calls Tryz.prog 10 #[.pointer (some ⟨g, 0, none⟩), s.v, .int .u64 tso] w fun e w' => e = .returned (.agg v) ∧ Room wB w' (modT g y :: L) :=
  (modupd_is e ev g w h.get0 hs ht hc).mono fun _ _ ⟨he, h1, k1⟩ => ⟨he, h.step0 (t' := modT g y) h1 k1 own_same⟩
theorem Room.modsta (h : Room wB w (modT g x :: L)) (e : staC x = v) : Calls Tryz.prog 7 #[.pointer (some ⟨g, 0, none⟩)] w fun e w' => e = .returned (.agg v) ∧ Room wB w' (modT g x :: L) :=
  (modsta_is e g w h.get0).mono fun _ _ ⟨he, k1⟩ => ⟨he, h.kept k1⟩
end
abbrev awmS : Spl := ⟨1000, 1000, 0, 1000, 1000, 1000, 0, 0, false⟩
theorem awm_fit : awmS.Fit := ⟨⟨by decide, by decide⟩, ⟨by decide, by decide⟩, ⟨by decide, by decide⟩, ⟨by decide, by decide⟩, ⟨by decide, by decide⟩, ⟨by decide, by decide⟩, ⟨by decide, by decide⟩, ⟨by decide, by decide⟩⟩
theorem awm1 : staC (newM (clampS 1000)) = #[.int .i64 0, .int .i64 0, .int .u64 28867187, .int .u64 10000, .int .u64 0, .int .u64 0, .int .u64 739, .int .u64 0, .bool false, .bool false] := by kernel_rfl
theorem awm2 : staC (updM (newM (clampS 1000)) awmS 2000) = #[.int .i64 0, .int .i64 0, .int .u64 2886718750, .int .u64 11000, .int .u64 1000000000, .int .u64 1000, .int .u64 739, .int .u64 1, .bool false, .bool false] := by kernel_rfl
set_option maxHeartbeats 1000000 in
set_option maxRecDepth 100000 in
theorem awakem_any (w : World) : Calls Tryz.prog 6 #[] w fun e w' => e = .returned (.bool true) ∧ Keep (fun _ => False) w w' := by
  have hf3 := Tryz.fieldM3
  have hf6 := Tryz.fieldM6
  go_enter Tryz.func6, Tryz.ntmps6
  go_wp2_with fail
  refine (modnew_any _ _ ⟨by decide, by decide⟩).mono ?_
  rintro e w1 ⟨g, rfl, hl, h1, k1⟩
  have H1 := Lib.hid h1; have K1 := Lib.hid k1; have HL := Lib.hid hl; clear h1 k1 hl
  go_wp2_with fail
  refine (modsta_is awm1 _ _ H1.out).mono ?_
  rintro e w2 ⟨rfl, k2⟩
  have H2 := Lib.hid (H1.out.keep k2 id); have K2 := Lib.hid (K1.out.trans k2); clear k2 H1 K1
  go_wp2_with fail
  refine (modsta_is awm1 _ _ H2.out).mono ?_
  rintro e w3 ⟨rfl, k3⟩
  have H3 := Lib.hid (H2.out.keep k3 id); have K3 := Lib.hid (K2.out.trans k3); clear k3 H2 K2
  go_wp2_with fail
  refine (modupd_is rfl awm2 _ _ H3.out awm_fit ⟨by decide, by decide⟩ (by decide)).mono ?_
  rintro e w4 ⟨rfl, h4, k4⟩
  have K4 := Lib.hid (K3.out.then k4 (fun i e hlt => by have := HL.out; omega)); clear h4 k4 H3 K3
  go_wp2
  go_ret
  exact ⟨rfl, K4.out.alloc _⟩
theorem Room.awakem {wB w : World} {L : List Thing} (h : Room wB w L) : Calls Tryz.prog 6 #[] w fun e w' => e = .returned (.bool true) ∧ Room wB w' L := (awakem_any w).mono fun _ _ ⟨he, k⟩ => ⟨he, h.kept k⟩
end Go.Proofs.YtbimmadllfgmiaaGreat
