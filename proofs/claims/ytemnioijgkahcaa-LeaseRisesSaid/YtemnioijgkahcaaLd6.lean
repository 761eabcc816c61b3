/-
  Package lease: Holds, notOf; what a turning call leaves. No condition.
-/
import Derived.Test.YtemnioijgkahcaaLd5
namespace Go.Proofs.Ytemnioijgkahcaa
open Go.RowKit Go.Deep Go.Maps

set_option maxHeartbeats 1600000 in
theorem lsholds_by (W : World) (p : Value) (k : ByteArray) (a b c : Int) (f : Bool) (CG : Calls Try.prog 15 #[p, .string k] W (fun e w' => e = .returned (.tuple #[leV a b c, .bool f]) ∧ Below W.heap.size W w')) (ho ep now : Int) {z : Bool} (hz : z = true ↔ (a = ho ∧ b = ep) ∧ (c ≠ 0 ∧ now < c)) :
    Calls Try.prog 16 #[p, .string k, .int .i64 ho, .int .i64 ep, .int .i64 now] W (fun e w' => e = .returned (.bool z) ∧ Below W.heap.size W w') := by
  have CG := Lib.hid CG
  by_cases h1 : a = ho ∧ b = ep
  · have C1 := Lib.hid (fun W => lsof_any W a b c ho ep (x := true) (by simp [h1]))
    have C2 := Lib.hid (fun W => lsheld_any W a b c now (x := z) (by rw [hz]; simp [h1]))
    clear hz h1
    unfold leV at *
    go_enter Try.func16, Try.ntmps16
    go_upto_region 2 with (go_at_call 15; (with_reducible refine CG.out.mono ?_); rintro e w1 ⟨rfl, hb⟩; have B1 := Lib.hid hb; clear hb)
    have B2 := Lib.hid (B1.out.alloc (by have := B1.out.size; omega) (.cells #[.int .i64 a, .int .i64 b, .int .i64 c] 36))
    have R2 := Lib.hid (heap_alloc_new w1 (.cells #[.int .i64 a, .int .i64 b, .int .i64 c] 36))
    obtain ⟨g, hg⟩ : ∃ g, g = w1.heap.size := ⟨_, rfl⟩
    rw [← hg] at R2 ⊢
    generalize w1.alloc (.cells #[.int .i64 a, .int .i64 b, .int .i64 c] 36) = w2 at *
    have d0 := LsCells.c0 R2.out
    have d1 := LsCells.c1 R2.out
    have d2 := LsCells.c2 R2.out
    have HG := Lib.hid hg
    clear hg
    go_wp2_with (first
      | (go_at_call 29; (with_reducible refine (C1.out _).mono ?_); rintro e w3 ⟨rfl, hb⟩; have B3 := Lib.hid (B2.out.trans (hb.mono B2.out.size)); have R3 := blk_on R2.out hb; have e0 := LsCells.c0 R3; have e1 := LsCells.c1 R3; have e2 := LsCells.c2 R3; clear hb R3)
      | (go_at_call 26; (with_reducible refine (C2.out _).mono ?_); rintro e w4 ⟨rfl, hb⟩; have B4 := Lib.hid (B3.out.trans (hb.mono B3.out.size)); clear hb))
    go_ret
    exact ⟨rfl, B4.out⟩
  · have C1 := Lib.hid (fun W => lsof_any W a b c ho ep (x := false) (by simpa using h1))
    obtain rfl : z = false := by rw [Bool.eq_false_iff]; intro h; exact h1 (hz.1 h).1
    clear hz h1
    unfold leV at *
    go_enter Try.func16, Try.ntmps16
    go_upto_region 2 with (go_at_call 15; (with_reducible refine CG.out.mono ?_); rintro e w1 ⟨rfl, hb⟩; have B1 := Lib.hid hb; clear hb)
    have B2 := Lib.hid (B1.out.alloc (by have := B1.out.size; omega) (.cells #[.int .i64 a, .int .i64 b, .int .i64 c] 36))
    have R2 := Lib.hid (heap_alloc_new w1 (.cells #[.int .i64 a, .int .i64 b, .int .i64 c] 36))
    obtain ⟨g, hg⟩ : ∃ g, g = w1.heap.size := ⟨_, rfl⟩
    rw [← hg] at R2 ⊢
    generalize w1.alloc (.cells #[.int .i64 a, .int .i64 b, .int .i64 c] 36) = w2 at *
    have d0 := LsCells.c0 R2.out
    have d1 := LsCells.c1 R2.out
    have d2 := LsCells.c2 R2.out
    have HG := Lib.hid hg
    clear hg
    go_wp2_with (go_at_call 29; (with_reducible refine (C1.out _).mono ?_); rintro e w3 ⟨rfl, hb⟩; have B3 := Lib.hid (B2.out.trans (hb.mono B2.out.size)); clear hb)
    go_ret
    exact ⟨rfl, B3.out⟩
theorem lsholds_some (W : World) (q : Nat) (mo : Option Nat) (s : Ls.St) (h : LsIs W q mo s) (k : ByteArray) (hk : k.size ≤ maxLen) (ho ep now : Int) {z : Bool} (hz : z = true ↔ Ls.Holds s k ho ep now) :
    Calls Try.prog 16 #[.pointer (some ⟨q, 0, none⟩), .string k, .int .i64 ho, .int .i64 ep, .int .i64 now] W (fun e w' => e = .returned (.bool z) ∧ Below W.heap.size W w') :=
  lsholds_by W _ k _ _ _ _ (lsget_some W q mo s h k hk) ho ep now (hz.trans (Ls.holds_is h.good k ho ep now))
open Classical in
/-- Why a name isn't the holder's in that epoch. -/
noncomputable def Ls.notE (s : Ls.St) (k : ByteArray) (h ep : Int) : Nat := match Ls.find s.l k with
  | none => 5
  | some e => if Ls.Other e h ep then 8 else 0
open Classical in
theorem Ls.notE_is {s : Ls.St} {k : ByteArray} {h ep : Int} {f x : Bool} (hf : (Ls.find s.l k).isSome = f) (hx : x = true ↔ Ls.holderOf s.l k = h ∧ Ls.epochOf s.l k = ep) : Ls.notE s k h ep = if f then (if x then 0 else 8) else 5 := by
  unfold Ls.notE Ls.holderOf Ls.epochOf at *
  cases he : Ls.find s.l k with
  | none => rw [he] at hf; subst hf; rfl
  | some e =>
    rw [he] at hf hx
    subst hf
    show (if Ls.Other e h ep then 8 else 0) = if x then 0 else 8
    unfold Ls.Other
    by_cases h1 : e.holder = h ∧ e.epoch = ep
    · rw [if_neg (by omega), if_pos (hx.2 h1)]
    · rw [if_pos (by omega), if_neg (fun h => h1 (hx.1 h))]
set_option maxHeartbeats 1600000 in
theorem lsnot_any (W : World) (q : Nat) (mo : Option Nat) (s : Ls.St) (h : LsIs W q mo s) (k : ByteArray) (hk : k.size ≤ maxLen) (ho ep : Int) :
    Calls Try.prog 25 #[.pointer (some ⟨q, 0, none⟩), .string k, .int .i64 ho, .int .i64 ep] W (fun e w' => e = .returned (.int .i64 (Ls.notE s k ho ep : Nat)) ∧ Below W.heap.size W w') := by
  have CG := Lib.hid (lsget_some W q mo s h k hk)
  obtain ⟨x, hx⟩ : ∃ x : Bool, x = true ↔ Ls.holderOf s.l k = ho ∧ Ls.epochOf s.l k = ep := ⟨decide _, decide_eq_true_iff⟩
  have EN := Lib.hid (Ls.notE_is (f := (Ls.find s.l k).isSome) rfl hx)
  unfold LGet lval at CG
  rw [EN.out]
  clear EN
  generalize (Ls.find s.l k).isSome = f at *
  generalize Ls.holderOf s.l k = a at *
  generalize Ls.epochOf s.l k = b at *
  generalize Ls.tillOf s.l k = c at *
  have C1 := Lib.hid (fun W => lsof_any W a b c ho ep hx)
  clear h hk hx
  unfold leV at *
  cases f with
  | false =>
    go_enter Try.func25, Try.ntmps25
    go_upto_region 2 with (go_at_call 15; (with_reducible refine CG.out.mono ?_); rintro e w1 ⟨rfl, hb⟩; have B1 := Lib.hid hb; clear hb)
    have B2 := Lib.hid (B1.out.alloc (by have := B1.out.size; omega) (.cells #[.int .i64 a, .int .i64 b, .int .i64 c] 36))
    go_wp2_with fail
    go_ret
    exact ⟨rfl, B2.out⟩
  | true =>
    cases x with
    | false =>
      go_enter Try.func25, Try.ntmps25
      go_upto_region 2 with (go_at_call 15; (with_reducible refine CG.out.mono ?_); rintro e w1 ⟨rfl, hb⟩; have B1 := Lib.hid hb; clear hb)
      have B2 := Lib.hid (B1.out.alloc (by have := B1.out.size; omega) (.cells #[.int .i64 a, .int .i64 b, .int .i64 c] 36))
      go_wp2_with (go_at_call 29; (with_reducible refine (C1.out _).mono ?_); rintro e w3 ⟨rfl, hb⟩; have B3 := Lib.hid (B2.out.trans (hb.mono B2.out.size)); clear hb)
      go_ret
      exact ⟨rfl, B3.out⟩
    | true =>
      go_enter Try.func25, Try.ntmps25
      go_upto_region 2 with (go_at_call 15; (with_reducible refine CG.out.mono ?_); rintro e w1 ⟨rfl, hb⟩; have B1 := Lib.hid hb; clear hb)
      have B2 := Lib.hid (B1.out.alloc (by have := B1.out.size; omega) (.cells #[.int .i64 a, .int .i64 b, .int .i64 c] 36))
      go_wp2_with (go_at_call 29; (with_reducible refine (C1.out _).mono ?_); rintro e w3 ⟨rfl, hb⟩; have B3 := Lib.hid (B2.out.trans (hb.mono B2.out.size)); clear hb)
      go_ret
      exact ⟨rfl, B3.out⟩
/-! What a turning call leaves. -/
structure LsX (W : World) (X : Nat → Prop) (q : Nat) (mo : Option Nat) : Prop where
  q : X q
  m : ∀ m, mo = some m → X m
  lt : ∀ i, X i → i < W.heap.size
theorem ls_stay {W w' : World} {X : Nat → Prop} {q : Nat} {mo : Option Nat} {s : Ls.St} (hx : LsX W X q mo) (h : LsIs W q mo s) (hb : Below W.heap.size W w') (v : Value) : LTurn LsP X q s v W (.returned v) w' :=
  ⟨X, rfl, ⟨mo, h.on hb, hx.q, hx.m, fun i hi => Nat.lt_of_lt_of_le (hx.lt i hi) hb.size⟩, fun _ hi => .inl hi, Kept.of_below hb⟩
theorem ls_turn {W W1 w' : World} {X : Nat → Prop} {q : Nat} {mo mo' : Option Nat} {s' : Ls.St} (hx : LsX W X q mo) (hb : Below W.heap.size W W1) (h : LsIs w' q mo' s') (hk : Kept (fun i => i = q ∨ mo = some i) W1 w') (hm : ∀ m, mo' = some m → mo = some m ∨ W1.heap.size ≤ m) (v : Value) : LTurn LsP X q s' v W (.returned v) w' := by
  have hk2 : Kept (fun i => i = q ∨ mo = some i) W w' := (Kept.of_below (F := fun i => i = q ∨ mo = some i) hb).trans hk fun _ _ h => h
  refine ⟨fun i => X i ∨ mo' = some i, rfl, ⟨mo', h, .inl hx.q, fun m e => .inr e, fun i hi => ?_⟩, fun i hi => ?_, hk2.more fun i _ hi => ?_⟩
  · rcases hi with hi | rfl
    · exact Nat.lt_of_lt_of_le (hx.lt i hi) hk2.size
    · exact MapW.Opt.lt h.map
  · rcases hi with hi | hi
    · exact .inl hi
    · rcases hm i hi with h1 | h1
      · exact .inl (hx.m i h1)
      · exact .inr (Nat.le_trans hb.size h1)
  · rcases hi with rfl | hi
    · exact hx.q
    · exact hx.m i hi
end Go.Proofs.Ytemnioijgkahcaa
