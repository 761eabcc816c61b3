/-
  Tables of one name; lives of layer 9, and the walks of LeaseMargin and LeaseNil, over any table that keeps the contracts. No condition.
-/
import Derived.Test.YtemnioijgkahcaaLsLaw1
namespace Go.Proofs.Ytemnioijgkahcaa
open Go.RowKit Go.Deep

namespace Ls
def one (k : ByteArray) (h ep t m : Int) : St := ⟨m, [⟨k, h, ep, t, false⟩]⟩
theorem one_find (k : ByteArray) (h ep t m : Int) : find (one k h ep t m).l k = some ⟨k, h, ep, t, false⟩ := by
  unfold one
  rw [find_cons, if_pos rfl]
theorem one_free {k : ByteArray} {h ep t m now : Int} : Free (one k h ep t m) k now ↔ late t m ≤ now := by
  unfold Free
  rw [one_find]
  constructor
  · intro h2
    rcases h2 _ rfl with h3 | h3
    · cases h3
    · exact h3
  · intro h2 e he
    obtain rfl := Option.some.inj he
    exact .inr h2
theorem one_holds {k : ByteArray} {h ep t m h' ep' now : Int} : Holds (one k h ep t m) k h' ep' now ↔ h = h' ∧ ep = ep' ∧ now < t := by
  unfold Holds
  rw [one_find]
  constructor
  · rintro ⟨e, he, _, h1, h2, h3⟩
    obtain rfl := Option.some.inj he
    exact ⟨h1, h2, h3⟩
  · rintro ⟨h1, h2, h3⟩
    exact ⟨_, rfl, rfl, h1, h2, h3⟩
theorem take_none {k : ByteArray} {h now ttl m : Int} (hr : Right k h now ttl) : takeE ⟨m, []⟩ k h now ttl = 0 ∧ takeS ⟨m, []⟩ k h now ttl = one k h 1 (late now ttl) m ∧ takeN ⟨m, []⟩ k h now ttl = 1 := by
  have e : takeE ⟨m, []⟩ k h now ttl = 0 := by
    unfold takeE
    rw [if_neg (fun h => h hr), if_neg (fun h => h (fun e he => by cases he))]
  refine ⟨e, ?_, ?_⟩
  · unfold takeS; rw [if_pos e]; rfl
  · unfold takeN; rw [if_pos e]; rfl
theorem take_held {k : ByteArray} {h ep t m h' now ttl : Int} (hr : Right k h' now ttl) (hn : now < late t m) : takeE (one k h ep t m) k h' now ttl = 9 ∧ takeS (one k h ep t m) k h' now ttl = one k h ep t m ∧ takeN (one k h ep t m) k h' now ttl = 0 := by
  have e : takeE (one k h ep t m) k h' now ttl = 9 := by
    unfold takeE
    rw [if_neg (fun h => h hr), if_pos (fun h => by have := one_free.1 h; omega)]
  refine ⟨e, ?_, ?_⟩
  · unfold takeS; rw [if_neg (by rw [e]; omega)]
  · unfold takeN; rw [if_neg (by rw [e]; omega)]
theorem take_free {k : ByteArray} {h ep t m h' now ttl : Int} (hr : Right k h' now ttl) (hn : late t m ≤ now) : takeE (one k h ep t m) k h' now ttl = 0 ∧ takeS (one k h ep t m) k h' now ttl = one k h' (ep + 1) (late now ttl) m ∧ takeN (one k h ep t m) k h' now ttl = ep + 1 := by
  have e : takeE (one k h ep t m) k h' now ttl = 0 := by
    unfold takeE
    rw [if_neg (fun h => h hr), if_neg (fun h => h (one_free.2 hn))]
  have e2 : epochOf (one k h ep t m).l k = ep := by unfold epochOf; rw [one_find]
  refine ⟨e, ?_, ?_⟩
  · unfold takeS
    rw [if_pos e]
    unfold taken
    rw [e2]
    show St.mk m (put [⟨k, h, ep, t, false⟩] _) = _
    unfold put
    rw [dropK_cons, if_pos rfl]
    rfl
  · unfold takeN; rw [if_pos e, e2]
end Ls
section
variable {L : LPred} {w0 : World} {F : Nat → Prop} {k : ByteArray} {h ep t m h' ep' now ttl : Int}
theorem few_one (hs : ep ≤ 1000000) : Ls.Few (Ls.one k h ep t m) 1000000 := ⟨fun e he => by
  unfold Ls.one at he
  simp at he
  subst he
  exact hs, by show 1 ≤ 1000000; omega⟩
theorem l1_first (hC : LC L) (hr : Ls.Right k h now ttl) {T : Int} (hT : T = Ls.late now ttl) (q : Nat) (W : World) (hl : LAt L w0 F q ⟨m, []⟩ W) :
    Calls Try.prog 12 #[.pointer (some ⟨q, 0, none⟩), .string k, .int .i64 h, .int .i64 now, .int .i64 ttl] W (LRes L w0 F q (Ls.one k h 1 T m) (.tuple #[.int .i64 1, .int .i64 0]) W) := by
  obtain ⟨r1, r2, r3, r4, r5, r6, r7⟩ := id hr
  have h5 := r5.1
  have h6 := r5.2
  have := lat_take hC hl (k := k) (ho := h) (now := now) (ttl := ttl) ⟨fun e he => (by cases he), by show 0 ≤ 1000000; omega⟩ (by unfold maxLen; omega) ⟨by omega, by omega⟩ ⟨by omega, by omega⟩ ⟨by omega, by omega⟩
  have P := Ls.take_none (m := m) hr
  rw [P.1, P.2.1, P.2.2, ← hT] at this
  exact this
theorem l1_held (hC : LC L) (hr : Ls.Right k h' now ttl) (hn : now < Ls.late t m) (hs : ep ≤ 1000000) (q : Nat) (W : World) (hl : LAt L w0 F q (Ls.one k h ep t m) W) :
    Calls Try.prog 12 #[.pointer (some ⟨q, 0, none⟩), .string k, .int .i64 h', .int .i64 now, .int .i64 ttl] W (LRes L w0 F q (Ls.one k h ep t m) (.tuple #[.int .i64 0, .int .i64 9]) W) := by
  obtain ⟨r1, r2, r3, r4, r5, r6, r7⟩ := id hr
  have h5 := r5.1
  have h6 := r5.2
  have := lat_take hC hl (k := k) (ho := h') (now := now) (ttl := ttl) (few_one hs) (by unfold maxLen; omega) ⟨by omega, by omega⟩ ⟨by omega, by omega⟩ ⟨by omega, by omega⟩
  have P := Ls.take_held (h := h) (ep := ep) hr hn
  rw [P.1, P.2.1, P.2.2] at this
  exact this
theorem l1_free (hC : LC L) (hr : Ls.Right k h' now ttl) (hn : Ls.late t m ≤ now) (hs : ep ≤ 1000000) {E T : Int} (hE : E = ep + 1) (hT : T = Ls.late now ttl) (q : Nat) (W : World) (hl : LAt L w0 F q (Ls.one k h ep t m) W) :
    Calls Try.prog 12 #[.pointer (some ⟨q, 0, none⟩), .string k, .int .i64 h', .int .i64 now, .int .i64 ttl] W (LRes L w0 F q (Ls.one k h' E T m) (.tuple #[.int .i64 E, .int .i64 0]) W) := by
  obtain ⟨r1, r2, r3, r4, r5, r6, r7⟩ := id hr
  have h5 := r5.1
  have h6 := r5.2
  have := lat_take hC hl (k := k) (ho := h') (now := now) (ttl := ttl) (few_one hs) (by unfold maxLen; omega) ⟨by omega, by omega⟩ ⟨by omega, by omega⟩ ⟨by omega, by omega⟩
  have P := Ls.take_free (h := h) (ep := ep) hr hn
  rw [P.1, P.2.1, P.2.2, ← hE, ← hT] at this
  exact this
theorem l1_holds (hC : LC L) {x : Bool} (hx : x = true ↔ h = h' ∧ ep = ep' ∧ now < t) (hk : k.size ≤ maxLen) (i1 : l64In h') (i2 : l64In ep') (i3 : l64In now) (q : Nat) (W : World) (hl : LAt L w0 F q (Ls.one k h ep t m) W) :
    Calls Try.prog 16 #[.pointer (some ⟨q, 0, none⟩), .string k, .int .i64 h', .int .i64 ep', .int .i64 now] W (fun e w' => e = .returned (.bool x) ∧ Below W.heap.size W w') :=
  (lat_holds hC hl hk i1 i2 i3).mono fun _ _ ⟨⟨y, e1, e2⟩, e3⟩ => ⟨by rw [e1, Bool.eq_iff_iff.2 (e2.trans (Ls.one_holds.trans hx.symm))], e3⟩
theorem l1_freeB (hC : LC L) {x : Bool} (hx : x = true ↔ Ls.late t m ≤ now) (hk : k.size ≤ maxLen) (i3 : l64In now) (q : Nat) (W : World) (hl : LAt L w0 F q (Ls.one k h ep t m) W) :
    Calls Try.prog 17 #[.pointer (some ⟨q, 0, none⟩), .string k, .int .i64 now] W (fun e w' => e = .returned (.bool x) ∧ Below W.heap.size W w') :=
  (lat_free hC hl hk i3).mono fun _ _ ⟨⟨y, e1, e2⟩, e3⟩ => ⟨by rw [e1, Bool.eq_iff_iff.2 (e2.trans (Ls.one_free.trans hx.symm))], e3⟩
end
set_option maxHeartbeats 3200000 in
theorem llives_any {L : LPred} (hC : LC L) (w : World) :
    Calls Try.prog 8 #[] w fun e w' => e = .returned (.bool true) ∧ Below w.heap.size w w' := by
  obtain ⟨x, hx⟩ : ∃ x : ByteArray, x = ⟨#[120]⟩ := ⟨_, rfl⟩
  have sx : x.size = 1 := by rw [hx]; rfl
  have RR : ∀ h now, 0 ≤ h → h ≤ 63 → 0 ≤ now → now ≤ 1000 → Ls.Right x h now 10 := fun h now h1 h2 h3 h4 => ⟨by omega, by omega, h1, h2, ⟨h3, by omega⟩, by omega, by omega⟩
  have hs : x.size ≤ maxLen := by unfold maxLen; omega
  have N1 := Lib.hid (lat_make (F := fun _ => False) (w0 := w) (W := w) hC (m := 5) ⟨by omega, by omega⟩ (Below.refl _ _) (fun b hb => by cases hb))
  have hm : Ls.new 5 = ⟨5, []⟩ := by unfold Ls.new; rfl
  rw [hm] at N1
  have C1 := Lib.hid (l1_first (w0 := w) (F := fun _ => False) (m := 5) hC (RR 1 0 (by omega) (by omega) (by omega) (by omega)) (T := 10) (by unfold Ls.late; omega))
  have C2 := Lib.hid (l1_held (w0 := w) (F := fun _ => False) (h := 1) (ep := 1) (t := 10) (m := 5) hC (RR 2 14 (by omega) (by omega) (by omega) (by omega)) (by unfold Ls.late; omega) (by omega))
  have C3 := Lib.hid (l1_holds (w0 := w) (F := fun _ => False) (k := x) (h := 1) (ep := 1) (t := 10) (m := 5) (h' := 1) (ep' := 1) (now := 9) (x := true) hC (by simp) hs ⟨by omega, by omega⟩ ⟨by omega, by omega⟩ ⟨by omega, by omega⟩)
  have C4 := Lib.hid (l1_holds (w0 := w) (F := fun _ => False) (k := x) (h := 1) (ep := 1) (t := 10) (m := 5) (h' := 1) (ep' := 1) (now := 10) (x := false) hC (by simp) hs ⟨by omega, by omega⟩ ⟨by omega, by omega⟩ ⟨by omega, by omega⟩)
  have C5 := Lib.hid (l1_free (w0 := w) (F := fun _ => False) (h := 1) (ep := 1) (t := 10) (m := 5) hC (RR 2 15 (by omega) (by omega) (by omega) (by omega)) (by unfold Ls.late; omega) (by omega) (E := 2) (T := 25) (by omega) (by unfold Ls.late; omega))
  rw [hx] at C1 C2 C3 C4 C5
  clear RR hs sx hx hm
  go_enter Try.func8, Try.ntmps8
  go_upto_region 2 with (go_at_call 9; (with_reducible refine N1.out.mono ?_); rintro e w1 ⟨q, rfl, hk1, _⟩; have K1 := Lib.hid hk1; clear hk1)
  go_upto_region 3 with (go_at_call 12; (with_reducible refine (C1.out _ _ K1.out).mono ?_); rintro e w2 ⟨rfl, hk2, _⟩; have K2 := Lib.hid hk2; clear hk2)
  go_upto_region 4 with (go_at_call 12; (with_reducible refine (C2.out _ _ K2.out).mono ?_); rintro e w3 ⟨rfl, hk3, _⟩; have K3 := Lib.hid hk3; clear hk3)
  go_upto_region 5 with (go_at_call 16; first
    | ((with_reducible refine (C4.out _ _ K4.out).mono ?_); rintro e w5 ⟨rfl, hb5⟩; have K5 := Lib.hid (K4.out.on hC hb5); clear hb5)
    | ((with_reducible refine (C3.out _ _ K3.out).mono ?_); rintro e w4 ⟨rfl, hb4⟩; have K4 := Lib.hid (K3.out.on hC hb4); clear hb4))
  go_wp2_with (go_at_call 12; (with_reducible refine (C5.out _ _ K5.out).mono ?_); rintro e w6 ⟨rfl, hk6, _⟩; have K6 := Lib.hid hk6; clear hk6)
  go_ret
  exact ⟨rfl, K6.out.below⟩
end Go.Proofs.Ytemnioijgkahcaa
