/-
  The helpers of the statements of layer 8: lives, over any store that keeps the contracts. No condition.
-/
import Derived.Test.YtmkfiiheeplmgaaKvLaw2
namespace Go.Proofs.Ytmkfiiheeplmgaa
open Go.RowKit Go.Deep

namespace Kv
theorem right_one {o : Po} (h : PoOk o) : Right [o] := ⟨by simp, by intro p hp; simp at hp; subst hp; exact h, List.pairwise_singleton _ _⟩
def one (k v : ByteArray) (a m : Int) : St := ⟨[⟨k, v, a⟩], m⟩
theorem one_get (k v : ByteArray) (a m : Int) : valOf (one k v a m).l k = v ∧ revOf (one k v a m).l k = a := by
  unfold valOf revOf one
  rw [find_cons, if_pos rfl]; exact ⟨rfl, rfl⟩
theorem none_get (k : ByteArray) : valOf St.none.l k = ⟨#[]⟩ ∧ revOf St.none.l k = 0 := ⟨rfl, rfl⟩
/-- The first put. -/
theorem put_none {k v : ByteArray} (h : PoOk ⟨k, v, 0, false⟩) : doE St.none [⟨k, v, 0, false⟩] = 0 ∧ doS St.none [⟨k, v, 0, false⟩] = one k v 1 1 ∧ doN St.none [⟨k, v, 0, false⟩] = 1 := by
  have e : doE St.none [⟨k, v, 0, false⟩] = 0 := doE_ok (right_one h) (by intro o ho; simp at ho; subst ho; exact fun h => h.2 rfl) (by intro o ho; simp at ho; subst ho; exact fun h => by cases h.1) (by simp [after, step, dropK, putK, St.none])
  have := doS_ok e
  exact ⟨e, by rw [this.1]; rfl, by rw [this.2]; rfl⟩
/-- Told another revision. -/
theorem put_odd {k v v' : ByteArray} {a m r : Int} {d : Bool} (h : PoOk ⟨k, v', r, d⟩) (h0 : 0 ≤ r) (h1 : r ≠ a) : doE (one k v a m) [⟨k, v', r, d⟩] = 7 ∧ doS (one k v a m) [⟨k, v', r, d⟩] = one k v a m ∧ doN (one k v a m) [⟨k, v', r, d⟩] = 0 := by
  have e : doE (one k v a m) [⟨k, v', r, d⟩] = 7 := doE_odd (right_one h) ⟨_, List.mem_singleton.2 rfl, h0, by rw [(one_get k v a m).2]; exact h1⟩
  have := doS_no (s := one k v a m) (ops := [⟨k, v', r, d⟩]) (by rw [e]; omega)
  exact ⟨e, this.1, this.2⟩
theorem one_ok {k v v' : ByteArray} {a m : Int} {d : Bool} (h : PoOk ⟨k, v', a, d⟩) (ha : a ≠ 0) : doE (one k v a m) [⟨k, v', a, d⟩] = 0 := by
  refine doE_ok (right_one h) (by intro o ho; simp at ho; subst ho; exact fun h => h.2 (one_get k v a m).2.symm) (by intro o ho; simp at ho; subst ho; exact fun h => ha ((one_get k v a m).2 ▸ h.2)) ?_
  have h1 := steps_length (m + 1) [⟨k, v', a, d⟩] (one k v a m).l
  show ¬ 64 < ((([⟨k, v', a, d⟩] : List Po).foldl (step (m + 1)) (one k v a m).l).length)
  simp [one] at h1 ⊢
  omega
theorem put_one {k v v' : ByteArray} {a m : Int} (h : PoOk ⟨k, v', a, false⟩) (ha : a ≠ 0) : doE (one k v a m) [⟨k, v', a, false⟩] = 0 ∧ doS (one k v a m) [⟨k, v', a, false⟩] = one k v' (m + 1) (m + 1) ∧ doN (one k v a m) [⟨k, v', a, false⟩] = m + 1 := by
  have e := one_ok (v := v) (m := m) h ha
  have := doS_ok e
  refine ⟨e, ?_, this.2⟩
  rw [this.1]
  unfold after one
  rw [List.foldl_cons, List.foldl_nil]
  unfold step
  rw [if_neg (by simp), dropK_cons, if_pos rfl]
  rfl
theorem drop_one {k v v' : ByteArray} {a m : Int} (h : PoOk ⟨k, v', a, true⟩) (ha : a ≠ 0) : doE (one k v a m) [⟨k, v', a, true⟩] = 0 ∧ doS (one k v a m) [⟨k, v', a, true⟩] = ⟨[], m + 1⟩ ∧ doN (one k v a m) [⟨k, v', a, true⟩] = m + 1 := by
  have e := one_ok (v := v) (m := m) h ha
  have := doS_ok e
  refine ⟨e, ?_, this.2⟩
  rw [this.1]
  unfold after one
  rw [List.foldl_cons, List.foldl_nil]
  unfold step
  rw [if_pos rfl, dropK_cons, if_pos rfl]
  rfl
end Kv
/-- A store made since w0. -/
def KAt (K : KPred) (w0 : World) (q : Nat) (s : Kv.St) (W : World) : Prop := ∃ X, K W X q s ∧ (∀ i, X i → w0.heap.size ≤ i) ∧ Below w0.heap.size w0 W
theorem KAt.on {K : KPred} (hC : KC K) {w0 W W' : World} {q : Nat} {s : Kv.St} (h : KAt K w0 q s W) (hb : Below W.heap.size W W') : KAt K w0 q s W' := by
  obtain ⟨X, h1, h2, h3⟩ := h
  exact ⟨X, hC.below h1 hb, h2, h3.trans (hb.mono h3.size)⟩
theorem KAt.below {K : KPred} {w0 W : World} {q : Nat} {s : Kv.St} (h : KAt K w0 q s W) : Below w0.heap.size w0 W := by
  obtain ⟨X, h1, h2, h3⟩ := h
  exact h3
theorem kat_make {K : KPred} (hC : KC K) (w0 W : World) (hb : Below w0.heap.size w0 W) : Calls Try.prog 10 #[] W (fun e w' => ∃ q, e = .returned (.pointer (some ⟨q, 0, none⟩)) ∧ KAt K w0 q Kv.St.none w') :=
  (hC.make W).mono fun _ _ ⟨q, X, h1, h2, h3, h4⟩ => ⟨q, h1, X, h2, fun i hi => Nat.le_trans hb.size (h3 i hi), hb.trans (h4.mono hb.size)⟩
theorem kat_do {K : KPred} (hC : KC K) {w0 W : World} {q n c : Nat} {A : Option Addr} {s : Kv.St} {ops : List Kv.Po} (h : KAt K w0 q s W) (hr : s.rev ≤ 1000) (ho : SlP W A n c ops) (hz : ops.length ≤ 70) :
    Calls Try.prog 12 #[.pointer (some ⟨q, 0, none⟩), .slice A n c] W (fun e w' => e = .returned (.tuple #[.int .i64 (Kv.doN s ops), .int .i64 (Kv.doE s ops : Nat)]) ∧ KAt K w0 q (Kv.doS s ops) w') := by
  obtain ⟨X, h1, h2, h3⟩ := h
  refine (hC.do_ W X q s n c A ops h1 hr ho hz).mono fun _ _ ⟨X', e1, e2, e3, e4⟩ => ⟨e1, X', e2, fun i hi => ?_, h3.trans (e4.below h3.size h2)⟩
  rcases e3 i hi with h | h
  · exact h2 i h
  · exact Nat.le_trans h3.size h
theorem kat_get {K : KPred} (hC : KC K) {w0 W : World} {q : Nat} {s : Kv.St} {k : ByteArray} (h : KAt K w0 q s W) (hk : k.size ≤ maxLen) :
    Calls Try.prog 16 #[.pointer (some ⟨q, 0, none⟩), .string k] W (fun e w' => e = .returned (.tuple #[.string (Kv.valOf s.l k), .int .i64 (Kv.revOf s.l k)]) ∧ KAt K w0 q s w') := by
  have h' := h
  obtain ⟨X, h1, h2, h3⟩ := h
  exact (hC.get W X q s k h1 hk).mono fun _ _ ⟨e1, e2⟩ => ⟨e1, h'.on hC e2⟩
/-- A row of one op, made anew. -/
theorem slp_one (w : World) (o : Kv.Po) (h : EPo w [.string o.key, .string o.val, .int .i64 o.rev, .bool o.drop] o) : SlP (w.alloc (.cells #[.string o.key, .string o.val, .int .i64 o.rev, .bool o.drop] 52)) (some ⟨w.heap.size, 0, none⟩) 1 1 [o] := by
  have h1 := heap_alloc_new w (.cells #[.string o.key, .string o.val, .int .i64 o.rev, .bool o.drop] 52)
  refine ⟨fun j t hj => ?_, rfl, Nat.le_refl _, (by unfold maxLen; omega), fun h => by cases h⟩
  obtain rfl : j = 0 := by
    have := (List.getElem?_eq_some_iff.1 hj).1
    simpa using this
  simp at hj
  subst hj
  refine ⟨w.heap.size, 0, [.string o.key, .string o.val, .int .i64 o.rev, .bool o.drop], rfl, by simp, rfl, fun i hi => ?_, h⟩
  rw [show (0 : Nat) + 0 * 4 + i = i from by omega, cell_of_row _ _ i _ _ _ h1, List.getElem?_toArray]
theorem kat_do1 {K : KPred} (hC : KC K) {w0 W : World} {q : Nat} {s : Kv.St} (k v : ByteArray) (r : Int) (d : Bool) (h : KAt K w0 q s W) (hr : s.rev ≤ 1000) (hk : k.size ≤ maxLen) (hv : v.size ≤ maxLen) (hi : i64In r) :
    Calls Try.prog 12 #[.pointer (some ⟨q, 0, none⟩), .slice (some ⟨W.heap.size, 0, none⟩) 1 1] (W.alloc (.cells #[.string k, .string v, .int .i64 r, .bool d] 52)) (fun e w' => e = .returned (.tuple #[.int .i64 (Kv.doN s [⟨k, v, r, d⟩]), .int .i64 (Kv.doE s [⟨k, v, r, d⟩] : Nat)]) ∧ KAt K w0 q (Kv.doS s [⟨k, v, r, d⟩]) w') :=
  kat_do hC (h.on hC ((Below.refl W.heap.size W).alloc (Nat.le_refl _) _)) hr (slp_one W ⟨k, v, r, d⟩ ⟨rfl, hk, hv, hi⟩) (by simp)
set_option maxHeartbeats 3200000 in
theorem klives_any {K : KPred} (hC : KC K) (w : World) :
    Calls Try.prog 9 #[] w fun e w' => e = .returned (.bool true) ∧ Below w.heap.size w w' := by
  obtain ⟨a, ha⟩ : ∃ a : ByteArray, a = ⟨#[97]⟩ := ⟨_, rfl⟩
  obtain ⟨x, hx⟩ : ∃ x : ByteArray, x = ⟨#[120]⟩ := ⟨_, rfl⟩
  obtain ⟨y, hy⟩ : ∃ y : ByteArray, y = ⟨#[121]⟩ := ⟨_, rfl⟩
  obtain ⟨z, hz⟩ : ∃ z : ByteArray, z = ⟨#[]⟩ := ⟨_, rfl⟩
  have sa : a.size = 1 := by rw [ha]; rfl
  have sx : x.size = 1 := by rw [hx]; rfl
  have sy : y.size = 1 := by rw [hy]; rfl
  have sz : z.size = 0 := by rw [hz]; rfl
  have P1 := Kv.put_none (k := a) (v := x) ⟨by show 1 ≤ a.size; omega, by show a.size ≤ 64; omega, by show x.size ≤ 64; omega⟩
  have P2 := Kv.put_odd (k := a) (v := x) (v' := z) (a := 1) (m := 1) (r := 0) (d := false) ⟨by show 1 ≤ a.size; omega, by show a.size ≤ 64; omega, by show z.size ≤ 64; omega⟩ (by omega) (by omega)
  have P3 := Kv.put_one (k := a) (v := x) (v' := y) (a := 1) (m := 1) ⟨by show 1 ≤ a.size; omega, by show a.size ≤ 64; omega, by show y.size ≤ 64; omega⟩ (by omega)
  have G := Kv.one_get a y 2 2
  have C1 : Hid (∀ q W, KAt K w q Kv.St.none W → Calls Try.prog 12 #[.pointer (some ⟨q, 0, none⟩), .slice (some ⟨W.heap.size, 0, none⟩) 1 1] (W.alloc (.cells #[.string ⟨#[97]⟩, .string ⟨#[120]⟩, .int .i64 0, .bool false] 52)) (fun e w' => e = .returned (.tuple #[.int .i64 1, .int .i64 0]) ∧ KAt K w q (Kv.one a x 1 1) w')) := fun q W h => by
    have := kat_do1 hC a x 0 false h (by show (0 : Int) ≤ 1000; omega) (by unfold maxLen; omega) (by unfold maxLen; omega) ⟨by omega, by omega⟩
    rw [P1.1, P1.2.1, P1.2.2, ha, hx] at this
    rw [ha, hx]; exact this
  have C2 : Hid (∀ q W, KAt K w q (Kv.one a x 1 1) W → Calls Try.prog 12 #[.pointer (some ⟨q, 0, none⟩), .slice (some ⟨W.heap.size, 0, none⟩) 1 1] (W.alloc (.cells #[.string ⟨#[97]⟩, .string ⟨#[]⟩, .int .i64 0, .bool false] 52)) (fun e w' => e = .returned (.tuple #[.int .i64 0, .int .i64 7]) ∧ KAt K w q (Kv.one a x 1 1) w')) := fun q W h => by
    have := kat_do1 hC a z 0 false h (by show (1 : Int) ≤ 1000; omega) (by unfold maxLen; omega) (by unfold maxLen; omega) ⟨by omega, by omega⟩
    rw [P2.1, P2.2.1, P2.2.2] at this
    rw [ha, hz] at this
    rw [ha]; exact this
  have C3 : Hid (∀ q W, KAt K w q (Kv.one a x 1 1) W → Calls Try.prog 12 #[.pointer (some ⟨q, 0, none⟩), .slice (some ⟨W.heap.size, 0, none⟩) 1 1] (W.alloc (.cells #[.string ⟨#[97]⟩, .string ⟨#[121]⟩, .int .i64 1, .bool false] 52)) (fun e w' => e = .returned (.tuple #[.int .i64 2, .int .i64 0]) ∧ KAt K w q (Kv.one a y 2 2) w')) := fun q W h => by
    have := kat_do1 hC a y 1 false h (by show (1 : Int) ≤ 1000; omega) (by unfold maxLen; omega) (by unfold maxLen; omega) ⟨by omega, by omega⟩
    rw [P3.1, P3.2.1, P3.2.2] at this
    rw [ha, hy] at this
    rw [ha, hy]; exact this
  have C4 : Hid (∀ q W, KAt K w q (Kv.one a y 2 2) W → Calls Try.prog 16 #[.pointer (some ⟨q, 0, none⟩), .string ⟨#[97]⟩] W (fun e w' => e = .returned (.tuple #[.string ⟨#[121]⟩, .int .i64 2]) ∧ KAt K w q (Kv.one a y 2 2) w')) := fun q W h => by
    have := kat_get hC h (k := a) (by unfold maxLen; omega)
    rw [G.1, G.2] at this
    rw [ha, hy] at this
    rw [ha, hy]; exact this
  have hyy : ((⟨#[121]⟩ : ByteArray).toList == (⟨#[121]⟩ : ByteArray).toList) = true := Kv.teq.2 rfl
  have N1 := Lib.hid (kat_make hC w w (Below.refl _ _))
  clear P1 P2 P3 G sa sx sy sz ha hx hy hz
  go_enter Try.func9, Try.ntmps9
  go_upto_region 2 with (go_at_call 10; (with_reducible refine N1.out.mono ?_); rintro e w1 ⟨q, rfl, hk1⟩; have K1 := Lib.hid hk1; clear hk1)
  go_upto_region 3 with (go_at_call 12; (with_reducible refine (C1.out _ _ K1.out).mono ?_); rintro e w2 ⟨rfl, hk2⟩; have K2 := Lib.hid hk2; clear hk2)
  go_upto_region 4 with (go_at_call 12; (with_reducible refine (C2.out _ _ K2.out).mono ?_); rintro e w3 ⟨rfl, hk3⟩; have K3 := Lib.hid hk3; clear hk3)
  go_upto_region 5 with (go_at_call 12; (with_reducible refine (C3.out _ _ K3.out).mono ?_); rintro e w4 ⟨rfl, hk4⟩; have K4 := Lib.hid hk4; clear hk4)
  go_upto_region 6 with (go_at_call 16; (with_reducible refine (C4.out _ _ K4.out).mono ?_); rintro e w5 ⟨rfl, hk5⟩; have K5 := Lib.hid hk5; clear hk5)
  go_wp2_with fail
  go_ret
  exact ⟨rfl, K5.out.below⟩
end Go.Proofs.Ytmkfiiheeplmgaa
