/-
  The walk of KvRaces over any store that keeps the contracts.
-/
import Derived.Test.YtmkfiiheeplmgaaKvLaw3
namespace Go.Proofs.Ytmkfiiheeplmgaa
open Go.RowKit Go.Deep

def KRes (K : KPred) (w0 : World) (q : Nat) (s : Kv.St) (n e : Int) (en : Ending) (w' : World) : Prop := en = .returned (.tuple #[.int .i64 n, .int .i64 e]) ∧ KAt K w0 q s w'
def KGot (K : KPred) (w0 : World) (q : Nat) (s : Kv.St) (v : ByteArray) (n : Int) (en : Ending) (w' : World) : Prop := en = .returned (.tuple #[.string v, .int .i64 n]) ∧ KAt K w0 q s w'
section
variable {K : KPred} {w0 : World} {k v v' : ByteArray}
theorem kres_none (hC : KC K) (h : Kv.PoOk ⟨k, v, 0, false⟩) (q : Nat) (W : World) (hk : KAt K w0 q Kv.St.none W) :
    Calls Try.prog 12 #[.pointer (some ⟨q, 0, none⟩), .slice (some ⟨W.heap.size, 0, none⟩) 1 1] (W.alloc (.cells #[.string k, .string v, .int .i64 0, .bool false] 52)) (KRes K w0 q (Kv.one k v 1 1) 1 0) := by
  have P := Kv.put_none h
  have h1 : k.size ≤ 64 := h.2.1
  have h2 : v.size ≤ 64 := h.2.2
  have := kat_do1 hC k v 0 false hk (by show (0 : Int) ≤ 1000; omega) (by unfold maxLen; omega) (by unfold maxLen; omega) ⟨by omega, by omega⟩
  rw [P.1, P.2.1, P.2.2] at this
  exact this
theorem kres_odd (hC : KC K) {a m r : Int} {d : Bool} (h : Kv.PoOk ⟨k, v', r, d⟩) (h0 : 0 ≤ r) (h1 : r ≠ a) (hm : m ≤ 1000) (hr : r ≤ 1000) (q : Nat) (W : World) (hk : KAt K w0 q (Kv.one k v a m) W) :
    Calls Try.prog 12 #[.pointer (some ⟨q, 0, none⟩), .slice (some ⟨W.heap.size, 0, none⟩) 1 1] (W.alloc (.cells #[.string k, .string v', .int .i64 r, .bool d] 52)) (KRes K w0 q (Kv.one k v a m) 0 7) := by
  have P := Kv.put_odd (v := v) (m := m) h h0 h1
  have h3 : k.size ≤ 64 := h.2.1
  have h4 : v'.size ≤ 64 := h.2.2
  have := kat_do1 hC k v' r d hk hm (by unfold maxLen; omega) (by unfold maxLen; omega) ⟨by omega, by omega⟩
  rw [P.1, P.2.1, P.2.2] at this
  exact this
theorem kres_put (hC : KC K) {a m m' : Int} (hm' : m' = m + 1) (h : Kv.PoOk ⟨k, v', a, false⟩) (ha : 1 ≤ a) (ha2 : a ≤ 1000) (hm : m ≤ 1000) (q : Nat) (W : World) (hk : KAt K w0 q (Kv.one k v a m) W) :
    Calls Try.prog 12 #[.pointer (some ⟨q, 0, none⟩), .slice (some ⟨W.heap.size, 0, none⟩) 1 1] (W.alloc (.cells #[.string k, .string v', .int .i64 a, .bool false] 52)) (KRes K w0 q (Kv.one k v' m' m') m' 0) := by
  subst hm'
  have P := Kv.put_one (v := v) (m := m) h (by omega)
  have h3 : k.size ≤ 64 := h.2.1
  have h4 : v'.size ≤ 64 := h.2.2
  have := kat_do1 hC k v' a false hk hm (by unfold maxLen; omega) (by unfold maxLen; omega) ⟨by omega, by omega⟩
  rw [P.1, P.2.1, P.2.2] at this
  exact this
theorem kres_drop (hC : KC K) {a m m' : Int} (hm' : m' = m + 1) (h : Kv.PoOk ⟨k, v', a, true⟩) (ha : 1 ≤ a) (ha2 : a ≤ 1000) (hm : m ≤ 1000) (q : Nat) (W : World) (hk : KAt K w0 q (Kv.one k v a m) W) :
    Calls Try.prog 12 #[.pointer (some ⟨q, 0, none⟩), .slice (some ⟨W.heap.size, 0, none⟩) 1 1] (W.alloc (.cells #[.string k, .string v', .int .i64 a, .bool true] 52)) (KRes K w0 q ⟨[], m'⟩ m' 0) := by
  subst hm'
  have P := Kv.drop_one (v := v) (m := m) h (by omega)
  have h3 : k.size ≤ 64 := h.2.1
  have h4 : v'.size ≤ 64 := h.2.2
  have := kat_do1 hC k v' a true hk hm (by unfold maxLen; omega) (by unfold maxLen; omega) ⟨by omega, by omega⟩
  rw [P.1, P.2.1, P.2.2] at this
  exact this
theorem kgot_one (hC : KC K) {a m : Int} (hk1 : k.size ≤ maxLen) (q : Nat) (W : World) (hk : KAt K w0 q (Kv.one k v a m) W) :
    Calls Try.prog 16 #[.pointer (some ⟨q, 0, none⟩), .string k] W (KGot K w0 q (Kv.one k v a m) v a) := by
  have := kat_get hC hk hk1
  rw [(Kv.one_get k v a m).1, (Kv.one_get k v a m).2] at this
  exact this
theorem kgot_nil (hC : KC K) {m : Int} (hk1 : k.size ≤ maxLen) (q : Nat) (W : World) (hk : KAt K w0 q ⟨[], m⟩ W) :
    Calls Try.prog 16 #[.pointer (some ⟨q, 0, none⟩), .string k] W (KGot K w0 q ⟨[], m⟩ ⟨#[]⟩ 0) := kat_get hC hk hk1
theorem kat_rev (hC : KC K) (s : Kv.St) (q : Nat) (W : World) (hk : KAt K w0 q s W) :
    Calls Try.prog 21 #[.pointer (some ⟨q, 0, none⟩)] W (fun e w' => e = .returned (.int .i64 s.rev) ∧ KAt K w0 q s w') := by
  have hk' := hk
  obtain ⟨X, h1, h2, h3⟩ := hk
  exact (hC.rev W X q s h1).mono fun _ _ ⟨e1, e2⟩ => ⟨e1, hk'.on hC e2⟩
theorem kat_len (hC : KC K) (s : Kv.St) (q : Nat) (W : World) (hk : KAt K w0 q s W) :
    Calls Try.prog 23 #[.pointer (some ⟨q, 0, none⟩)] W (fun e w' => e = .returned (.int .i64 (s.l.length : Nat)) ∧ KAt K w0 q s w') := by
  have hk' := hk
  obtain ⟨X, h1, h2, h3⟩ := hk
  exact (hC.len W X q s h1).mono fun _ _ ⟨e1, e2⟩ => ⟨e1, hk'.on hC e2⟩
end
set_option maxHeartbeats 6400000 in
set_option maxRecDepth 100000 in
theorem kraces_walk {K : KPred} (hC : KC K) (key a b : ByteArray) (w : World) (hkey : key.size ≤ maxLen) (ha : a.size ≤ maxLen) (hb : b.size ≤ maxLen) :
    Calls Try.prog 5 #[.string key, .string a, .string b] w fun e w' => e = .returned (.bool true) ∧ Below w.heap.size w w' := by
  unfold maxLen at hkey ha hb
  have L1 := Lib.hid (klives_any hC w)
  have hm1 : min (key.size : Int) 60 = ((min key.size 60 : Nat) : Int) := by omega
  have hl1 : ((min key.size 60 : Nat) : Int) ≤ (key.size : Int) := by omega
  have hm2 : min (a.size : Int) 60 = ((min a.size 60 : Nat) : Int) := by omega
  have hl2 : ((min a.size 60 : Nat) : Int) ≤ (a.size : Int) := by omega
  have hm3 : min (b.size : Int) 60 = ((min b.size 60 : Nat) : Int) := by omega
  have hl3 : ((min b.size 60 : Nat) : Int) ≤ (b.size : Int) := by omega
  have SK : Hid ((key.extract 0 (min key.size 60)).size ≤ 60) := by show _ ≤ _; rw [ByteArray.size_extract]; omega
  have SA : Hid ((a.extract 0 (min a.size 60)).size ≤ 60) := by show _ ≤ _; rw [ByteArray.size_extract]; omega
  have SB : Hid ((b.extract 0 (min b.size 60)).size ≤ 60) := by show _ ≤ _; rw [ByteArray.size_extract]; omega
  generalize min key.size 60 = n1 at *
  generalize min a.size 60 = n2 at *
  generalize min b.size 60 = n3 at *
  have hcat : (((⟨#[107]⟩ : ByteArray).size + (key.extract 0 n1).size : Nat) : Int) ≤ IntKind.i64.max := by
    have := SK.out
    have h1 : (⟨#[107]⟩ : ByteArray).size = 1 := rfl
    rw [h1]
    simp [IntKind.max, IntKind.signed, IntKind.bits]
    omega
  go_enter Try.func5, Try.ntmps5
  go_upto_region 4 with (go_at_call 9; (with_reducible refine L1.out.mono ?_); rintro e w1 ⟨rfl, hb1⟩; have B1 := Lib.hid hb1; clear hb1)
  have KK : Hid (Kv.PoOk ⟨(⟨#[107]⟩ : ByteArray) ++ key.extract 0 n1, a.extract 0 n2, 0, false⟩) := by
    have h1 := SK.out
    have h2 := SA.out
    have h3 : ((⟨#[107]⟩ : ByteArray) ++ key.extract 0 n1).size = 1 + (key.extract 0 n1).size := by rw [ByteArray.size_append]; rfl
    refine ⟨?_, ?_, ?_⟩
    · show 1 ≤ ((⟨#[107]⟩ : ByteArray) ++ key.extract 0 n1).size
      omega
    · show ((⟨#[107]⟩ : ByteArray) ++ key.extract 0 n1).size ≤ 64
      omega
    · show (a.extract 0 n2).size ≤ 64
      omega
  go_region
  clear hcat hm1 hl1 hm2 hl2 hm3 hl3 SK
  have B2 := Lib.hid B1.out.drew
  generalize w1.drew = w2 at *
  generalize (⟨#[107]⟩ : ByteArray) ++ key.extract 0 n1 = k at *
  generalize a.extract 0 n2 = x at *
  generalize b.extract 0 n3 = y at *
  have hx0 : x.size ≤ 60 := SA.out
  have hy0 : y.size ≤ 60 := SB.out
  have hk1 : 1 ≤ k.size := KK.out.1
  have hk2 : k.size ≤ 64 := KK.out.2.1
  have hkm : k.size ≤ maxLen := by unfold maxLen; omega
  have KY : ∀ r d, Kv.PoOk ⟨k, y, r, d⟩ := fun r d => ⟨hk1, hk2, by show y.size ≤ 64; omega⟩
  have KZ : ∀ r d, Kv.PoOk ⟨k, ⟨#[]⟩, r, d⟩ := fun r d => ⟨hk1, hk2, by show (⟨#[]⟩ : ByteArray).size ≤ 64; exact Nat.zero_le _⟩
  have N1 := Lib.hid (kat_make hC w w2 B2.out)
  have C0 : Hid (∀ q W, KAt K w q Kv.St.none W → Calls Try.prog 16 #[.pointer (some ⟨q, 0, none⟩), .string k] W (KGot K w q Kv.St.none ⟨#[]⟩ 0)) := fun q W h => kgot_nil hC (m := 0) hkm q W h
  have C1 := Lib.hid (kres_none (w0 := w) hC KK.out)
  have C2 := Lib.hid (kres_odd (w0 := w) (v := x) (a := 1) (m := 1) hC (KY 0 false) (by omega) (by omega) (by omega) (by omega))
  have C3 := Lib.hid (kgot_one (w0 := w) (v := x) (a := 1) (m := 1) hC hkm)
  have C4 := Lib.hid (kres_put (w0 := w) (v := x) (a := 1) (m := 1) (m' := 2) hC (by omega) (KY 1 false) (by omega) (by omega) (by omega))
  have C5 := Lib.hid (kgot_one (w0 := w) (v := y) (a := 2) (m := 2) hC hkm)
  have C6 := Lib.hid (kres_drop (w0 := w) (v := y) (a := 2) (m := 2) (m' := 3) hC (by omega) (KZ 2 true) (by omega) (by omega) (by omega))
  have C7 := Lib.hid (kgot_nil (w0 := w) (m := 3) hC hkm)
  have C8 := Lib.hid (kat_rev (w0 := w) hC ⟨[], 3⟩)
  have C9 := Lib.hid (kat_len (w0 := w) hC ⟨[], 3⟩)
  have hxx : (x.toList == x.toList) = true := Kv.teq.2 rfl
  have hyy : (y.toList == y.toList) = true := Kv.teq.2 rfl
  clear KY KZ hkm hk1 hk2 hx0 hy0
  go_upto_region 6 with (go_at_call 10; (with_reducible refine N1.out.mono ?_); rintro e w3 ⟨q, rfl, hK1⟩; have K1 := Lib.hid hK1; clear hK1)
  go_upto_region 7 with (go_at_call 16; (with_reducible refine (C0.out _ _ K1.out).mono ?_); rintro e w4 ⟨rfl, hK2⟩; have K2 := Lib.hid hK2; clear hK2)
  go_upto_region 8 with (go_at_call 12; (with_reducible refine (C1.out _ _ K2.out).mono ?_); rintro e w5 ⟨rfl, hK3⟩; have K3 := Lib.hid hK3; clear hK3)
  go_upto_region 9 with (go_at_call 12; (with_reducible refine (C2.out _ _ K3.out).mono ?_); rintro e w6 ⟨rfl, hK4⟩; have K4 := Lib.hid hK4; clear hK4)
  go_upto_region 10 with (go_at_call 16; (with_reducible refine (C3.out _ _ K4.out).mono ?_); rintro e w7 ⟨rfl, hK5⟩; have K5 := Lib.hid hK5; clear hK5)
  go_upto_region 11 with (go_at_call 12; (with_reducible refine (C4.out _ _ K5.out).mono ?_); rintro e w8 ⟨rfl, hK6⟩; have K6 := Lib.hid hK6; clear hK6)
  go_upto_region 12 with (go_at_call 16; (with_reducible refine (C5.out _ _ K6.out).mono ?_); rintro e w9 ⟨rfl, hK7⟩; have K7 := Lib.hid hK7; clear hK7)
  go_upto_region 13 with (go_at_call 12; (with_reducible refine (C6.out _ _ K7.out).mono ?_); rintro e w10 ⟨rfl, hK8⟩; have K8 := Lib.hid hK8; clear hK8)
  go_upto_region 14 with (go_at_call 16; (with_reducible refine (C7.out _ _ K8.out).mono ?_); rintro e w11 ⟨rfl, hK9⟩; have K9 := Lib.hid hK9; clear hK9)
  go_wp2_with (first
    | (go_at_call 21; (with_reducible refine (C8.out _ _ K9.out).mono ?_); rintro e wr ⟨rfl, hr⟩; have KR := Lib.hid hr; clear hr)
    | (go_at_call 23; (with_reducible refine (C9.out _ _ KR.out).mono ?_); rintro e wl ⟨rfl, hl⟩; have KL := Lib.hid hl; clear hl))
  go_ret
  exact ⟨rfl, KL.out.below⟩
end Go.Proofs.Ytmkfiiheeplmgaa
