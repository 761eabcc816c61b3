/-
  The walk of KvNil over any store that keeps the contracts.
-/
import Derived.Test.YtmkfiiheeplmgaaKvLaw3
namespace Go.Proofs.Ytmkfiiheeplmgaa
open Go.RowKit Go.Deep

set_option maxHeartbeats 3200000 in
theorem knil_walk {K : KPred} (hC : KC K) (hN : KN) (n c : Nat) (A : Option Addr) (l : List Kv.Po) (key : ByteArray) (w : World) (h : SlP w A n c l) :
    Calls Try.prog 7 #[.slice A n c, .string key] w fun e w' => e = .returned (.bool true) ∧ Below w.heap.size w w' := by
  have L1 := Lib.hid (klives_any hC w)
  have HA := Lib.hid h
  have hzz : ((⟨#[]⟩ : ByteArray).toList == (⟨#[]⟩ : ByteArray).toList) = true := Kv.teq.2 rfl
  have i0 : i64In 0 := ⟨by omega, by omega⟩
  have I0 := Lib.hid i0
  clear h i0
  go_enter Try.func7, Try.ntmps7
  go_upto_region 4 with (go_at_call 9; (with_reducible refine L1.out.mono ?_); rintro e w1 ⟨rfl, hb1⟩; have B1 := Lib.hid hb1; clear hb1)
  go_upto_region 5 with (first
    | (go_at_call 11; (with_reducible refine (kops_any l n c A _ (HA.out.on EPo.on B1.out)).mono ?_); rintro e w2 ⟨v2, rfl, ho2, hb2⟩; obtain ⟨A2, c2, rfl⟩ := ho2.form; have O2 := Lib.hid ho2; have B2 := Lib.hid (B1.out.trans (hb2.mono B1.out.size)); clear ho2 hb2)
    | (go_at_call 13; (with_reducible refine (kas_any _ _ c2 A2 _ O2.out.readP (Nat.le_trans (Kv.cuts_len l) (by omega))).mono ?_); rintro e w3 ⟨v3, rfl, ho3, hb3⟩; obtain ⟨A3, c3, rfl⟩ := ho3.form; have O3 := Lib.hid ho3; have B3 := Lib.hid (B2.out.trans (hb3.mono B2.out.size)); clear ho3 hb3)
    | (go_at_call 12; (with_reducible refine (hN.do_ _ _ c3 A3 _ O3.out.readP).mono ?_); rintro e w4 ⟨rfl, hb4⟩; have B4 := Lib.hid (B3.out.trans (hb4.mono B3.out.size)); clear hb4))
  go_upto_region 6 with (go_at_call 16; (with_reducible refine (hN.get _ key).mono ?_); rintro e w5 ⟨rfl, hb5⟩; have B5 := Lib.hid (B4.out.trans (hb5.mono B4.out.size)); clear hb5)
  go_wp2_with (first
    | (go_at_call 21; (with_reducible refine (hN.rev _).mono ?_); rintro e w6 ⟨rfl, hb6⟩; have B6 := Lib.hid (B5.out.trans (hb6.mono B5.out.size)); clear hb6)
    | (go_at_call 23; (with_reducible refine (hN.len _).mono ?_); rintro e w7 ⟨rfl, hb7⟩; have B7 := Lib.hid (B6.out.trans (hb7.mono B6.out.size)); clear hb7)
    | (go_at_call 22; (with_reducible refine (hN.keys _).mono ?_); rintro e w8 ⟨v8, rfl, ho8, hb8⟩; obtain ⟨A8, c8, rfl⟩ := ho8.form; have B8 := Lib.hid (B7.out.trans (hb8.mono B7.out.size)); clear hb8 ho8)
    | (go_at_call 19; (with_reducible refine (hN.since _ 0 I0.out).mono ?_); rintro e w9 ⟨v9, rfl, ho9, hb9⟩; obtain ⟨A9, c9, rfl⟩ := ho9.form; have B9 := Lib.hid (B8.out.trans (hb9.mono B8.out.size)); clear hb9 ho9))
  go_ret
  exact ⟨rfl, B9.out⟩
end Go.Proofs.Ytmkfiiheeplmgaa
