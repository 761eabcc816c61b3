/-
  The walk of LeaseNil over any table that keeps the contracts.
-/
import Derived.Test.YtemnioijgkahcaaLsLaw2
namespace Go.Proofs.Ytemnioijgkahcaa
open Go.RowKit Go.Deep

def LSame (v : Value) (w : World) (e : Ending) (w' : World) : Prop := e = .returned v ∧ Below w.heap.size w w'
/-- Of a table that isn't there. -/
structure LN : Prop where
  take : ∀ W k h now ttl, Calls Try.prog 12 #[.pointer none, .string k, .int .i64 h, .int .i64 now, .int .i64 ttl] W (LSame (.tuple #[.int .i64 0, .int .i64 1]) W)
  renew : ∀ W k h ep now ttl, Calls Try.prog 13 #[.pointer none, .string k, .int .i64 h, .int .i64 ep, .int .i64 now, .int .i64 ttl] W (LSame (.tuple #[.int .i64 0, .int .i64 1]) W)
  drop : ∀ W k h ep, Calls Try.prog 14 #[.pointer none, .string k, .int .i64 h, .int .i64 ep] W (LSame (.int .i64 1) W)
  get : ∀ W k, Calls Try.prog 15 #[.pointer none, .string k] W (LSame (.tuple #[.agg #[.int .i64 0, .int .i64 0, .int .i64 0], .bool false]) W)
  holds : ∀ W k h ep now, Calls Try.prog 16 #[.pointer none, .string k, .int .i64 h, .int .i64 ep, .int .i64 now] W (LSame (.bool false) W)
  free : ∀ W k now, Calls Try.prog 17 #[.pointer none, .string k, .int .i64 now] W (LSame (.bool false) W)
  due : ∀ W now, Calls Try.prog 18 #[.pointer none, .int .i64 now] W (fun e w' => ∃ A c, LSame (.slice A 0 c) W e w')
  names : ∀ W, Calls Try.prog 19 #[.pointer none] W (fun e w' => ∃ A c, LSame (.slice A 0 c) W e w')
set_option maxHeartbeats 3200000 in
theorem lnil_walk {L : LPred} (hC : LC L) (hN : LN) (p : Lp) (w : World) :
    Calls Try.prog 6 #[.agg #[.int .i64 p.kind, .int .i64 p.who, .int .i64 p.ep, .int .i64 p.now, .int .i64 p.ttl, .string p.name]] w fun e w' => e = .returned (.bool true) ∧ Below w.heap.size w w' := by
  have P0 := Lib.hid (LFr.new w p)
  have B0 := Lib.hid ((Below.refl w.heap.size w).alloc (Nat.le_refl _) (.cells #[.int .i64 p.kind, .int .i64 p.who, .int .i64 p.ep, .int .i64 p.now, .int .i64 p.ttl, .string p.name] 28))
  have L1 := Lib.hid (llives_any hC (w.alloc (.cells #[.int .i64 p.kind, .int .i64 p.who, .int .i64 p.ep, .int .i64 p.now, .int .i64 p.ttl, .string p.name] 28)))
  go_enter Try.func6, Try.ntmps6
  go_upto_region 4 with (go_at_call 8; (with_reducible refine L1.out.mono ?_); rintro e w1 ⟨rfl, hb1⟩; have B1 := Lib.hid hb1; clear hb1)
  obtain ⟨g, hg⟩ : ∃ g, g = w.heap.size := ⟨_, rfl⟩
  rw [← hg] at P0 ⊢
  have P1 := Lib.hid (P0.out.on B1.out)
  have BB := Lib.hid (B0.out.trans (B1.out.mono B0.out.size))
  clear hg B0 B1 P0 L1
  obtain ⟨c0, c1, c2, c3, c4, c5, f5, hgl⟩ := P1.out.cells
  go_upto_region 5 with (go_at_call 12; (with_reducible refine (hN.take _ _ _ _ _).mono ?_); rintro e w2 ⟨rfl, hb⟩; have P2 := Lib.hid (P1.out.on hb); have B2 := Lib.hid (BB.out.trans (hb.mono BB.out.size)); clear hb)
  clear c0 c1 c2 c3 c4 c5 f5 hgl
  obtain ⟨c0, c1, c2, c3, c4, c5, f5, hgl⟩ := P2.out.cells
  go_upto_region 6 with (go_at_call 13; (with_reducible refine (hN.renew _ _ _ _ _ _).mono ?_); rintro e w3 ⟨rfl, hb⟩; have P3 := Lib.hid (P2.out.on hb); have B3 := Lib.hid (B2.out.trans (hb.mono B2.out.size)); clear hb)
  clear c0 c1 c2 c3 c4 c5 f5 hgl
  obtain ⟨c0, c1, c2, c3, c4, c5, f5, hgl⟩ := P3.out.cells
  go_upto_region 7 with (go_at_call 15; (with_reducible refine (hN.get _ _).mono ?_); rintro e w4 ⟨rfl, hb⟩; have P4 := Lib.hid ((P3.out.on hb).on ((Below.refl w4.heap.size w4).alloc (Nat.le_refl _) (.cells #[.int .i64 0, .int .i64 0, .int .i64 0] 36))); have B4 := Lib.hid ((B3.out.trans (hb.mono B3.out.size)).alloc (by have := B3.out.size; have := hb.size; omega) (.cells #[.int .i64 0, .int .i64 0, .int .i64 0] 36)); clear hb)
  clear c0 c1 c2 c3 c4 c5 f5 hgl
  generalize w4.alloc (.cells #[.int .i64 0, .int .i64 0, .int .i64 0] 36) = w5 at *
  obtain ⟨c0, c1, c2, c3, c4, c5, f5, hgl⟩ := P4.out.cells
  go_wp2_with (first
    | (go_at_call 14; (with_reducible refine (hN.drop _ _ _ _).mono ?_); rintro e w6 ⟨rfl, hb⟩; have P6 := Lib.hid (P4.out.on hb); have B6 := Lib.hid (B4.out.trans (hb.mono B4.out.size)); clear hb c0 c1 c2 c3 c4 c5 f5 hgl; obtain ⟨c0, c1, c2, c3, c4, c5, f5, hgl⟩ := P6.out.cells)
    | (go_at_call 16; (with_reducible refine (hN.holds _ _ _ _ _).mono ?_); rintro e w7 ⟨rfl, hb⟩; have P7 := Lib.hid (P6.out.on hb); have B7 := Lib.hid (B6.out.trans (hb.mono B6.out.size)); clear hb c0 c1 c2 c3 c4 c5 f5 hgl; obtain ⟨c0, c1, c2, c3, c4, c5, f5, hgl⟩ := P7.out.cells)
    | (go_at_call 17; (with_reducible refine (hN.free _ _ _).mono ?_); rintro e w8 ⟨rfl, hb⟩; have P8 := Lib.hid (P7.out.on hb); have B8 := Lib.hid (B7.out.trans (hb.mono B7.out.size)); clear hb c0 c1 c2 c3 c4 c5 f5 hgl; obtain ⟨c0, c1, c2, c3, c4, c5, f5, hgl⟩ := P8.out.cells)
    | (go_at_call 18; (with_reducible refine (hN.due _ _).mono ?_); rintro e w9 ⟨A9, c9, rfl, hb⟩; have B9 := Lib.hid (B8.out.trans (hb.mono B8.out.size)); clear hb)
    | (go_at_call 19; (with_reducible refine (hN.names _).mono ?_); rintro e w10 ⟨A10, c10, rfl, hb⟩; have B10 := Lib.hid (B9.out.trans (hb.mono B9.out.size)); clear hb))
  go_ret
  exact ⟨rfl, B10.out⟩
end Go.Proofs.Ytemnioijgkahcaa
