/-
  The walk of the statement SpecMakes, of whatever package spec keeps SC.
-/
import Derived.Test.YtijloajkiannlaaDoorSpSC
import Derived.Test.YtijloajkiannlaaDoorSpEq
namespace Go.Proofs.YtijloajkiannlaaDoor
open Go.RowKit

theorem mk_no {l : List Int} (h : l.length ≠ 12) : mkS l = Spc.zero ∧ mkE l = 1 := by unfold mkS mkE; rw [if_neg h, if_neg h]; exact ⟨rfl, rfl⟩
theorem mk_yes {l : List Int} (h : l.length = 12) : mkS l = Spc.of l ∧ mkE l = 0 := by unfold mkS mkE; rw [if_pos h, if_pos h]; exact ⟨rfl, rfl⟩
set_option maxHeartbeats 1600000 in
theorem smakes_walk (hS : SC) (n c : Nat) (A : Option Addr) (l : List Int) (hl : ∀ x ∈ l, Spc.i64 x) (w : World) (ht : Tb w) (h : SlI w A n c l) :
    Calls Tryd.prog 5 #[.slice A n c] w fun e w' => e = .returned (.bool true) ∧ Below w.heap.size w w' := by
  have HS := Lib.hid hS
  have HTB := Lib.hid ht
  clear ht
  have hcap := h.cap
  have hmax := h.max
  unfold maxLen at hmax
  have H : Hid (SlI w A (min (n : Int) 20).toNat c (l.take 20)) := by
    have h1 := h.take 20
    rw [show (min (n : Int) 20).toNat = min n 20 from by omega]
    exact h1
  have HL : Hid (∀ x ∈ l.take 20, Spc.i64 x) := fun x hx => hl x (List.mem_of_mem_take hx)
  have m1 : (0 : Int) ≤ min (n : Int) 20 := by omega
  have m2 : min (n : Int) 20 ≤ (c : Int) := by omega
  clear hS h hl
  go_enter Tryd.func5, Tryd.ntmps5
  go_wp2_with fail
  refine (slives_any HS.out w HTB.out).mono ?_
  rintro e w1 ⟨rfl, hb1⟩
  have H1 := Lib.hid (H.out.on hb1)
  have B1 := Lib.hid hb1
  have LE : Hid ((l.take 20).length ≤ 20) := by show _ ≤ _; rw [List.length_take]; omega
  have hk : (min (n : Int) 20).toNat ≤ 20 := by omega
  go_wp2_with fail
  clear hb1 H m1 m2
  generalize (min (n : Int) 20).toNat = k at *
  generalize l.take 20 = t at *
  have hkl := H1.out.len
  have KL := Lib.hid hkl
  have hkc := H1.out.cap
  have C := Lib.hid (HS.out.make t A k c w1 H1.out HL.out (by omega))
  clear hkl
  refine C.out.mono ?_
  rintro e w2 ⟨rfl, hb2⟩
  have B2 := Lib.hid (B1.out.trans (hb2.mono B1.out.size))
  have H2 := Lib.hid (H1.out.on hb2)
  clear hb2 C
  by_cases h12 : k = 12
  · have ht : t.length = 12 := by rw [← KL.out]; exact h12
    rw [(mk_yes ht).1, (mk_yes ht).2]
    have FT := Lib.hid (Spc.flds_of ht)
    have IN : Hid (Spc.In (Spc.of t)) := fun x hx => HL.out x (by rw [FT.out] at hx; exact hx)
    have CF : Hid (∀ W, Calls Tryd.prog 13 #[Spc.val (Spc.of t)] W (RowI t W)) := fun W => by have := HS.out.fields (Spc.of t) W IN.out; rwa [FT.out] at this
    subst h12
    clear ht hk hkc
    generalize Spc.of t = s at *
    have hn := heap_alloc_new w2 (.cells (Spc.cells s) 25)
    have hb3 := (Below.refl w2.heap.size w2).alloc (Nat.le_refl _) (.cells (Spc.cells s) 25)
    have A3 := Lib.hid (spAt_of hn)
    have B3 := Lib.hid (B2.out.trans (hb3.mono B2.out.size))
    have H3 := Lib.hid (H2.out.on hb3)
    obtain ⟨f0, f1, f2, f3, f4, f5, f6, f7, f8, f9, f10, f11⟩ := A3.out
    clear hn hb3 A3
    unfold Spc.val at *
    unfold Spc.cells at *
    go_wp2_with fail
    generalize w2.alloc (.cells #[.int .i64 s.v, .int .i64 s.d, .int .i64 s.u, .int .i64 s.n, .int .i64 s.g, .int .i64 s.a, .int .i64 s.b, .int .i64 s.c, .int .i64 s.e, .int .i64 s.w, .int .i64 s.x, .int .i64 s.k] 25) = w3 at *
    refine (CF.out w3).mono ?_
    rintro e w4 ⟨A4, c4, rfl, hs4, hb4⟩
    have S4 := Lib.hid hs4
    have H4 := Lib.hid (H3.out.on hb4)
    have B4 := Lib.hid (B3.out.trans (hb4.mono B3.out.size))
    rw [← KL.out] at S4 ⊢
    clear hs4 hb4 f0 f1 f2 f3 f4 f5 f6 f7 f8 f9 f10 f11 CF
    go_wp2_with fail
    (with_reducible refine (same_any 12 c4 c A4 A t w4 S4.out H4.out (by omega)).mono ?_)
    rintro e w5 ⟨rfl, dd, rfl⟩
    go_wp2_with fail
    go_ret
    exact ⟨rfl, Below.drewN B4.out dd⟩
  · have ht : t.length ≠ 12 := by rw [← KL.out]; exact h12
    rw [(mk_no ht).1, (mk_no ht).2]
    have hne : ((k : Int) != 12) = true := by rw [bne_iff_ne]; omega
    have hn := heap_alloc_new w2 (.cells (Spc.cells Spc.zero) 25)
    have hb3 := (Below.refl w2.heap.size w2).alloc (Nat.le_refl _) (.cells (Spc.cells Spc.zero) 25)
    have B3 := Lib.hid (B2.out.trans (hb3.mono B2.out.size))
    obtain ⟨f0, f1, f2, f3, f4, f5, f6, f7, f8, f9, f10, f11⟩ := spAt_of hn
    clear hn hb3 ht h12
    have hq := fun W => spec_same Spc.zero W
    unfold Spc.val at *
    unfold Spc.cells at *
    unfold Spc.zero at *
    go_wp2_with fail
    go_ret
    exact ⟨rfl, B3.out⟩
end Go.Proofs.YtijloajkiannlaaDoor
