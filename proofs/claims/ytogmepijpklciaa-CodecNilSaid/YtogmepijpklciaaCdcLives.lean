/-
  The document's examples hold: 'lives' of the statements of layer 3; few.
-/
import Derived.Test.YtogmepijpklciaaCdcList
namespace Go.Proofs.Ytogmepijpklciaa
open Go.RowKit Cdc

theorem digs_300 : digs 300 = [172, 2] := by rw [digs_ge (by omega), digs_lt (by omega)]
theorem digs_2 : digs 2 = [2] := digs_lt (by omega)
theorem txt_300 : txt [172, 2] = ⟨#[172, 2]⟩ := rfl
theorem txt_ab : txt [2, 97, 98] = ⟨#[2, 97, 98]⟩ := rfl
theorem sb_ab : sb ⟨#[97, 98]⟩ = [97, 98] := rfl
theorem num_300 : num ⟨[172, 2], 0⟩ = ⟨[], 0⟩ ∧ numV ⟨[172, 2], 0⟩ = 300 := by
  have := num_digs (n := 300) (by omega) []
  rwa [digs_300, List.append_nil] at this
theorem number_ex (w : World) : Calls Try.prog 11 #[.slice none 0 0, .int .i64 300] w (WPost [172, 2] 0 w) := by
  have := number_yes 0 0 300 none [] w (Sl.none_ w) (by omega) (by omega)
  rwa [List.nil_append, digs_300] at this
theorem text_ex (w : World) : Calls Try.prog 13 #[.slice none 0 0, .string ⟨#[97, 98]⟩] w (WPost [2, 97, 98] 0 w) := by
  have := text_yes 0 0 ⟨#[97, 98]⟩ none [] w (Sl.none_ w) (by omega) (by decide)
  rwa [List.nil_append, sb_ab, show (⟨#[97, 98]⟩ : ByteArray).size = 2 from rfl, digs_2] at this
set_option maxRecDepth 100000 in
set_option maxHeartbeats 800000 in
theorem lives_any (w : World) :
    Calls Try.prog 10 #[] w fun e w' => e = .returned (.bool true) ∧ Below w.heap.size w w' := by
  go_enter Try.func10, Try.ntmps10
  go_wp2_with fail
  refine (number_ex _).mono ?_
  rintro e w1 ⟨A1, c1, rfl, hs1, hb1, _⟩
  have S1 := Lib.hid hs1; clear hs1
  have B1 := Lib.hid hb1; clear hb1
  go_wp2_with fail
  refine (text_ex _).mono ?_
  rintro e w2 ⟨A2, c2, rfl, hs2, hb2, _⟩
  have S2 := Lib.hid hs2; clear hs2
  have S12 := Lib.hid (S1.out.on hb2)
  have B2 := Lib.hid (B1.out.trans (hb2.mono B1.out.size)); clear hb2
  go_wp2_with fail
  refine (reader_any 2 c1 A1 [172, 2] _ S12.out (by omega)).mono ?_
  rintro e w3 ⟨r, rfl, hr3, hge, hb3⟩
  have R3 := Lib.hid hr3; clear hr3
  have B3 := Lib.hid hb3; clear hb3
  have HG := Lib.hid hge; clear hge
  go_wp2_with fail
  refine (numb_any w3 r _ R3.out (by simp)).mono ?_
  rw [num_300.1, num_300.2]
  rintro e w4 ⟨rfl, hr4, hg4⟩
  have R4 := Lib.hid hr4; clear hr4
  have B4 := Lib.hid (B3.out.grown hg4 B3.out.size (fun k hk => by injection hk with hk; have := HG.out; omega)); clear hg4
  have hc1 := conv_rd (c := c1) (S12.out.on B4.out).rd (n := 2) rfl
  have hc2 := conv_rd (c := c2) (S2.out.on B4.out).rd (n := 3) rfl
  rw [txt_300] at hc1
  rw [txt_ab] at hc2
  have HE := Lib.hid (end_any w4 r _ R4.out)
  go_wp2_with (refine HE.out.mono ?_; rintro e w5 ⟨rfl, rfl⟩)
  go_ret
  exact ⟨rfl, B2.out.trans (B4.out.mono B2.out.size)⟩
theorem lives_at {w0 : World} (W : World) (hb : Below w0.heap.size w0 W) :
    Calls Try.prog 10 #[] W fun e w' => e = .returned (.bool true) ∧ Below w0.heap.size w0 w' :=
  (lives_any W).mono fun _ _ ⟨he, h2⟩ => ⟨he, hb.trans (h2.mono hb.size)⟩
theorem few_any (n c : Nat) (A : Option Addr) (w : World) (hn : n ≤ c) :
    Calls Try.prog 18 #[.slice A n c] w fun e w' => e = .returned (.slice A (min n 100) c) ∧ w = w' := by
  go_enter Try.func18, Try.ntmps18
  go_wp2_with fail
  go_ret
  refine ⟨?_, rfl⟩
  rw [← show (min (n : Int) 100).toNat = min n 100 from by omega]
  rfl
end Go.Proofs.Ytogmepijpklciaa
