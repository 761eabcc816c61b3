/-
  The document's examples hold: 'lives' of the statements of layer 1.
-/
import Derived.Test.YtlandgoifaleaaaCrcGood
import Derived.Lib.SlBytesConst
namespace Go.Proofs.Ytlandgoifaleaaa
open Go.RowKit

theorem sum_nil : Crc.sum [] = 0 := by decide +kernel
theorem sum_nine : Crc.sum [49, 50, 51, 52, 53, 54, 55, 56, 57] = 3421780262 := by decide +kernel
theorem good_zero : good [0, 0, 0, 0] = true := by decide +kernel
theorem Rd.made {w : World} {t : TypeId} {cs : Array Value} {fr : Nat × Nat} (l : List Nat) (hcs : cs = (vals l).toArray) (hl : ∀ x ∈ l, x < 256) : Rd (w.alloc (.cells cs t fr)) (w.alloc (.cells cs t fr)).heap.size (some ⟨w.heap.size, 0, none⟩) l := by
  subst hcs
  exact ⟨hl, fun _ => ⟨_, 0, rfl, by simp, fun j hj => by rw [cell_of_row _ _ _ _ t fr (heap_alloc_new w _), Nat.zero_add, List.getElem?_toArray, vals_at hj]⟩⟩

set_option maxHeartbeats 400000 in
theorem lives_any (w : World) :
    Calls Try.prog 9 #[] w fun e w' => e = .returned (.bool true) ∧ Below w.heap.size w w' := by
  have kc := fun (w : World) (C : Array Value) (n c : Nat) => Lib.run_convert_bytes_const (P := Try.prog) w 22 5 C n c Try.underlying22 Try.underlying5
  go_enter Try.func9, Try.ntmps9
  go_wp2_with fail
  refine (sum_any 0 0 none [] _ (Rd.empty _ _ _) rfl (by simp)).mono ?_
  rintro e w1 ⟨rfl, hb1⟩
  have B1 := Lib.hid hb1; clear hb1
  rw [sum_nil]
  go_wp2_with fail
  refine (sum_any 9 9 _ [49, 50, 51, 52, 53, 54, 55, 56, 57] _ ?hr rfl (by simp)).mono ?_
  case hr => exact Rd.made [49, 50, 51, 52, 53, 54, 55, 56, 57] rfl (by decide)
  rintro e w2 ⟨rfl, hb2⟩
  have B2 := Lib.hid (B1.out.trans ((((Below.refl w1.heap.size w1).alloc (Nat.le_refl _) _).trans (hb2.mono (by simp))).mono B1.out.size)); clear hb2
  rw [sum_nine]
  go_wp2_with fail
  refine (good_any 4 4 _ [0, 0, 0, 0] _ ?hr rfl (by simp) (by simp)).mono ?_
  case hr => exact Rd.made [0, 0, 0, 0] rfl (by decide)
  rintro e w3 ⟨rfl, hb3⟩
  have B3 := Lib.hid (B2.out.trans ((((Below.refl w2.heap.size w2).alloc (Nat.le_refl _) _).trans (hb3.mono (by simp))).mono B2.out.size)); clear hb3
  rw [good_zero]
  go_wp2_with fail
  go_ret
  exact ⟨rfl, B3.out⟩
end Go.Proofs.Ytlandgoifaleaaa
