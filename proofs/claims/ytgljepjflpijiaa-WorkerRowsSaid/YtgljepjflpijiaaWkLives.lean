/-
  The law's lives of layer 16: the document's example.
-/
import Derived.Test.YtgljepjflpijiaaWkC
import Derived.Test.YtgljepjflpijiaaSameI
namespace Go.Proofs.Ytgljepjflpijiaa
open Go.RowKit Go.Deep
set_option linter.unusedSimpArgs false
set_option linter.unusedVariables false

theorem sli_eight (w : World) : SlI (w.alloc (.cells #[.int .i64 1, .int .i64 3, .int .i64 5, .int .i64 7, .int .i64 9, .int .i64 11, .int .i64 13, .int .i64 15] 3)) (some ⟨w.heap.size, 0, none⟩) 8 8 [1, 3, 5, 7, 9, 11, 13, 15] := by
  have h0 : (w.alloc (.cells #[.int .i64 1, .int .i64 3, .int .i64 5, .int .i64 7, .int .i64 9, .int .i64 11, .int .i64 13, .int .i64 15] 3)).heap[w.heap.size]? = some (.cells #[.int .i64 1, .int .i64 3, .int .i64 5, .int .i64 7, .int .i64 9, .int .i64 11, .int .i64 13, .int .i64 15] 3 (0, 0)) := heap_alloc_new _ _
  refine ⟨fun _ => ⟨_, 0, rfl, (Array.getElem?_eq_some_iff.1 h0).1, fun j hj => ?_⟩, rfl, Nat.le_refl _, by decide⟩
  rw [cell_of_row _ _ _ _ _ _ h0]
  simp only [List.length_cons, List.length_nil] at hj
  rcases j with _ | _ | _ | _ | _ | _ | _ | _ | j <;> first | rfl | omega
set_option maxHeartbeats 1600000 in
theorem wklives_any {L : WkP} (hC : WC L) (W : World) : Calls Try.prog 9 #[] W (fun e w' => e = .returned (.bool true) ∧ Below W.heap.size W w') := by
  have B := Lib.hid (Below.refl W.heap.size W)
  have M1 := Lib.hid (hC.make W 1 2 (by unfold Nt.i64; omega) (by unfold Nt.i64; omega) (by unfold Wk.mayNew; omega))
  have M2 := Lib.hid (fun w => hC.none_ w 2 2 (by unfold Nt.i64; omega) (by unfold Nt.i64; omega) (by unfold Wk.mayNew; omega))
  have HC := Lib.hid hC
  go_enter Try.func9, Try.ntmps9
  go_wp2_with fail
  refine M1.out.mono ?_
  rintro e w1 ⟨q, X, rfl, l1, x1, b1⟩
  have L1 := Lib.hid l1; have B1 := Lib.hid b1; clear l1 b1 x1
  go_wp2_with fail
  refine (M2.out w1).mono ?_
  rintro e w2 ⟨rfl, b2⟩
  have L2 := Lib.hid (HC.out.below L1.out b2); have B2 := Lib.hid (B1.out.trans (b2.mono B1.out.size)); clear b2
  go_wp2_with fail
  refine (HC.out.units w2 X q _ L2.out).mono ?_
  rintro e w3 ⟨v, rfl, ov, b3⟩
  obtain ⟨A, c, rfl, hs⟩ := ov.sl
  have HU : Wk.units (Wk.new 1 2) 16 = [1, 3, 5, 7, 9, 11, 13, 15] := by decide
  rw [HU] at hs
  have S3 := Lib.hid hs; have B3 := Lib.hid (B2.out.trans (b3.mono B2.out.size))
  clear hs b3 ov
  go_wp2_with fail
  refine (same_any 8 c 8 A _ _ _ (S3.out.on ((Below.refl w3.heap.size w3).alloc (Nat.le_refl _) _)) (sli_eight w3) (by omega)).mono ?_
  rintro e w4 ⟨rfl, d, rfl⟩
  have B4 := Lib.hid (Below.drewN ((B3.out).alloc B3.out.size (.cells #[.int .i64 1, .int .i64 3, .int .i64 5, .int .i64 7, .int .i64 9, .int .i64 11, .int .i64 13, .int .i64 15] 3)) d)
  go_wp2_with fail
  go_ret
  exact ⟨rfl, B4.out⟩
end Go.Proofs.Ytgljepjflpijiaa
