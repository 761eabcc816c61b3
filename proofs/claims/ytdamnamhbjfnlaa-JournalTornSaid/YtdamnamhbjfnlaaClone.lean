/-
  bytes.Clone: what it answers, from any world.
-/
import Derived.Test.YtdamnamhbjfnlaaBytes
import Derived.Lib.SliceRun
import Derived.WalkSpells
namespace Go.Proofs.Ytdamnamhbjfnlaa
open Go.RowKit

set_option maxHeartbeats 400000 in
theorem clone_any (n c : Nat) (A : Option Addr) (l : List Nat) (w : World) (h : Sl w A n c l) (hl : n ≤ 1000000000) :
    Calls Try.prog 60 #[.slice A n c] w (BPost l w) := by
  have H := Lib.hid h
  have hnil := fun (w : World) (a : Option Addr) (n c : Nat) => Lib.run_eql_slice_nil (P := Try.prog) w 33 5 a n c 0 0 Try.underlying33
  rcases A with _ | ad
  · obtain rfl := h.nil rfl
    have hn : n = 0 := by have := h.cap; omega
    subst hn
    have hl0 : l = [] := by have := h.len; exact List.eq_nil_of_length_eq_zero this.symm
    subst hl0
    clear h
    go_enter Try.func60, Try.ntmps60
    go_wp2_with fail
    go_ret
    exact BPost.mk (OwnB.none_ _ _) (Below.refl _ _)
  · have O1 : Hid (OwnB (w.alloc (.cells #[] 5)) w.heap.size (.slice (some ⟨w.heap.size, 0, none⟩) 0 0) []) := ⟨World.ownsRow_made w #[] 0 (Nat.le_refl _) (Nat.zero_le _) rfl, by simp⟩
    have HB := Lib.hid ((Below.refl w.heap.size w).alloc (Nat.le_refl _) (.cells #[] 5))
    have HL : Hid (([] : List Nat).length + l.length ≤ 140737488355328) := by show _ ≤ _; rw [← h.len]; simp; omega
    have hs0 : (w.alloc (.cells #[] 5)).heap.size = w.heap.size + 1 := by simp
    have HS := Lib.hid hs0
    clear h hs0 hl
    go_enter Try.func60, Try.ntmps60
    go_wp2_with (at_builtin; refine wpList_append_own_rd rfl (.tmp 5) (.tmp 6) rfl w.heap.size _ [] rfl O1.out n c _ l rfl (H.out.on HB.out) HL.out (by rw [HS.out]; omega) ?_; intro v2 w2 hown2 hb2; have O2 := Lib.hid hown2; have B2 := Lib.hid hb2; clear hown2 hb2)
    go_ret
    exact BPost.mk O2.out (HB.out.trans B2.out)
end Go.Proofs.Ytdamnamhbjfnlaa
