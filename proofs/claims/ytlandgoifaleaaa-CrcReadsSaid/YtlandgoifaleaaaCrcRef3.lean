/-
  The document's own Good.
-/
import Derived.Test.YtlandgoifaleaaaCrcRef2
namespace Go.Proofs.Ytlandgoifaleaaa
open Go.RowKit

theorem good_iff {l : List Nat} (h4 : 4 ≤ l.length) (hl : ∀ x ∈ l, x < 256) : good l = decide (sealed (l.take (l.length - 4)) = l) := by
  have hs := Crc.sum_lt (l.take (l.length - 4))
  have hd : (l.drop (l.length - 4)).length = 4 := by rw [List.length_drop]; omega
  unfold good sealed
  rw [decide_eq_true h4, Bool.true_and, decide_eq_decide]
  generalize Crc.sum (l.take (l.length - 4)) = s at hs
  have hb : ∀ x ∈ l.drop (l.length - 4), x < 256 := fun x hx => hl x (List.mem_of_mem_drop hx)
  have key : rdN (l.drop (l.length - 4)) = s ↔ be4 s = l.drop (l.length - 4) := by
    generalize l.drop (l.length - 4) = t at hd hb
    match t, hd, hb with
    | [a, b, c, d], _, hb =>
      have h1 := hb a (by simp)
      have h2 := hb b (by simp)
      have h3 := hb c (by simp)
      have h4 := hb d (by simp)
      rw [rd4_eq]
      simp only [be4, List.cons.injEq, and_true]
      constructor
      · intro e; subst e; omega
      · rintro ⟨e1, e2, e3, e4⟩; omega
  rw [key]
  constructor
  · intro e
    rw [e, List.take_append_drop]
  · intro e
    have e2 : l.take (l.length - 4) ++ be4 s = l.take (l.length - 4) ++ l.drop (l.length - 4) := by rw [e, List.take_append_drop]
    exact List.append_cancel_left e2

set_option maxHeartbeats 1000000 in
theorem refgood_any (n c : Nat) (A : Option Addr) (l : List Nat) (w : World) (h : Sl w A n c l) (hl : l.length ≤ 1073741823) :
    Calls Try.prog 20 #[.slice A n c] w fun e w' => e = .returned (.bool (good l)) ∧ Below w.heap.size w w' := by
  have hn1 : n ≤ 1073741823 := by rw [h.len]; exact hl
  have hcap := h.cap
  by_cases h4 : n < 4
  · have HG : Hid (good l = false) := by show good l = false; unfold good; rw [decide_eq_false (by rw [← h.len]; omega)]; rfl
    have hd : decide ((4 : Int) ≤ n) = false := by simp; omega
    have hd2 : decide (0 ≤ (n : Int) - 4) = false := by simp; omega
    clear h hl
    go_enter Try.func20, Try.ntmps20
    go_wp2_with fail
    go_quiet (fail)
    go_wp2_with fail
    go_ret
    rw [HG.out]
    exact ⟨rfl, Below.drewN (Below.refl _ _) _⟩
  · have hn4 : 4 ≤ n := by omega
    have hk : n - 4 ≤ n := by omega
    have HL : Hid (good l = decide (sealed (l.take (n - 4)) = l)) := by show good l = _; rw [good_iff (by rw [← h.len]; omega) h.rd.1, h.len]
    have HB : Hid (∀ x ∈ l, x < 256) := h.rd.1
    have HT := Lib.hid (h.take hk)
    have HLe : Hid ((l.take (n - 4)).length ≤ 1073741823) := by show _ ≤ _; rw [List.length_take]; omega
    have HTB : Hid (∀ x ∈ l.take (n - 4), x < 256) := HT.out.rd.1
    have hcv : ∀ W, Below w.heap.size w W → (convert 22 9 (.slice A n c)).run Try.prog W = .ok (.string (txt l)) W := fun W hb => conv_rd (h.rd.on hb) h.len
    have hdr : ∀ W, Below w.heap.size w W → Below w.heap.size w W.drew := fun W hb => hb.drew
    have hb0 := Below.refl w.heap.size w
    have hd : decide ((4 : Int) ≤ n) = true := by simp; omega
    clear h hl
    generalize l.take (n - 4) = L at *
    go_enter Try.func20, Try.ntmps20
    go_wp2_with fail
    go_region_with (first
      | (go_at_call 22
         (with_reducible refine (refseal_any (n - 4) c A L _ ?_ HT.out.len HT.out.nil HLe.out).mono ?_)
         exact HT.out.rd.on (by first | assumption | exact hdr _ (by assumption))
         rintro e w' ⟨g, c', rfl, ho, hb⟩
         have hb1 : Below w.heap.size w w' := (hdr _ hb0).trans (hb.mono (by simp))
         have hcv2 := conv_rd (c := c') (Rd.of_own ho (sealed_byte HTB.out)) (sealed_length L).symm
         clear ho hb))
    all_goals
      go_wp2_with fail
      go_ret
      refine ⟨?_, by assumption⟩
      rw [HL.out, ← txt_eq (sealed_byte HTB.out) HB.out]
      rfl
end Go.Proofs.Ytlandgoifaleaaa
