/-
  The walk of the statement CrcSums.
-/
import Derived.Test.YtlandgoifaleaaaCrcRef3
namespace Go.Proofs.Ytlandgoifaleaaa
open Go.RowKit

set_option maxHeartbeats 2000000 in
theorem sums_walk (A : Option Addr) (n c : Nat) (l : List Nat) (A' : Option Addr) (n' c' : Nat) (l' : List Nat) (w : World) (h : Sl w A n c l) (h' : Sl w A' n' c' l') :
    Calls Try.prog 3 #[.slice A n c, .slice A' n' c'] w fun e w' => e = .returned (.bool true) ∧ Below w.heap.size w w' := by
  have hn := h.cap
  have hm := h.max
  have hn' := h'.cap
  have hm' := h'.max
  have H := Lib.hid h; clear h
  have H' := Lib.hid h'; clear h'
  unfold maxLen at hm hm'
  go_enter Try.func3, Try.ntmps3
  go_wp2_with fail
  refine (lives_at _ (Below.refl _ _)).mono ?_
  rintro e w1 ⟨rfl, hb1⟩
  have B1 := Lib.hid hb1; clear hb1
  go_wp2_with fail
  refine (few_any n c A _ (by omega) (by unfold maxLen; omega)).mono ?_
  rintro e w2 ⟨rfl, rfl⟩
  go_wp2_with fail
  refine (few_any n' c' A' _ (by omega) (by unfold maxLen; omega)).mono ?_
  rintro e w2 ⟨rfl, rfl⟩
  have HF := Lib.hid (H.out.few); clear H
  have HF' := Lib.hid (H'.out.few); clear H'
  have HL : Hid ((l.take 300).length ≤ 100000) := by show _ ≤ _; rw [List.length_take]; omega
  have HL' : Hid ((l'.take 300).length ≤ 100000) := by show _ ≤ _; rw [List.length_take]; omega
  generalize min n 300 = m at *
  generalize l.take 300 = L at *
  generalize min n' 300 = m' at *
  generalize l'.take 300 = L' at *
  clear hn hm hn' hm'
  go_wp2_with fail
  refine (sum_at _ HF.out HL.out B1.out).mono ?_
  rintro e w3 ⟨rfl, hb3⟩
  clear B1
  have hs := Crc.sum_lt L
  have HE : Hid (Crc.sum L = Crc.sum L) := rfl
  generalize hse : Crc.sum L = s at hs ⊢
  have HSe := Lib.hid hse; clear hse HE
  have hb3 := hb3
  have hdr : ∀ W, Below w.heap.size w W → Below w.heap.size w W.drew := fun W hb => hb.drew
  go_wp2_with fail
  go_region_with (first
      | (go_at_call 12
         (with_reducible refine (refsum_any m c A L _ (HF.out.rd.on (hdr _ hb3)) HF.out.len (by have := HL.out; omega)).mono ?_)
         rintro e w' ⟨rfl, rfl⟩
         rw [HSe.out])
      | (go_at_call 13
         (with_reducible refine (more_at _ s hs HF'.out HL'.out (hdr _ hb3)).mono ?_)
         rintro e w13 ⟨rfl, hb13⟩)
      | (go_at_call 14
         (with_reducible refine (refMore_any s m' c' A' L' _ hs (HF'.out.rd.on hb13) HF'.out.len (by have := HL'.out; omega)).mono ?_)
         rintro e w' ⟨rfl, rfl⟩)
      | (go_at_call 15
         (with_reducible refine (bytes_any s _ hs).mono ?_)
         rintro e w15 ⟨rfl, hr, hb, hsz⟩
         have hb1 : Below w.heap.size w w15 := hb13.trans (hb.mono hb13.size)
         have hcv2 := conv_rd (c := 4) hr (be4_length s).symm
         have HR15 := Lib.hid hr
         clear hr hb hsz)
      | (go_at_call 16
         (with_reducible refine (refbytes_any s _ hs).mono ?_)
         rintro e w16 ⟨rfl, hr, hb, hsz⟩
         have hb2 : Below w.heap.size w w16 := hb1.trans (hb.mono hb1.size)
         have hcv3 := conv_rd (c := 4) hr (be4_length s).symm
         have hcv4 := conv_rd (c := 4) (HR15.out.on hb) (be4_length s).symm
         clear hr hb hsz))
  all_goals
    go_wp2_with fail
    go_ret
    exact ⟨rfl, by assumption⟩
end Go.Proofs.Ytlandgoifaleaaa
