/-
  Good and Seal of package crc: what they answer, from any world.
-/
import Derived.Test.YtdamnamhbjfnlaaCrcIo
import Derived.Test.YtdamnamhbjfnlaaBytes
import Derived.Laws.AppendOwnNone
namespace Go.Proofs.Ytdamnamhbjfnlaa
open Go.RowKit

/-- Are the last four bytes the check of those ahead of them? -/
def good (l : List Nat) : Bool := decide (4 ≤ l.length) && decide (rdN (l.drop (l.length - 4)) = Crc.sum (l.take (l.length - 4)))

set_option maxHeartbeats 400000 in
theorem good_any (n c : Nat) (A : Option Addr) (l : List Nat) (w : World) (hr : Rd w w.heap.size A l) (hn : n = l.length) (hc : n ≤ c) (hl : l.length ≤ 2147483647) :
    Calls Try.prog 72 #[.slice A n c] w fun e w' => e = .returned (.bool (good l)) ∧ Below w.heap.size w w' := by
  by_cases h4 : n < 4
  · have HG : Hid (good l = false) := by show good l = false; unfold good; rw [decide_eq_false (by omega)]; rfl
    clear hr hn hl
    go_enter Try.func72, Try.ntmps72
    go_wp2_with fail
    go_ret
    rw [HG.out]
    exact ⟨rfl, Below.refl _ _⟩
  · have hn1 : n ≤ 2147483647 := by omega
    have hn4 : 4 ≤ n := by omega
    have HG : Hid (good l = decide (rdN (l.drop (n - 4)) = Crc.sum (l.take (n - 4)))) := by show good l = _; unfold good; rw [decide_eq_true (by omega : 4 ≤ l.length), hn]; rfl
    have HR := Lib.hid hr
    obtain ⟨b, o, rfl, hb, hcl⟩ := hr.2 (by omega)
    have HD : Hid (Rd w w.heap.size (some ⟨b, o + (n - 4), none⟩) (l.drop (n - 4))) := by
      have := hr.drop (k := n - 4) (c := n) (by omega) (fun a => ⟨a.block, a.off + (n - 4), a.spot⟩) (fun _ _ => rfl)
      rw [if_neg (by omega)] at this
      exact this
    have HL : Hid ((l.drop (n - 4)).length = 4) := by show _ = _; rw [List.length_drop]; omega
    have HN := Lib.hid hn
    clear hr hb hcl hn hl
    go_enter Try.func72, Try.ntmps72
    go_wp2_with fail
    refine (read_any (n - (n - 4)) _ _ (l.drop (n - 4)) _ HD.out (by rw [HL.out]; omega)).mono ?_
    rintro e w1 ⟨rfl, hb1⟩
    rw [show rdE (l.drop (n - 4)) = 0 from by unfold rdE; rw [if_pos HL.out]]
    have HT : Hid (Rd w1 w1.heap.size (some ⟨b, o, none⟩) (l.take (n - 4))) := (HR.out.take _).on hb1
    have HB1 := Lib.hid hb1; clear hb1
    have HK : Hid ((l.take (n - 4)).length = n - 4) := by show _ = _; rw [List.length_take, ← HN.out]; omega
    clear HD HL HR
    generalize rdN (l.drop (n - 4)) = v at HG ⊢
    generalize l.take (n - 4) = lt at *
    go_wp2_with fail
    refine (sum_any (n - 4) _ _ lt _ HT.out HK.out.symm (by rw [HK.out]; omega)).mono ?_
    rintro e w2 ⟨rfl, hb2⟩
    have HB2 := Lib.hid hb2; clear hb2
    go_wp2_with fail
    go_ret
    rw [HG.out]
    refine ⟨?_, HB1.out.trans (HB2.out.mono HB1.out.size)⟩
    show Ending.returned (.bool _) = _
    congr 2
    rw [Bool.eq_iff_iff]
    simp [Int.ofNat_inj]

def SealPost (l : List Nat) (w : World) (e : Ending) (w' : World) : Prop :=
  ∃ g c, e = .returned (.slice (some ⟨g, 0, none⟩) (l.length + 4) c) ∧ w'.ownsRow w.heap.size 5 1 (.slice (some ⟨g, 0, none⟩) (l.length + 4) c) (l.length + 4) (vals (l ++ be4 (Crc.sum l))) ∧ Below w.heap.size w w'

set_option maxHeartbeats 400000 in
theorem seal_any (n c : Nat) (A : Option Addr) (l : List Nat) (w : World) (hr : Rd w w.heap.size A l) (hn : n = l.length) (hA : A = none → c = 0) (hl : l.length ≤ 1073741823) :
    Calls Try.prog 64 #[.slice A n c] w (SealPost l w) := by
  obtain ⟨i0, hi0, hz0, hz1, hz2⟩ := info_parts byteInfo
  have hn1 : n ≤ 1073741823 := by omega
  have HR := Lib.hid hr; clear hr
  have HN := Lib.hid hn; clear hn
  have HA := Lib.hid hA; clear hA
  have I0 := Lib.hid hi0; clear hi0
  have I1 := Lib.hid hz0; clear hz0
  have I2 := Lib.hid hz1; clear hz1
  have I3 := Lib.hid hz2; clear hz2
  clear hl
  go_enter Try.func64, Try.ntmps64
  go_wp2_with (first
    | (at_make; refine wpList_make_own _ rfl _ _ 33 rfl w.heap.size 5 i0 (.int .u8 0) 1 Try.underlying33 I0.out I1.out I2.out _ _ _ (n + 4) rfl rfl (by omega) (by rw [I3.out]; omega) (by unfold maxLen; omega) (Nat.le_refl _) ?_; intro w1 hown1 hg1; have O1 := Lib.hid hown1; have G1 := Lib.hid hg1; clear hown1 hg1)
    | (at_builtin; refine wpList_append_rd rfl (.tmp 8) (.tmp 9) _ rfl w.heap.size 5 i0 _ Try.underlying33 I0.out I1.out I2.out I3.out rfl (.slice (some ⟨w.heap.size, 0, none⟩) 0 (n + 4)) 0 [] rfl O1.out w1.heap.size n c A l rfl (HR.out.on ((Below.refl _ _).grown G1.out (Nat.le_refl _) (by simp))) HN.out HA.out (by omega) G1.out.size ?_; intro v2 w2 hown2 hg2; have O2 := Lib.hid hown2; have G2 := Lib.hid hg2; clear hown2 hg2))
  have B1 := Lib.hid ((Below.refl w.heap.size w).grown G1.out (Nat.le_refl _) (by simp))
  have B2 := Lib.hid (B1.out.grown G2.out B1.out.size (by simp [Value.ownBlock]))
  clear G1 G2 O1
  refine (sum_any n c A l w2 (HR.out.on B2.out) HN.out (by rw [← HN.out]; omega)).mono ?_
  rintro e w3 ⟨rfl, hb3⟩
  have B3 := Lib.hid hb3; clear hb3
  have hs := Crc.sum_lt l
  go_wp2_with fail
  refine (bytes_any (Crc.sum l) w3 hs).mono ?_
  rintro e w4 ⟨rfl, hr4, hb4, _⟩
  have R4 := Lib.hid hr4; clear hr4
  have B4 := Lib.hid hb4; clear hb4
  have O4 := Lib.hid (own_below (own_below O2.out B3.out) B4.out)
  have B5 := Lib.hid (B2.out.trans ((B3.out.trans (B4.out.mono B3.out.size)).mono B2.out.size))
  clear O2 B3 B4 hs
  go_wp2_with (at_builtin; refine wpList_append_rd rfl (.tmp 11) (.tmp 14) _ rfl w.heap.size 5 i0 _ Try.underlying33 I0.out I1.out I2.out I3.out rfl v2 (0 + n) ([] ++ vals l) rfl O4.out w4.heap.size 4 4 _ (be4 (Crc.sum l)) rfl R4.out rfl (by simp) (by omega) B5.out.size ?_; intro v6 w6 hown6 hg6; have O6 := Lib.hid hown6; have G6 := Lib.hid hg6; clear hown6 hg6)
  go_ret
  have hO := O6.out
  rw [Nat.zero_add, List.nil_append, ← vals_append, HN.out] at hO
  obtain ⟨g, c', rfl⟩ := own_form hO (by omega)
  refine ⟨g, c', rfl, hO, B5.out.grown G6.out B5.out.size ?_⟩
  intro k hk
  rcases O4.out.2 with ⟨rfl, _⟩ | ⟨g', cap, cur, rfl, hg', _⟩
  · simp [Value.ownBlock] at hk
  · simp only [Value.ownBlock, Option.some.injEq] at hk; omega
end Go.Proofs.Ytdamnamhbjfnlaa
