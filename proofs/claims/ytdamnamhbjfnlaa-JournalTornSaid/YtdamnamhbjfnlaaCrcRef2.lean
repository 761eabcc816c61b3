/-
  The document's own Sum, More, Bytes, Read, Seal and Good; bytes as texts.
-/
import Derived.Test.YtdamnamhbjfnlaaCrcRef
namespace Go.Proofs.Ytdamnamhbjfnlaa
open Go.RowKit

set_option maxHeartbeats 400000 in
theorem refsum_any (n c : Nat) (A : Option Addr) (l : List Nat) (w : World) (hr : Rd w w.heap.size A l) (hn : n = l.length) (hl : l.length ≤ 2147483647) :
    Calls Try.prog 74 #[.slice A n c] w fun e w' => e = .returned (.int .u32 ((Crc.sum l : Nat) : Int)) ∧ w = w' := by
  have HR := Lib.hid hr; clear hr
  have HN := Lib.hid hn; clear hn
  go_enter Try.func74, Try.ntmps74
  go_wp2_with fail
  refine (refmore_any 4294967295 n c A l _ (by omega) HR.out HN.out hl).mono ?_
  rintro e w1 ⟨rfl, rfl⟩
  have hcl : Crc.crc 4294967295 l < 4294967296 := Crc.crc_lt (by omega) HR.out.1
  have HS : Hid (Crc.sum l = 4294967295 - Crc.crc 4294967295 l) := rfl
  generalize Crc.crc 4294967295 l = x at *
  go_wp2_with fail
  go_ret
  refine ⟨ret_int ?_, rfl⟩
  show (4294967295 - (x : Int)) = _
  rw [HS.out]; omega
set_option maxHeartbeats 400000 in
theorem refbytes_any (s : Nat) (w : World) (hs : s < 4294967296) :
    Calls Try.prog 73 #[.int .u32 s] w (BytesPost s w) := by
  go_enter Try.func73, Try.ntmps73
  go_wp2_with fail
  go_ret
  refine ⟨rfl, ⟨be4_byte s, fun _ => ⟨_, 0, rfl, by simp, fun j hj => ?_⟩⟩, (Below.refl _ _).alloc (Nat.le_refl _) _, by simp⟩
  rw [World.cell?_alloc_at _ _ _ _ rfl, Nat.zero_add]
  simp only [be4, List.length_cons, List.length_nil] at hj
  have hq : j = 0 ∨ j = 1 ∨ j = 2 ∨ j = 3 := by omega
  have e0 : (s : Int) / 16777216 = ((s / 16777216 % 256 : Nat) : Int) := by omega
  rw [e0]
  rcases hq with rfl | rfl | rfl | rfl <;> rfl
set_option maxHeartbeats 400000 in
theorem refseal_any (n c : Nat) (A : Option Addr) (l : List Nat) (w : World) (hr : Rd w w.heap.size A l) (hn : n = l.length) (hA : A = none → c = 0) (hl : l.length ≤ 1073741823) :
    Calls Try.prog 67 #[.slice A n c] w (SealPost l w) := by
  obtain ⟨i0, hi0, hz0, hz1, hz2⟩ := info_parts byteInfo
  have hn1 : n ≤ 1073741823 := by omega
  have HR := Lib.hid hr; clear hr
  have HN := Lib.hid hn; clear hn
  have HA := Lib.hid hA; clear hA
  have I0 := Lib.hid hi0; clear hi0
  have I1 := Lib.hid hz0; clear hz0
  have I2 := Lib.hid hz1; clear hz1
  have I3 := Lib.hid hz2; clear hz2
  clear hl
  have O1 : Hid (w.ownsRow w.heap.size 5 1 (.slice none 0 0) 0 []) := ⟨by simp, .inl ⟨rfl, rfl⟩⟩
  go_enter Try.func67, Try.ntmps67
  go_wp2_with (at_builtin; refine wpList_append_rd rfl (.tmp 4) (.tmp 5) _ rfl w.heap.size 5 i0 _ Try.underlying33 I0.out I1.out I2.out I3.out rfl (.slice none 0 0) 0 [] rfl O1.out w.heap.size n c A l rfl HR.out HN.out HA.out (by omega) (Nat.le_refl _) ?_; intro v2 w2 hown2 hg2; have O2 := Lib.hid hown2; have G2 := Lib.hid hg2; clear hown2 hg2)
  have B2 := Lib.hid ((Below.refl w.heap.size w).grown G2.out (Nat.le_refl _) (by simp [Value.ownBlock]))
  clear G2 O1
  refine (refsum_any n c A l w2 (HR.out.on B2.out) HN.out (by rw [← HN.out]; omega)).mono ?_
  rintro e w3 ⟨rfl, rfl⟩
  have hs := Crc.sum_lt l
  go_wp2_with fail
  refine (refbytes_any (Crc.sum l) w2 hs).mono ?_
  rintro e w4 ⟨rfl, hr4, hb4, _⟩
  have R4 := Lib.hid hr4; clear hr4
  have B4 := Lib.hid hb4; clear hb4
  have O4 := Lib.hid (own_below O2.out B4.out)
  have B5 := Lib.hid (B2.out.trans (B4.out.mono B2.out.size))
  clear O2 B4 hs
  go_wp2_with (at_builtin; refine wpList_append_rd rfl (.tmp 7) (.tmp 10) _ rfl w.heap.size 5 i0 _ Try.underlying33 I0.out I1.out I2.out I3.out rfl v2 (0 + n) ([] ++ vals l) rfl O4.out w4.heap.size 4 4 _ (be4 (Crc.sum l)) rfl R4.out rfl (by simp) (by omega) B5.out.size ?_; intro v6 w6 hown6 hg6; have O6 := Lib.hid hown6; have G6 := Lib.hid hg6; clear hown6 hg6)
  go_ret
  have hO := O6.out
  rw [Nat.zero_add, List.nil_append, ← vals_append, HN.out] at hO
  obtain ⟨g, c', rfl⟩ := own_form hO (by omega)
  refine ⟨g, c', rfl, hO, B5.out.grown G6.out B5.out.size ?_⟩
  intro k hk
  rcases O4.out.2 with ⟨rfl, _⟩ | ⟨g', cap, cur, rfl, hg', _⟩
  · simp [Value.ownBlock] at hk
  · simp only [Value.ownBlock, Option.some.injEq] at hk; omega
end Go.Proofs.Ytdamnamhbjfnlaa
