/-
  The document's own answers for layer 1 (package pacesetterref01): what they come to, from any world.
-/
import Derived.Test.YtdamnamhbjfnlaaCrcTurn
import Derived.Deep.RegionWith
import Derived.Laws.BytesArg
namespace Go.Proofs.Ytdamnamhbjfnlaa
open Go.RowKit

theorem mod2_true {m : Nat} (h : ((m : Int) % 2 == 1) = true) : m % 2 = 1 := by rw [beq_iff_eq] at h; omega
theorem mod2_false {m : Nat} (h : ((m : Int) % 2 == 1) = false) : ¬ m % 2 = 1 := by rw [beq_eq_false_iff_ne] at h; omega
theorem ref_odd (m : Nat) (hm : m < 4294967296) (h : ((m : Int) % 2 == 1) = true) : bits .xor .u32 ((m : Int) / 2) 3988292384 = ((Crc.mv1 m : Nat) : Int) := by
  unfold Crc.mv1
  rw [if_pos (mod2_true h), show (m : Int) / 2 = ((m / 2 : Nat) : Int) from rfl, show (3988292384 : Int) = ((3988292384 : Nat) : Int) from rfl, u32_xor_nat _ _ (by omega) (by omega)]
theorem ref_even (m : Nat) (h : ((m : Int) % 2 == 1) = false) : (m : Int) / 2 = ((Crc.mv1 m : Nat) : Int) := by
  unfold Crc.mv1
  rw [if_neg (mod2_false h)]; rfl
theorem mvN_succ (k w : Nat) : Crc.mvN (k + 1) w = Crc.mv1 (Crc.mvN k w) := rfl

set_option maxHeartbeats 1000000 in
theorem refmore_any (s n c : Nat) (A : Option Addr) (l : List Nat) (w : World) (hs : s < 4294967296) (hr : Rd w w.heap.size A l) (hn : n = l.length) (hl : l.length ≤ 2147483647) :
    Calls Try.prog 78 #[.int .u32 s, .slice A n c] w fun e w' => e = .returned (.int .u32 ((Crc.crc s l : Nat) : Int)) ∧ w = w' := by
  have HN := Lib.hid hn
  have hn1 : n ≤ 2147483647 := by omega
  have HR := Lib.hid hr
  clear hr hn hl
  go_enter Try.func78, Try.ntmps78
  go_wp2_with fail
  go_loop [0, 5] (fun v i => ∃ k : Nat, k ≤ n ∧ i = .int .i64 k ∧ v = .int .u32 ((Crc.crc s (l.take k) : Nat) : Int)) (fun _ i => n - (intOf i).toNat)
  case atStart => exact ⟨0, by omega, rfl, rfl⟩
  case round =>
    obtain ⟨k, hk, rfl, rfl⟩ := hrel
    by_cases hlt : k < n
    · have hkl : k < l.length := by rw [← HN.out]; exact hlt
      have HS := Lib.hid (crc_snoc s l k hkl)
      have hwd : Crc.crc s (l.take k) < 4294967296 := Crc.crc_lt hs (fun x hx => HR.out.1 x (List.mem_of_mem_take hx))
      have hx := HR.out.byte k
      obtain ⟨b, o, rfl, hb, hc⟩ := HR.out.2 (by omega)
      have hck := hc k hkl
      clear hc hb
      generalize Crc.crc s (l.take k) = wd at *
      generalize l.getD k 0 = x at *
      have hxor : bits .xor .u32 (wd : Int) (x : Int) = ((wd ^^^ x : Nat) : Int) := u32_xor_nat _ _ hwd (by omega)
      have hin : wd ^^^ x < 4294967296 := Crc.xor_lt hwd (by omega)
      have HS2 : Hid (Crc.crc s (l.take (k + 1)) = Crc.mvN 8 (wd ^^^ x)) := HS.out
      clear HS
      generalize wd ^^^ x = y at *
      go_wp2_with fail
      go_loop [0, 6] (fun v i => ∃ j : Nat, j ≤ 8 ∧ i = .int .i64 j ∧ v = .int .u32 ((Crc.mvN j y : Nat) : Int)) (fun _ i => 8 - (intOf i).toNat)
      case atStart => exact ⟨0, by omega, rfl, rfl⟩
      case round =>
        obtain ⟨j, hj, rfl, rfl⟩ := hrel
        have hm := Crc.mvN_lt hin j
        have HM := Lib.hid (mvN_succ j y)
        clear hck
        by_cases hlj : j < 8
        · generalize Crc.mvN j y = z at *
          by_cases hp : ((z : Int) % 2 == 1) = true
          · have HV := Lib.hid (ref_odd z hm hp)
            go_wp2_with fail
            refine ⟨⟨j + 1, by omega, rfl, int_eq ?_⟩, by simp [intOf]; omega⟩
            rw [HV.out, HM.out]
          · have hp' : ((z : Int) % 2 == 1) = false := by simpa using hp
            have HV := Lib.hid (ref_even z hp')
            clear hp
            go_wp2_with fail
            refine ⟨⟨j + 1, by omega, rfl, int_eq ?_⟩, by simp [intOf]; omega⟩
            rw [HV.out, HM.out]
        · obtain rfl : j = 8 := by omega
          go_wp2_with fail
          refine ⟨⟨k + 1, by omega, rfl, int_eq ?_⟩, by simp [intOf]; omega⟩
          rw [HS2.out]
    · obtain rfl : k = n := by omega
      go_wp2_with fail
      go_ret
      refine ⟨ret_int ?_, rfl⟩
      show (_ : Int) = _
      rw [HN.out, List.take_length]
end Go.Proofs.Ytdamnamhbjfnlaa
