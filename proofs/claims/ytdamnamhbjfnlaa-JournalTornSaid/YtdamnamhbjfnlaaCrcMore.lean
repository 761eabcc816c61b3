/-
  More and Sum of package crc: what they answer, of any bytes, from any world.
-/
import Derived.Test.YtdamnamhbjfnlaaCrcMove
import Derived.Test.YtdamnamhbjfnlaaRd
import Derived.Deep.DeepFit
namespace Go.Proofs.Ytdamnamhbjfnlaa
open Go.RowKit

theorem not_u32 (s : Nat) (hs : s < 4294967296) : bits .xor .u32 IntKind.u32.max (s : Int) = ((4294967295 - s : Nat) : Int) := by
  rw [show IntKind.u32.max = ((4294967295 : Nat) : Int) from rfl, u32_xor_nat _ _ (by omega) hs, ← Crc.not_xor hs]

theorem idx_u8 (wd x : Nat) (hx : x < 256) : bits .xor .u8 ((wd : Int) % 256) (x : Int) = (((wd % 256) ^^^ x : Nat) : Int) := by
  rw [show (wd : Int) % 256 = ((wd % 256 : Nat) : Int) from rfl, u8_xor_nat _ _ (by omega) hx]
theorem step_u32 (wd x : Nat) (hw : wd < 4294967296) (hx : x < 256) : bits .xor .u32 ((wd : Int) / 256) ((Crc.mv8 ((wd % 256) ^^^ x) : Nat) : Int) = ((Crc.step wd x : Nat) : Int) := by
  have hi : (wd % 256) ^^^ x < 256 := Nat.xor_lt_two_pow (n := 8) (by omega) hx
  rw [show (wd : Int) / 256 = ((wd / 256 : Nat) : Int) from rfl, u32_xor_nat _ _ (by omega) (Crc.mv8_lt (by omega)), Crc.step_eq]
theorem crc_snoc (w : Nat) (l : List Nat) (k : Nat) (h : k < l.length) : Crc.crc w (l.take (k + 1)) = Crc.step (Crc.crc w (l.take k)) (l.getD k 0) := by
  rw [take_snoc l k h, Crc.crc_append]; rfl

set_option maxRecDepth 100000 in
set_option maxHeartbeats 400000 in
theorem more_any (s n c : Nat) (A : Option Addr) (l : List Nat) (w : World) (hs : s < 4294967296) (hr : Rd w w.heap.size A l) (hn : n = l.length) (hl : l.length ≤ 2147483647) :
    Calls Try.prog 75 #[.int .u32 s, .slice A n c] w fun e w' => e = .returned (.int .u32 ((Crc.more s l : Nat) : Int)) ∧ Below w.heap.size w w' := by
  by_cases h0 : l = []
  · subst h0
    subst hn
    go_enter Try.func75, Try.ntmps75
    go_wp2_with fail
    go_ret
    exact ⟨by rw [Crc.more_nil hs]; rfl, Below.refl _ _⟩
  · have hpos : 0 < l.length := List.length_pos_iff.2 h0
    have hne : ((n : Int) == 0) = false := by rw [beq_eq_false_iff_ne]; omega
    have hz := zeroArr
    have HN := Lib.hid hn
    have hn1 : n ≤ 2147483647 := by omega
    have hn2 : 0 < n := by omega
    have HR := Lib.hid hr
    have H0 := Lib.hid h0
    clear hr h0 hn hpos hl
    go_enter Try.func75, Try.ntmps75
    go_wp2_with fail
    refine (makeEffects_any _).mono ?_
    rintro e w1 ⟨t, rfl, he, hb1⟩
    have HE := Lib.hid he; clear he
    have HB := Lib.hid hb1; clear hb1
    have HI : Hid ((Try.prog.info? 96).map (·.size) = some t.size) := by rw [HE.out.1]; exact (by kernel_rfl : (Try.prog.info? 96).map (·.size) = some 256)
    have HG : Hid ((w1.alloc (.cells zrow 96)).heap[w1.heap.size]? = some (.cells zrow 96 (0, 0))) := heap_alloc_last w1 _
    have HX := Lib.hid (not_u32 s hs)
    go_wp2_with (refine wpList_store_row rfl 96 (.tmp 5) (.tmp 13) rfl w1.heap.size t rfl rfl 96 zrow HG.out HI.out (zrow_size.trans HE.out.1.symm) HE.out.one ?_; rw [World.setRow_alloc_new])
    rw [HX.out]
    clear HG HI hz hne
    have FR : Hid (Rd (w1.alloc (.cells t 96)) (w1.heap.size + 1) A l) := by
      have := HR.out.on (HB.out.alloc HB.out.size (.cells t 96))
      exact this.more (by simp)
    have FT : Hid (∀ i, i < 256 → (w1.alloc (.cells t 96)).cell? ⟨w1.heap.size, i, none⟩ = some (.int .u32 ((Crc.mv8 i : Nat) : Int))) := fun i hi => by
      rw [World.cell?_alloc_at _ _ _ _ rfl]; exact HE.out.2 i hi
    have FB := Lib.hid (HB.out.alloc HB.out.size (.cells t 96))
    clear HE HB HR
    generalize w1.alloc (.cells t 96) = wl at FR FT FB ⊢
    generalize w1.heap.size = g at FR FT ⊢
    go_loop [6, 18] (fun v i => ∃ k : Nat, k ≤ n ∧ i = .int .i64 k ∧ v = .int .u32 ((Crc.crc (4294967295 - s) (l.take k) : Nat) : Int)) (fun _ i => n - (intOf i).toNat)
    case atStart => exact ⟨0, by omega, rfl, rfl⟩
    case round =>
      obtain ⟨k, hk, rfl, rfl⟩ := hrel
      by_cases hlt : k < n
      · have hkl : k < l.length := by rw [← HN.out]; exact hlt
        have HS := Lib.hid (crc_snoc (4294967295 - s) l k hkl)
        have hwd : Crc.crc (4294967295 - s) (l.take k) < 4294967296 := Crc.crc_lt (by omega) (fun x hx => FR.out.1 x (List.mem_of_mem_take hx))
        have hx := FR.out.byte k
        obtain ⟨b, o, rfl, hb, hc⟩ := FR.out.2 (by omega)
        have hck := hc k hkl
        clear hc hb
        generalize Crc.crc (4294967295 - s) (l.take k) = wd at *
        generalize l.getD k 0 = x at *
        have hidx := idx_u8 wd x hx
        have hil : ((wd % 256) ^^^ x : Nat) < 256 := Nat.xor_lt_two_pow (n := 8) (by omega) hx
        have hct := FT.out _ hil
        have HV := Lib.hid (step_u32 wd x hwd hx)
        generalize ((wd % 256) ^^^ x : Nat) = ix at *
        go_wp2_with fail
        refine ⟨⟨k + 1, by omega, rfl, int_eq ?_⟩, by simp [intOf]; omega⟩
        rw [HV.out, HS.out]
      · obtain rfl : k = n := by omega
        have hwd : Crc.crc (4294967295 - s) (l.take k) < 4294967296 := Crc.crc_lt (by omega) (fun x hx => FR.out.1 x (List.mem_of_mem_take hx))
        have HV := Lib.hid (not_u32 _ hwd)
        go_wp2_with fail
        go_ret
        refine ⟨ret_int ?_, FB.out⟩
        show bits _ _ _ _ = _
        rw [HV.out, HN.out, List.take_length]; rfl

set_option maxHeartbeats 400000 in
theorem sum_any (n c : Nat) (A : Option Addr) (l : List Nat) (w : World) (hr : Rd w w.heap.size A l) (hn : n = l.length) (hl : l.length ≤ 2147483647) :
    Calls Try.prog 70 #[.slice A n c] w fun e w' => e = .returned (.int .u32 ((Crc.sum l : Nat) : Int)) ∧ Below w.heap.size w w' := by
  have HR := Lib.hid hr; clear hr
  have HN := Lib.hid hn; clear hn
  go_enter Try.func70, Try.ntmps70
  go_wp2_with fail
  refine (more_any 0 n c A l _ (by omega) HR.out HN.out hl).mono ?_
  rintro e w1 ⟨rfl, hb⟩
  go_wp2_with fail
  go_ret
  exact ⟨rfl, hb⟩
end Go.Proofs.Ytdamnamhbjfnlaa
