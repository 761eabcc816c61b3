/-
  Package lease: is it held, is it free, may it be asked for. No condition.
-/
import Derived.Test.YtemnioijgkahcaaLd1
import Derived.Lib.MinMax
namespace Go.Proofs.Ytemnioijgkahcaa
open Go.RowKit Go.Deep Go.Maps

theorem lsheld_any (W : World) (a b c now : Int) {x : Bool} (hx : x = true ↔ c ≠ 0 ∧ now < c) : Calls Try.prog 26 #[leV a b c, .int .i64 now] W (fun e w' => e = .returned (.bool x) ∧ Below W.heap.size W w') := by
  have C := Lib.hid (lsdropped_any (W.alloc (.cells #[.int .i64 a, .int .i64 b, .int .i64 c] 36)) a b c)
  have B0 := Lib.hid ((Below.refl W.heap.size W).alloc (Nat.le_refl _) (.cells #[.int .i64 a, .int .i64 b, .int .i64 c] 36))
  have R0 := Lib.hid (heap_alloc_new W (.cells #[.int .i64 a, .int .i64 b, .int .i64 c] 36))
  by_cases hc : c = 0
  · have hv : (c == 0) = true := by simp [hc]
    obtain rfl : x = false := by rw [Bool.eq_false_iff]; intro h; exact (hx.1 h).1 hc
    rw [hv] at C
    clear hx hc hv
    unfold leV at *
    go_enter Try.func26, Try.ntmps26
    go_wp2_with (go_at_call 27; (with_reducible refine C.out.mono ?_); rintro e w1 ⟨rfl, hb⟩; have B1 := Lib.hid (B0.out.trans (hb.mono B0.out.size)); clear hb)
    go_ret
    exact ⟨rfl, B1.out⟩
  · have hv : (c == 0) = false := by simp [hc]
    have hx2 : x = decide (now < c) := by rw [Bool.eq_iff_iff, hx]; simp [hc]
    subst hx2
    rw [hv] at C
    clear hx hc hv
    unfold leV at *
    go_enter Try.func26, Try.ntmps26
    go_wp2_with (go_at_call 27; (with_reducible refine C.out.mono ?_); rintro e w1 ⟨rfl, hb⟩; have B1 := Lib.hid (B0.out.trans (hb.mono B0.out.size)); have R1 := blk_on R0.out hb; have c2 : w1.cell? ⟨W.heap.size, 2, none⟩ = some (.int .i64 c) := (by rw [cell_of_row w1 W.heap.size 2 _ _ _ R1]; rfl); clear hb R1)
    go_ret
    exact ⟨rfl, B1.out⟩
theorem lsfree_any (W : World) (a b c now m : Int) (h1 : 0 ≤ c) (h2 : c ≤ 1099511627776) (h3 : 0 ≤ m) (h4 : m ≤ 1048576) {x : Bool} (hx : x = true ↔ c = 0 ∨ Ls.late c m ≤ now) : Calls Try.prog 22 #[leV a b c, .int .i64 now, .int .i64 m] W (fun e w' => e = .returned (.bool x) ∧ Below W.heap.size W w') := by
  have C := Lib.hid (lsdropped_any (W.alloc (.cells #[.int .i64 a, .int .i64 b, .int .i64 c] 36)) a b c)
  have B0 := Lib.hid ((Below.refl W.heap.size W).alloc (Nat.le_refl _) (.cells #[.int .i64 a, .int .i64 b, .int .i64 c] 36))
  have R0 := Lib.hid (heap_alloc_new W (.cells #[.int .i64 a, .int .i64 b, .int .i64 c] 36))
  have CL := Lib.hid (fun W => lslater_any W c m (by omega) (by omega) (by omega) (by omega))
  by_cases hc : c = 0
  · have hv : (c == 0) = true := by simp [hc]
    obtain rfl : x = true := hx.2 (.inl hc)
    rw [hv] at C
    clear hx hc hv h1 h2 h3 h4
    unfold leV at *
    go_enter Try.func22, Try.ntmps22
    go_wp2_with (go_at_call 27; (with_reducible refine C.out.mono ?_); rintro e w1 ⟨rfl, hb⟩; have B1 := Lib.hid (B0.out.trans (hb.mono B0.out.size)); clear hb)
    go_ret
    exact ⟨rfl, B1.out⟩
  · have hv : (c == 0) = false := by simp [hc]
    have hx2 : x = decide (Ls.late c m ≤ now) := by rw [Bool.eq_iff_iff, hx]; simp [hc]
    subst hx2
    rw [hv] at C
    generalize Ls.late c m = d at *
    clear hx hc hv h1 h2 h3 h4
    unfold leV at *
    go_enter Try.func22, Try.ntmps22
    go_wp2_with (first
      | (go_at_call 27; (with_reducible refine C.out.mono ?_); rintro e w1 ⟨rfl, hb⟩; have B1 := Lib.hid (B0.out.trans (hb.mono B0.out.size)); have R1 := blk_on R0.out hb; have c2 : w1.cell? ⟨W.heap.size, 2, none⟩ = some (.int .i64 c) := (by rw [cell_of_row w1 W.heap.size 2 _ _ _ R1]; rfl); clear hb R1)
      | (go_at_call 24; (with_reducible refine (CL.out _).mono ?_); rintro e w2 ⟨rfl, rfl⟩))
    go_ret
    exact ⟨rfl, B1.out⟩
theorem lswithin_any (n : Int) (W : World) : Calls Try.prog 33 #[.int .i64 n, .int .i64 0, .int .i64 1048576] W (fun e w' => e = .returned (.int .i64 (max 0 (min n 1048576))) ∧ w' = W) := by
  go_enter Try.func33, Try.ntmps33
  go_wp2_with fail
  go_ret
  exact ⟨rfl, rfl⟩
theorem lscut_any (n : Int) (W : World) : Calls Try.prog 20 #[.int .i64 n] W (fun e w' => e = .returned (.int .i64 (max 0 (min n 1048576))) ∧ w' = W) := by
  have C := Lib.hid (lswithin_any n W)
  generalize max 0 (min n 1048576) = d at *
  go_enter Try.func20, Try.ntmps20
  go_wp2_with (go_at_call 33; (with_reducible refine C.out.mono ?_); rintro e w1 ⟨rfl, rfl⟩)
  go_ret
  exact ⟨rfl, rfl⟩
set_option maxHeartbeats 3200000 in
theorem lsmay_any (W : World) (k : ByteArray) (h now ttl : Int) (hk : k.size ≤ maxLen) {x : Bool} (hx : x = true ↔ Ls.Right k h now ttl) : Calls Try.prog 21 #[.string k, .int .i64 h, .int .i64 now, .int .i64 ttl] W (fun e w' => e = .returned (.bool x) ∧ w' = W) := by
  have C := Lib.hid (fun W => lscut_any ttl W)
  have hks : (k.size : Int) ≤ 9223372036854775807 := by unfold maxLen at hk; omega
  have NO : ¬ Ls.Right k h now ttl → x = false := fun h => by rw [Bool.eq_false_iff]; intro h2; exact h (hx.1 h2)
  by_cases g1 : k.size = 0
  · obtain rfl := NO fun h => by have := h.1; omega
    have hk : k = ⟨#[]⟩ := ByteArray.ext (Array.eq_empty_of_size_eq_zero g1)
    subst hk
    clear hx NO hks g1
    go_enter Try.func21, Try.ntmps21
    go_wp2_with fail
    go_ret
    exact ⟨rfl, rfl⟩
  have hke : k.toList.isEmpty = false := by
    rw [Bool.eq_false_iff]
    intro h
    refine g1 ?_
    have h1 : k.toList = ByteArray.toList ⟨#[]⟩ := (List.isEmpty_iff.1 h).trans (by rw [ByteArray.toList_eq])
    rw [Kv.teq.1 (beq_iff_eq.2 h1)]; rfl
  by_cases g2 : (k.size : Int) ≤ 16
  case neg =>
    obtain rfl := NO fun h => by have := h.2.1; omega
    clear hx NO
    go_enter Try.func21, Try.ntmps21
    go_wp2_with fail
    go_ret
    exact ⟨rfl, rfl⟩
  by_cases g3 : 0 ≤ h
  case neg =>
    obtain rfl := NO fun h => by have := h.2.2.1; omega
    clear hx NO
    go_enter Try.func21, Try.ntmps21
    go_wp2_with fail
    go_ret
    exact ⟨rfl, rfl⟩
  by_cases g4 : h ≤ 63
  case neg =>
    obtain rfl := NO fun h => by have := h.2.2.2.1; omega
    clear hx NO
    go_enter Try.func21, Try.ntmps21
    go_wp2_with fail
    go_ret
    exact ⟨rfl, rfl⟩
  by_cases g5 : 0 ≤ now
  case neg =>
    obtain rfl := NO fun h => by have := h.2.2.2.2.1.1; omega
    clear hx NO
    go_enter Try.func21, Try.ntmps21
    go_wp2_with fail
    go_ret
    exact ⟨rfl, rfl⟩
  by_cases g6 : now ≤ 1099511627776
  case neg =>
    obtain rfl := NO fun h => by have := h.2.2.2.2.1.2; omega
    clear hx NO
    go_enter Try.func21, Try.ntmps21
    go_wp2_with fail
    go_ret
    exact ⟨rfl, rfl⟩
  by_cases g7 : 0 < ttl
  case neg =>
    obtain rfl := NO fun h => by have := h.2.2.2.2.2.1; omega
    clear hx NO
    go_enter Try.func21, Try.ntmps21
    go_wp2_with fail
    go_ret
    exact ⟨rfl, rfl⟩
  obtain ⟨d, hd⟩ : ∃ d, d = max 0 (min ttl 1048576) := ⟨_, rfl⟩
  have hE : (ttl == d) = x := by
    rw [Bool.eq_iff_iff, hx, beq_iff_eq, hd]
    constructor
    · intro h2
      exact ⟨by omega, by omega, g3, g4, ⟨g5, g6⟩, by omega, by omega⟩
    · intro h2
      have := h2.2.2.2.2.2.2
      omega
  rw [← hd] at C
  clear hx NO hd
  go_enter Try.func21, Try.ntmps21
  go_wp2_with (go_at_call 20; (with_reducible refine (C.out _).mono ?_); rintro e w1 ⟨rfl, rfl⟩)
  go_ret
  exact ⟨rfl, rfl⟩
end Go.Proofs.Ytemnioijgkahcaa
