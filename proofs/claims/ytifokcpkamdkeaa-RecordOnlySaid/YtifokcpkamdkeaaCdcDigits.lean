/-
  The digits that a reader of package codec reads: what they tell, from any world.
-/
import Derived.Test.YtifokcpkamdkeaaCdcReader
namespace Go.Proofs.Ytifokcpkamdkeaa
open Go.RowKit Cdc

theorem none_of_run {l : List Nat} (h : l.length ≤ run l ∨ 9 ≤ run l) : dk l = 0 ∧ dn l = 0 := by
  have hn : isNum l = false := by
    unfold isNum
    rcases h with h | h
    · rw [decide_eq_false (by omega)]; rfl
    · rw [show decide (run l < 9) = false from decide_eq_false (by omega)]; simp
  unfold dk dn
  rw [hn]
  exact ⟨rfl, rfl⟩
theorem sz_val (n k : Nat) : sz (n : Int) = k + 1 ↔ (digs n).length = k + 1 ∧ n < 4611686018427387904 := by
  unfold sz
  by_cases h : n < 4611686018427387904
  · rw [if_pos (by omega), Int.toNat_natCast]
    exact ⟨fun e => ⟨e, h⟩, fun e => e.1⟩
  · rw [if_neg (by omega)]
    exact ⟨fun e => by omega, fun e => absurd e.2 h⟩
theorem some_of {l : List Nat} {k : Nat} (hr : run l = k) (h1 : k < l.length) (h2 : k < 9) (hz : sz (val (l.take (k + 1)) : Nat) = k + 1) : dk l = k + 1 ∧ dn l = val (l.take (k + 1)) := by
  subst hr
  have h := (sz_val _ _).1 hz
  have hn : isNum l = true := by
    unfold isNum
    rw [decide_eq_true h1, decide_eq_true h2, decide_eq_true h.1, decide_eq_true h.2]; rfl
  unfold dk dn
  rw [if_pos hn, if_pos hn]
  exact ⟨rfl, rfl⟩
theorem none_of_sz {l : List Nat} {k : Nat} (hr : run l = k) (hz : sz (val (l.take (k + 1)) : Nat) ≠ k + 1) : dk l = 0 ∧ dn l = 0 := by
  subst hr
  have hn : isNum l = false := by
    rw [Bool.eq_false_iff]
    intro h
    simp only [isNum, Bool.and_eq_true, decide_eq_true_eq] at h
    exact hz ((sz_val _ _).2 ⟨h.1.2, h.2⟩)
  unfold dk dn
  rw [hn]
  exact ⟨rfl, rfl⟩
theorem val_next {l : List Nat} {k : Nat} (h : k < l.length) : val (l.take (k + 1)) = val (l.take k) + l.getD k 0 % 128 * 128 ^ k := by
  rw [take_snoc l k h, val_snoc, List.length_take, Nat.min_eq_left (by omega)]
theorem val_take_lt (l : List Nat) (k : Nat) : val (l.take k) < 128 ^ k := by
  have h := val_lt (l.take k)
  have : 128 ^ (l.take k).length ≤ 128 ^ k := Nat.pow_le_pow_right (by omega) (by rw [List.length_take]; omega)
  omega

theorem shl_next (v x k : Nat) (hv : v < 128 ^ k) (hk : k ≤ 8) : wrap64 ((v : Int) + wrap64 ((x : Int) % 128 * 2 ^ (7 * k))) = ((v + x % 128 * 128 ^ k : Nat) : Int) := by
  have e : ((2 : Int) ^ (7 * k)) = ((128 ^ k : Nat) : Int) := by
    rw [Int.pow_mul]; simp
  have h8 : 128 ^ k ≤ 72057594037927936 := Nat.le_trans (Nat.pow_le_pow_right (by omega) hk) (by decide)
  have hp : x % 128 * 128 ^ k ≤ 127 * 128 ^ k := Nat.mul_le_mul_right _ (by omega)
  have e2 : (x : Int) % 128 * ((128 ^ k : Nat) : Int) = ((x % 128 * 128 ^ k : Nat) : Int) := by
    rw [Int.natCast_mul]; rfl
  rw [e, e2]
  generalize 128 ^ k = q at *
  generalize x % 128 * q = y at *
  rw [IntWalk.wrap64_in (y : Int) ⟨by omega, by omega⟩, IntWalk.wrap64_in _ ⟨by omega, by omega⟩]
  omega
def DPost (l : List Nat) (w : World) (e : Ending) (w' : World) : Prop := e = .returned (.tuple #[.int .i64 (dn l : Nat), .int .i64 (dk l : Nat)]) ∧ w = w'
def Jat (w : World) (r : Nat) (s : St) (a' : Act) (w' : World) : Prop :=
  w' = w ∧ ∃ (k : Nat) (u6 u7 u8 u9 u10 u11 u12 u13 u14 u15 u16 u17 u18 u19 u20 u21 u22 u23 u24 u25 u26 u27 u28 u29 u30 u31 u32 u33 u34 u35 u36 : Value), a' = { tmps := #[.pointer (some ⟨r, 0, none⟩), undef, .int .i64 0, .int .i64 0, .int .i64 (val (s.l.take k) : Nat), .int .i64 k, u6, u7, u8, u9, u10, u11, u12, u13, u14, u15, u16, u17, u18, u19, u20, u21, u22, u23, u24, u25, u26, u27, u28, u29, u30, u31, u32, u33, u34, u35, u36, undef, undef, undef, undef, undef, undef], defers := [] } ∧ k ≤ s.l.length ∧ k ≤ 9 ∧ ∀ j, j < k → 128 ≤ s.l.getD j 0

set_option maxRecDepth 100000 in
set_option maxHeartbeats 1600000 in
theorem digits_any (w : World) (r : Nat) (s : St) (h : Rdr w r s) (hl : s.l.length ≤ 1000000) :
    Calls Try.prog 36 #[.pointer (some ⟨r, 0, none⟩)] w (DPost s.l w) := by
  obtain ⟨A, c, hf⟩ := h.fields
  have hc := hf.left
  have HF := Lib.hid hf
  clear hf h
  go_enter Try.func36, Try.ntmps36
  go_wp2
  refine wp_scope_label 0 (Jat w r s) (fun a' _ => 10 - (intOf (a'.tmps.getD 5 undef)).toNat) rfl ?_ ?_
  · intro key
    go_wp2
    go_step3
    rename_i K hK
    refine hK _ _ (key _ _ ?_)
    exact ⟨rfl, 0, _, _, _, _, _, _, _, _, _, _, _, _, _, _, _, _, _, _, _, _, _, _, _, _, _, _, _, _, _, _, _, rfl, by omega, by omega, fun j hj => by omega⟩
  · rintro a' w' ⟨rfl, k, u6, u7, u8, u9, u10, u11, u12, u13, u14, u15, u16, u17, u18, u19, u20, u21, u22, u23, u24, u25, u26, u27, u28, u29, u30, u31, u32, u33, u34, u35, u36, rfl, hk1, hk2, hrun⟩
    have HR := Lib.hid hrun; clear hrun
    by_cases hend : k = s.l.length
    · have HN := Lib.hid (none_of_run (l := s.l) (.inl (by rw [← hend]; exact run_ge HR.out)))
      have hc2 := hc
      rw [← hend] at hc2
      clear hc hend hk1 HR
      go_wp2_with fail
      simp only [Exit.jump]
      go_ret2
      exact ⟨by rw [HN.out.1, HN.out.2]; rfl, rfl⟩
    · by_cases h9 : k = 9
      · have HN := Lib.hid (none_of_run (l := s.l) (.inr (by rw [← h9]; exact run_ge HR.out)))
        subst h9
        have e1 : ((9 : Int) == (s.l.length : Int)) = false := by rw [beq_eq_false_iff_ne]; omega
        clear hend HR
        generalize hnn : s.l.length = n at *
        clear hnn
        go_wp2_with fail
        simp only [Exit.jump]
        go_ret2
        exact ⟨by rw [HN.out.1, HN.out.2]; rfl, rfl⟩
      · have hlt : k < s.l.length := by omega
        have hx := HF.out.rd.byte k
        obtain ⟨b, o, rfl, _, hcl⟩ := HF.out.rd.2 (by omega)
        have hck := hcl k hlt
        clear hcl
        have e1 : ((k : Int) == (s.l.length : Int)) = false := by rw [beq_eq_false_iff_ne]; omega
        have e2 : ((k : Int) == 9) = false := by rw [beq_eq_false_iff_ne]; omega
        have k8 : k ≤ 8 := by omega
        have HX : Hid (s.l.getD k 0 < 128 → run s.l = k) := fun h => run_of HR.out hlt h
        have HY : Hid (128 ≤ s.l.getD k 0 → ∀ j, j < k + 1 → 128 ≤ s.l.getD j 0) := fun h j hj => by
          by_cases e : j = k
          · subst e; exact h
          · exact HR.out j (by omega)
        have HS := Lib.hid ((shl_next (val (s.l.take k)) (s.l.getD k 0) k (val_take_lt _ _) k8).trans (congrArg (fun x : Nat => (x : Int)) (val_next hlt).symm))
        have HL := Lib.hid hlt
        clear hend h9 hk1 hk2 HR HF
        generalize s.l.getD k 0 = x at *
        generalize val (s.l.take k) = v at *
        have HM : Hid (∃ m : Nat, val (s.l.take (k + 1)) = m) := ⟨_, rfl⟩
        by_cases hd : 128 ≤ x
        · go_wp2_with fail
          go_step3
          rw [HS.out]
          refine ⟨rfl, ⟨rfl, k + 1, _, _, _, _, _, _, _, _, _, _, _, _, _, _, _, _, _, _, _, _, _, _, _, _, _, _, _, _, _, _, _, rfl, by have := HL.out; omega, by omega, HY.out hd⟩, ?_⟩
          simp [intOf]; omega
        · have HZ := Lib.hid (HX.out (by omega))
          have hd2 : decide ((128 : Int) ≤ (x : Int)) = false := decide_eq_false (by omega)
          have hd3 : decide (128 ≤ x) = false := decide_eq_false (by omega)
          clear hd
          by_cases hz : sz (val (s.l.take (k + 1)) : Nat) = k + 1
          · have HD := Lib.hid (some_of HZ.out HL.out (by omega) hz)
            have HQ := Lib.hid hz; clear hz
            go_wp2_with fail
            rw [HS.out]
            refine (size_any _ _).mono ?_
            rintro e w1 ⟨rfl, rfl⟩
            rw [HQ.out]
            have hne : (((k : Int) + 1) != ((k + 1 : Nat) : Int)) = false := by simp
            go_wp2_with fail
            simp only [Exit.jump]
            go_ret2
            exact ⟨by rw [HD.out.1, HD.out.2]; rfl, rfl⟩
          · have HD := Lib.hid (none_of_sz HZ.out hz)
            have hne : (((k : Int) + 1) != ((sz (val (s.l.take (k + 1)) : Nat) : Nat) : Int)) = true := by rw [bne_iff_ne]; omega
            clear hz
            go_wp2_with fail
            rw [HS.out]
            refine (size_any _ _).mono ?_
            rintro e w1 ⟨rfl, rfl⟩
            go_wp2_with fail
            simp only [Exit.jump]
            go_ret2
            exact ⟨by rw [HD.out.1, HD.out.2]; rfl, rfl⟩
end Go.Proofs.Ytifokcpkamdkeaa
