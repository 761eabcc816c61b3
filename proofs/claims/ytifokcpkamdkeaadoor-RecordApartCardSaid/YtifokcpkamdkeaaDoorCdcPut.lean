/-
  Size, renew and putNumber of package codec: what they answer, from any world.
-/
import Derived.Test.YtifokcpkamdkeaaDoorCdcWords
namespace Go.Proofs.YtifokcpkamdkeaaDoor
open Go.RowKit Cdc

/-- How many bytes a number has. -/
def sz (n : Int) : Nat := if 0 ≤ n ∧ n < 4611686018427387904 then (digs n.toNat).length else 0
theorem sz_no {n : Int} (h : n < 0 ∨ 4611686018427387903 < n) : sz n = 0 := by unfold sz; rw [if_neg (by omega)]
theorem sz_yes {n : Nat} (h : n < 4611686018427387904) : sz (n : Int) = (digs n).length := by
  unfold sz; rw [if_pos (by omega), Int.toNat_natCast]
theorem sz_bd (n : Int) : sz n ≤ 9 := by
  unfold sz
  split
  · exact digs_nine (by omega)
  · omega

set_option maxRecDepth 100000 in
set_option maxHeartbeats 400000 in
theorem size_yes (n : Nat) (w : World) (h : n < 4611686018427387904) :
    Calls Tryd.prog 37 #[.int .i64 n] w fun e w' => e = .returned (.int .i64 ((digs n).length : Nat)) ∧ w = w' := by
  have h9 := digs_nine (n := n) (by omega)
  have hb : (n : Int) ≤ 4611686018427387903 := by omega
  have HN := Lib.hid h; clear h
  go_enter Tryd.func37, Tryd.ntmps37
  go_wp2_with fail
  clear hb
  go_loop [0, 3] (fun a s => ∃ m k : Nat, a = .int .i64 m ∧ s = .int .i64 k ∧ k + (digs m).length = (digs n).length + 1 ∧ 1 ≤ k ∧ m < 4611686018427387904) (fun a _ => (intOf a).toNat)
  case atStart => exact ⟨n, 1, rfl, rfl, by omega, by omega, HN.out⟩
  case round =>
    obtain ⟨m, k, rfl, rfl, hk, hk1, hm⟩ := hrel
    have HM := Lib.hid hm
    have hm2 : (m : Int) ≤ 4611686018427387903 := by omega
    clear hm
    have hp := digs_pos m
    by_cases hlt : 128 ≤ m
    · have hq : Hid (k + 1 + (digs (m / 128)).length = (digs n).length + 1) := by
        show _ = _
        rw [digs_ge hlt, List.length_cons] at hk; omega
      have hk9 : k ≤ 9 := by omega
      clear hk
      go_wp2_with fail
      go_round
      case rel => exact ⟨m / 128, k + 1, rfl, by go_num, hq.out, by omega, by have := HM.out; omega⟩
      case measure => simp [intOf]; omega
    · have hq : Hid (k = (digs n).length) := by
        show _ = _
        rw [digs_lt (by omega)] at hk; simp at hk; omega
      clear hk
      go_wp2_with fail
      go_ret
      exact ⟨ret_int (by rw [hq.out]), rfl⟩
set_option maxRecDepth 100000 in
set_option maxHeartbeats 400000 in
theorem size_any (n : Int) (w : World) :
    Calls Tryd.prog 37 #[.int .i64 n] w fun e w' => e = .returned (.int .i64 (sz n : Nat)) ∧ w = w' := by
  by_cases h0 : n < 0
  · rw [sz_no (.inl h0)]
    go_enter Tryd.func37, Tryd.ntmps37
    go_wp2_with fail
    go_ret
    exact ⟨rfl, rfl⟩
  · by_cases h1 : 4611686018427387903 < n
    · rw [sz_no (.inr h1)]
      have h0' : 0 ≤ n := by omega
      go_enter Tryd.func37, Tryd.ntmps37
      go_wp2_with fail
      go_ret
      exact ⟨rfl, rfl⟩
    · obtain ⟨m, rfl⟩ : ∃ m : Nat, n = (m : Int) := ⟨n.toNat, by omega⟩
      rw [sz_yes (by omega)]
      exact size_yes m w (by omega)

def OwnPost (B : Nat) (l : List Nat) (w : World) (e : Ending) (w' : World) : Prop := ∃ v, e = .returned v ∧ OwnB w' B v l ∧ Below B w w'

set_option maxRecDepth 100000 in
set_option maxHeartbeats 400000 in
theorem renew_any (n c more : Nat) (A : Option Addr) (l : List Nat) (w : World) (hs : Sl w A n c l) (hl : n ≤ 1000000) (hm : more ≤ 1000) :
    Calls Tryd.prog 38 #[.slice A n c, .int .i64 more] w (OwnPost w.heap.size l w) := by
  obtain ⟨i0, hi0, hz0, hz1, hz2⟩ := info_parts byteInfo
  have HS := Lib.hid hs; clear hs
  have I0 := Lib.hid hi0; clear hi0
  have I1 := Lib.hid hz0; clear hz0
  have I2 := Lib.hid hz1; clear hz1
  have I3 := Lib.hid hz2; clear hz2
  go_enter Tryd.func38, Tryd.ntmps38
  go_wp2_with (first
    | (at_make; refine wpList_make_own _ rfl _ _ 29 rfl w.heap.size 5 i0 (.int .u8 0) 1 Tryd.underlying29 I0.out I1.out I2.out _ _ _ (n + more) rfl rfl (by omega) (by rw [I3.out]; omega) (by unfold maxLen; omega) (Nat.le_refl _) ?_; intro w1 hown1 hg1; have O1 := Lib.hid hown1; have G1 := Lib.hid hg1; clear hown1 hg1)
    | (at_builtin; refine wpList_append_rd rfl (.tmp 9) (.tmp 10) _ rfl w.heap.size 5 i0 _ Tryd.underlying29 I0.out I1.out I2.out I3.out rfl (.slice (some ⟨w.heap.size, 0, none⟩) 0 (n + more)) 0 [] rfl O1.out w1.heap.size n c A l rfl (HS.out.rd.on ((Below.refl _ _).grown G1.out (Nat.le_refl _) (by simp))) HS.out.len HS.out.nil (by omega) G1.out.size ?_; intro v2 w2 hown2 hg2; have O2 := Lib.hid hown2; have G2 := Lib.hid hg2; clear hown2 hg2))
  go_ret
  have B1 := (Below.refl w.heap.size w).grown G1.out (Nat.le_refl _) (by simp)
  have hO := O2.out
  rw [Nat.zero_add, List.nil_append, HS.out.len] at hO
  exact ⟨v2, rfl, ⟨hO, HS.out.rd.1⟩, B1.grown G2.out B1.size (by simp [Value.ownBlock])⟩

theorem put_more {l l' : List Nat} {n m : Nat} (h : l' ++ digs m = l ++ digs n) (hm : 128 ≤ m) : (l' ++ [m % 128 + 128]) ++ digs (m / 128) = l ++ digs n := by
  rw [← h, digs_ge hm, List.append_assoc]; rfl
theorem put_last {l l' : List Nat} {n m : Nat} (h : l' ++ digs m = l ++ digs n) (hm : m < 128) : l' ++ [m] = l ++ digs n := by rw [← h, digs_lt hm]
set_option maxRecDepth 100000 in
set_option maxHeartbeats 800000 in
theorem put_any (B n : Nat) (v : Value) (l : List Nat) (w : World) (ho : OwnB w B v l) (hB : B ≤ w.heap.size) (hl : l.length ≤ 2000000) (hn : n < 4611686018427387904) :
    Calls Tryd.prog 39 #[v, .int .i64 n] w (OwnPost B (l ++ digs n) w) := by
  have HO := Lib.hid ho; clear ho
  have h9 := digs_nine (n := n) (by omega)
  have HL : Hid ((l ++ digs n).length ≤ 2000009) := by show _ ≤ _; rw [List.length_append]; omega
  have HN := Lib.hid hn; clear hn
  have HB := Lib.hid hB; clear hB
  have HH : Hid (∀ x ∈ l ++ digs n, x < 256) := fun x hx => (List.mem_append.1 hx).elim (HO.out.2 x) (digs_byte n x)
  go_enter Tryd.func39, Tryd.ntmps39
  go_wp2_with fail
  go_loopw [0, 1] (fun v a wr => ∃ (m : Nat) (l' : List Nat), a = .int .i64 m ∧ (m : Int) ≤ 4611686018427387903 ∧ OwnB wr B v l' ∧ l' ++ digs m = l ++ digs n ∧ Below B w wr) (fun _ a _ => (intOf a).toNat)
  case atStart => exact ⟨n, l, rfl, by have := HN.out; omega, HO.out, rfl, Below.refl _ _⟩
  case round =>
    obtain ⟨m, l', rfl, hm, hO, hfull, hb⟩ := hrel
    clear HO
    have O := Lib.hid hO; clear hO
    have BB := Lib.hid hb; clear hb
    have FF := Lib.hid hfull; clear hfull
    have hlen : l'.length ≤ 2000009 := by have h1 := HL.out; have h2 := FF.out; rw [← h2, List.length_append] at h1; omega
    by_cases hlt : 128 ≤ m
    · go_wp2_with (at_builtin; refine wpList_append_byte rfl (.tmp 7) (.tmp 12) rfl B _ l' rfl O.out _ (m % 128 + 128) (by omega) (by omega) rfl (by omega) (Nat.le_trans HB.out BB.out.size) ?_; intro v1 w1 ho1 hb1; have O1 := Lib.hid ho1; have B1 := Lib.hid (BB.out.trans hb1); clear ho1 hb1)
      go_roundw
      case rel => exact ⟨m / 128, _, by go_num, by omega, O1.out, put_more FF.out hlt, B1.out⟩
      case measure => simp [intOf]; omega
    · go_wp2_with (at_builtin; refine wpList_append_byte rfl (.tmp 16) (.tmp 19) rfl B _ l' rfl O.out _ m (by omega) (by omega) rfl (by omega) (Nat.le_trans HB.out BB.out.size) ?_; intro v1 w1 ho1 hb1; have O1 := Lib.hid ho1; have B1 := Lib.hid (BB.out.trans hb1); clear ho1 hb1)
      go_ret
      exact ⟨v1, rfl, by rw [← put_last FF.out (by omega)]; exact O1.out, B1.out⟩
end Go.Proofs.YtifokcpkamdkeaaDoor
