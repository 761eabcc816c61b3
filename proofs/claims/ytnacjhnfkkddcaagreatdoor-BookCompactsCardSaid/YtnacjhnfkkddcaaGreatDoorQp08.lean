import Derived.Test.YtnacjhnfkkddcaaGreatDoorQp07
import Derived.Test.YtnacjhnfkkddcaaGreatDoorQp03
set_option maxHeartbeats 6400000
set_option maxRecDepth 100000
set_option linter.unusedSimpArgs false
set_option linter.unusedVariables false
namespace Go.Proofs.YtnacjhnfkkddcaaGreatDoor
open Go.RowKit
theorem jhh (m : Int) (b o c : Nat) (l : Le) (ho now ttl : Int) (hh : 0 ≤ ho ∧ ho ≤ 63) (hn : 0 ≤ now ∧ now ≤ 1099511627776) (ht : 1 ≤ ttl ∧ ttl ≤ 1048576) (w : World) (h : LeAt w b o l) (hc : 1 ≤ c) (hsl : SlF Bk.leC w (some ⟨b, o, none⟩) 1 c [l]) (hx : ¬ (l.who = ho ∧ now < l.till)) (hw : l.who = ho) : Calls Tryz.prog 95 #[rlT m (some ⟨b, o, none⟩) 1 c, .string Bk.lead, .int .i64 ho, .int .i64 l.ep, .int .i64 now, .int .i64 ttl] w (jch w m [l] 0 9) := by
 have CR := zh (fun W => jbq ho now ttl hh hn ht W)
 have CA : Hid (∀ W, LeAt W b o l → Calls Tryz.prog 145 #[rlT m (some ⟨b, o, none⟩) 1 c, .string Bk.lead] W (jbb W (.int .i64 0))) := fun W h => jct m b o c l W h hc
 unfold rlT at CA
 have S0 : Hid (SlF Bk.leC w (some ⟨b, o, none⟩) 1 c [l]) := hsl
 ·have hlt2 : l.till ≤ now := by omega
  unfold rlT
  go_enter Tryz.func95, Tryz.ntmps95
  go_upto_region 1 with fail
  obtain ⟨W, hW⟩ : ∃ W, W = (w.alloc (.cells #[.int .i64 m, .slice (some ⟨b, o, none⟩) 1 c] 31)).alloc (.cells #[.int .i64 0, .slice none 0 0] 31) := ⟨_, rfl⟩
  rw [← hW]
  obtain ⟨r1, r2, hb, hs⟩ := jbe hW
  clear hW
  have B := zh hb
  have LA := zh (h.on hb)
  obtain ⟨n, hn⟩ : ∃ n, n = w.heap.size := ⟨_, rfl⟩
  rw [← hn] at r1 r2 hs ⊢
  have NB := zh (Nat.le_of_eq hn.symm)
  clear hn hb
  have PF : Hid (∀ W : World, W.heap[n]? = some (.cells #[.int .i64 m, .slice (some ⟨b, o, none⟩) 1 c] 31 (0, 0)) → W.heap[n + 1]? = some (.cells #[.int .i64 0, .slice none 0 0] 31 (0, 0)) →
    W.cell? ⟨n, 0, none⟩ = some (.int .i64 m) ∧ W.cell? ⟨n, 1, none⟩ = some (.slice (some ⟨b, o, none⟩) 1 c) ∧ W.cell? ⟨n + 1, 0, none⟩ = some (.int .i64 0) ∧ W.cell? ⟨n + 1, 1, none⟩ = some (.slice none 0 0) ∧ (∀ i, W.frozen? ⟨n + 1, i, none⟩ = false)) :=
   fun W r1 r2 => ⟨cell_of_row W _ 0 _ _ _ r1, cell_of_row W _ 1 _ _ _ r1, cell_of_row W _ 0 _ _ _ r2, cell_of_row W _ 1 _ _ _ r2, fun i => frozen_of_row W _ i _ _ r2⟩
  obtain ⟨x0, x1, y0, y1, f2⟩ := PF.out W r1 r2
  have R1 := zh r1
  have R2 := zh r2
  have HS : Hid (n + 1 + 1 ≤ W.heap.size) := by show _ ≤ _; omega
  have k0 : n < W.heap.size := by omega
  have k1 : n + 1 < W.heap.size := by omega
  clear r1 r2 hs
  obtain ⟨h0, h1, h2, h3, h4, hlt⟩ := LA.out
  clear h
  go_wp2_with (first
   | (go_at_call 144; (with_reducible refine (CR.out _).mono ?_); rintro e wr ⟨rfl, rfl⟩)
   | (go_at_call 145; (with_reducible refine (CA.out _ LA.out).mono ?_); rintro e w2 ⟨rfl, hb⟩; have R1 := zh (jaf R1.out hb); have R2 := zh (jaf R2.out hb); have LA := zh (LA.out.on hb); have B := zh (B.out.trans (hb.mono B.out.size)); have HS := zh (Nat.le_trans HS.out hb.size); clear hb k0 k1 x0 x1 y0 y1 f2 h0 h1 h2 h3 h4 hlt; have k0 := HS.out; have k1 : n + 1 < _ := k0; have k0 := Nat.lt_of_succ_lt k1; obtain ⟨x0, x1, y0, y1, f2⟩ := PF.out w2 R1.out R2.out; obtain ⟨h0, h1, h2, h3, h4, hlt⟩ := LA.out))
  exact bodyPost_ret (v := .tuple #[rlT m (some ⟨b, o, none⟩) 1 c, .int .i64 0, .int .i64 9]) (by simp [results, Tryz.results95, go_sem, x0, x1, y0, y1, f2, k0, k1]) rfl ⟨_, _, rfl, S0.out.on (by have bb := B.out; have nb := NB.out; have nb1 : w.heap.size ≤ n + 1 := (by omega); have ns := bb.size; go_grown), (by have bb := B.out; have nb := NB.out; have nb1 : w.heap.size ≤ n + 1 := (by omega); have ns := bb.size; go_grown), fun h => absurd h (by decide)⟩
theorem jhi (m : Int) (b o c : Nat) (l : Le) (ho now ttl : Int) (hh : 0 ≤ ho ∧ ho ≤ 63) (hn : 0 ≤ now ∧ now ≤ 1099511627776) (ht : 1 ≤ ttl ∧ ttl ≤ 1048576) (w : World) (h : LeAt w b o l) (hc : 1 ≤ c) (hsl : SlF Bk.leC w (some ⟨b, o, none⟩) 1 c [l]) (hx : ¬ (l.who = ho ∧ now < l.till)) (hw : ¬ l.who = ho) : Calls Tryz.prog 95 #[rlT m (some ⟨b, o, none⟩) 1 c, .string Bk.lead, .int .i64 ho, .int .i64 l.ep, .int .i64 now, .int .i64 ttl] w (jch w m [l] 0 8) := by
 have CR := zh (fun W => jbq ho now ttl hh hn ht W)
 have CA : Hid (∀ W, LeAt W b o l → Calls Tryz.prog 145 #[rlT m (some ⟨b, o, none⟩) 1 c, .string Bk.lead] W (jbb W (.int .i64 0))) := fun W h => jct m b o c l W h hc
 unfold rlT at CA
 have S0 : Hid (SlF Bk.leC w (some ⟨b, o, none⟩) 1 c [l]) := hsl
 ·skip
  unfold rlT
  go_enter Tryz.func95, Tryz.ntmps95
  go_upto_region 1 with fail
  obtain ⟨W, hW⟩ : ∃ W, W = (w.alloc (.cells #[.int .i64 m, .slice (some ⟨b, o, none⟩) 1 c] 31)).alloc (.cells #[.int .i64 0, .slice none 0 0] 31) := ⟨_, rfl⟩
  rw [← hW]
  obtain ⟨r1, r2, hb, hs⟩ := jbe hW
  clear hW
  have B := zh hb
  have LA := zh (h.on hb)
  obtain ⟨n, hn⟩ : ∃ n, n = w.heap.size := ⟨_, rfl⟩
  rw [← hn] at r1 r2 hs ⊢
  have NB := zh (Nat.le_of_eq hn.symm)
  clear hn hb
  have PF : Hid (∀ W : World, W.heap[n]? = some (.cells #[.int .i64 m, .slice (some ⟨b, o, none⟩) 1 c] 31 (0, 0)) → W.heap[n + 1]? = some (.cells #[.int .i64 0, .slice none 0 0] 31 (0, 0)) →
    W.cell? ⟨n, 0, none⟩ = some (.int .i64 m) ∧ W.cell? ⟨n, 1, none⟩ = some (.slice (some ⟨b, o, none⟩) 1 c) ∧ W.cell? ⟨n + 1, 0, none⟩ = some (.int .i64 0) ∧ W.cell? ⟨n + 1, 1, none⟩ = some (.slice none 0 0) ∧ (∀ i, W.frozen? ⟨n + 1, i, none⟩ = false)) :=
   fun W r1 r2 => ⟨cell_of_row W _ 0 _ _ _ r1, cell_of_row W _ 1 _ _ _ r1, cell_of_row W _ 0 _ _ _ r2, cell_of_row W _ 1 _ _ _ r2, fun i => frozen_of_row W _ i _ _ r2⟩
  obtain ⟨x0, x1, y0, y1, f2⟩ := PF.out W r1 r2
  have R1 := zh r1
  have R2 := zh r2
  have HS : Hid (n + 1 + 1 ≤ W.heap.size) := by show _ ≤ _; omega
  have k0 : n < W.heap.size := by omega
  have k1 : n + 1 < W.heap.size := by omega
  clear r1 r2 hs
  obtain ⟨h0, h1, h2, h3, h4, hlt⟩ := LA.out
  clear h
  go_wp2_with (first
   | (go_at_call 144; (with_reducible refine (CR.out _).mono ?_); rintro e wr ⟨rfl, rfl⟩)
   | (go_at_call 145; (with_reducible refine (CA.out _ LA.out).mono ?_); rintro e w2 ⟨rfl, hb⟩; have R1 := zh (jaf R1.out hb); have R2 := zh (jaf R2.out hb); have LA := zh (LA.out.on hb); have B := zh (B.out.trans (hb.mono B.out.size)); have HS := zh (Nat.le_trans HS.out hb.size); clear hb k0 k1 x0 x1 y0 y1 f2 h0 h1 h2 h3 h4 hlt; have k0 := HS.out; have k1 : n + 1 < _ := k0; have k0 := Nat.lt_of_succ_lt k1; obtain ⟨x0, x1, y0, y1, f2⟩ := PF.out w2 R1.out R2.out; obtain ⟨h0, h1, h2, h3, h4, hlt⟩ := LA.out))
  exact bodyPost_ret (v := .tuple #[rlT m (some ⟨b, o, none⟩) 1 c, .int .i64 0, .int .i64 8]) (by simp [results, Tryz.results95, go_sem, x0, x1, y0, y1, f2, k0, k1]) rfl ⟨_, _, rfl, S0.out.on (by have bb := B.out; have nb := NB.out; have nb1 : w.heap.size ≤ n + 1 := (by omega); have ns := bb.size; go_grown), (by have bb := B.out; have nb := NB.out; have nb1 : w.heap.size ≤ n + 1 := (by omega); have ns := bb.size; go_grown), fun h => absurd h (by decide)⟩
theorem jiy (m : Int) (b o c : Nat) (l : Le) (ho now ttl : Int) (hh : 0 ≤ ho ∧ ho ≤ 63) (hn : 0 ≤ now ∧ now ≤ 1099511627776) (ht : 1 ≤ ttl ∧ ttl ≤ 1048576) (w : World) (h : LeAt w b o l) (hc : 1 ≤ c) (hx : l.who = ho ∧ now < l.till) (hti : 0 ≤ l.till ∧ l.till ≤ 1099511627776) : Calls Tryz.prog 95 #[rlT m (some ⟨b, o, none⟩) 1 c, .string Bk.lead, .int .i64 ho, .int .i64 l.ep, .int .i64 now, .int .i64 ttl] w (jch w m [⟨l.who, l.ep, max l.till (Bk.late now ttl)⟩] (max l.till (Bk.late now ttl)) 0) := by
 have CR := zh (fun W => jbq ho now ttl hh hn ht W)
 have CA : Hid (∀ W, LeAt W b o l → Calls Tryz.prog 145 #[rlT m (some ⟨b, o, none⟩) 1 c, .string Bk.lead] W (jbb W (.int .i64 0))) := fun W h => jct m b o c l W h hc
 unfold rlT at CA
 have CL := zh (fun W => jcu now ttl hn (by omega) W)
 obtain ⟨mx, hmx⟩ : ∃ mx, mx = max l.till (Bk.late now ttl) := ⟨_, rfl⟩
 have CP : Hid (∀ W, LeAt W b o l → Calls Tryz.prog 147 #[.agg #[.int .i64 m, .slice (some ⟨b, o, none⟩) 1 c], .agg #[.string Bk.lead, .int .i64 l.who, .int .i64 l.ep, .int .i64 mx, .bool false]] W (jkl W m [⟨l.who, l.ep, mx⟩])) := fun W h => jgb m b o c l ⟨l.who, l.ep, mx⟩ W h hc
 have LA0 := zh h
 have LT := zh h.lt
 have e0 : max l.till (Bk.late now ttl) = mx := hmx.symm
 rw [e0]
 clear hmx
 obtain ⟨hw, hlt2⟩ := hx
 subst hw
 generalize Bk.late now ttl = lt at *
 have EM := zh e0
 clear e0
 unfold rlT
 go_enter Tryz.func95, Tryz.ntmps95
 go_upto_region 1 with fail
 obtain ⟨W, hW⟩ : ∃ W, W = (w.alloc (.cells #[.int .i64 m, .slice (some ⟨b, o, none⟩) 1 c] 31)).alloc (.cells #[.int .i64 0, .slice none 0 0] 31) := ⟨_, rfl⟩
 rw [← hW]
 obtain ⟨r1, r2, hb, hs⟩ := jbe hW
 clear hW
 have B := zh hb
 have LA := zh (h.on hb)
 obtain ⟨n, hn⟩ : ∃ n, n = w.heap.size := ⟨_, rfl⟩
 rw [← hn] at r1 r2 hs ⊢
 have NB := zh (Nat.le_of_eq hn.symm)
 clear hn hb
 have PF : Hid (∀ W : World, W.heap[n]? = some (.cells #[.int .i64 m, .slice (some ⟨b, o, none⟩) 1 c] 31 (0, 0)) → W.heap[n + 1]? = some (.cells #[.int .i64 0, .slice none 0 0] 31 (0, 0)) →
   W.cell? ⟨n, 0, none⟩ = some (.int .i64 m) ∧ W.cell? ⟨n, 1, none⟩ = some (.slice (some ⟨b, o, none⟩) 1 c) ∧ W.cell? ⟨n + 1, 0, none⟩ = some (.int .i64 0) ∧ W.cell? ⟨n + 1, 1, none⟩ = some (.slice none 0 0) ∧ (∀ i, W.frozen? ⟨n + 1, i, none⟩ = false)) :=
  fun W r1 r2 => ⟨cell_of_row W _ 0 _ _ _ r1, cell_of_row W _ 1 _ _ _ r1, cell_of_row W _ 0 _ _ _ r2, cell_of_row W _ 1 _ _ _ r2, fun i => frozen_of_row W _ i _ _ r2⟩
 obtain ⟨x0, x1, y0, y1, f2⟩ := PF.out W r1 r2
 have R1 := zh r1
 have R2 := zh r2
 have HS : Hid (n + 1 + 1 ≤ W.heap.size) := by show _ ≤ _; omega
 have k0 : n < W.heap.size := by omega
 have k1 : n + 1 < W.heap.size := by omega
 clear r1 r2 hs
 obtain ⟨h0, h1, h2, h3, h4, hlt⟩ := LA.out
 clear h
 go_upto_region 12 with (first
  | (go_at_call 144; (with_reducible refine (CR.out _).mono ?_); rintro e wr ⟨rfl, rfl⟩)
  | (go_at_call 145; (with_reducible refine (CA.out _ LA.out).mono ?_); rintro e w2 ⟨rfl, hb⟩; have R1 := zh (jaf R1.out hb); have R2 := zh (jaf R2.out hb); have LA := zh (LA.out.on hb); have B := zh (B.out.trans (hb.mono B.out.size)); have HS := zh (Nat.le_trans HS.out hb.size); clear hb k0 k1 x0 x1 y0 y1 f2 h0 h1 h2 h3 h4 hlt; have k0 := HS.out; have k1 : n + 1 < _ := k0; have k0 := Nat.lt_of_succ_lt k1; obtain ⟨x0, x1, y0, y1, f2⟩ := PF.out w2 R1.out R2.out; obtain ⟨h0, h1, h2, h3, h4, hlt⟩ := LA.out))
 obtain ⟨W3, hW3⟩ : ∃ W3, W3 = w2.alloc (.cells #[.string Bk.lead, .int .i64 l.who, .int .i64 l.ep, .int .i64 l.till, .bool false] 116) := ⟨_, rfl⟩
 have hb : Below w2.heap.size w2 W3 := by rw [hW3]; exact (Below.refl _ _).alloc (Nat.le_refl _) _
 have re0 : W3.heap[w2.heap.size]? = some (.cells #[.string Bk.lead, .int .i64 l.who, .int .i64 l.ep, .int .i64 l.till, .bool false] 116 (0, 0)) := by rw [hW3]; exact heap_alloc_new _ _
 rw [← hW3]
 obtain ⟨g, hg⟩ : ∃ g, g = w2.heap.size := ⟨_, rfl⟩
 rw [← hg] at re0 ⊢
 have GN : Hid (n + 1 < g) := by show _ < _; omega
 have GB : Hid (w.heap.size ≤ g) := by show _ ≤ _; have := B.out.size; omega
 clear hW3 hg k0 k1 x0 x1 y0 y1 f2 h0 h1 h2 h3 h4 hlt
 have RX := zh (jaf R1.out hb)
 have RY0 := zh (jaf R2.out hb)
 have B3 := zh (B.out.trans (hb.mono B.out.size))
 clear hb
 have z3 : W3.cell? ⟨g, 3, none⟩ = some (.int .i64 l.till) := cell_of_row _ _ 3 _ _ _ re0
 have zf : ∀ i, W3.frozen? ⟨g, i, none⟩ = false := fun i => frozen_of_row _ _ i _ _ re0
 have RE := zh re0
 clear re0
 refine wp_region_held_drew (S := fun _ => True) (by kernel_rfl) trivial (fun hS => ?_)
 refine tY 0 hS ?_
 refine tY 2 hS ?_
 refine tY 3 hS ?_
 simp only [Act.put, zT, zO, zS]
 refine jdp 1 4 rfl rfl (by kernel_rfl) rfl rfl (fun K hK => ?_) (fun K hK => ?_)
 ·go_simp
  refine hK.out _ _ hS (fun _ => ?_)
  clear hK K
  try simp only [Act.put, zT, zO, zS]
  refine rO 4 (fun K hK => ?_)
  go_simp
  with_reducible refine (CL.out _).mono ?_
  rintro e wl ⟨rfl, hw⟩
  obtain rfl := hw.symm
  refine hK.out _ _ hS (fun _ => ?_)
  clear hK K
  refine tY 5 hS ?_
  refine tY 6 hS ?_
  simp only [Act.put, zT, zO, zS]
  refine rO 7 (fun K hK => ?_)
  go_simp
  refine hK.out _ _ hS (fun _ => ?_)
  clear hK K
  refine wpAnyH_done (by kernel_rfl) ?_ _
  rw [EM.out]
  obtain ⟨W4, hW4⟩ : ∃ W4, W4 = (W3.setCell ⟨g, 3, none⟩ (.int .i64 mx)).drew := ⟨_, rfl⟩
  rw [← hW4]
  have re4 : W4.heap[g]? = some (.cells #[.string Bk.lead, .int .i64 l.who, .int .i64 l.ep, .int .i64 mx, .bool false] 116 (0, 0)) := by
   rw [hW4]; exact heap_setCell_same W3 g 3 _ _ _ RE.out
  have rx4 : W4.heap[n]? = W3.heap[n]? := by rw [hW4]; exact Below.heap_setCell _ _ _ _ (by have := GN.out; simp; omega)
  have ry4 : W4.heap[n + 1]? = W3.heap[n + 1]? := by rw [hW4]; exact Below.heap_setCell _ _ _ _ (by have := GN.out; simp; omega)
  have RX4 := zh (rx4.trans RX.out)
  have RY := zh (ry4.trans RY0.out)
  have RE4 := zh re4
  have B4 : Hid (Below w.heap.size w W4) := by show Below _ _ _; rw [hW4]; exact (B3.out.setCell GB.out _).drew
  clear hW4 re4 rx4 ry4 z3 zf hS
  go_wp2_with fail
  have RY : Hid (W4.drew.heap[n + 1]? = some (.cells #[.int .i64 0, .slice none 0 0] 31 (0, 0))) := RY.out
  have SB : Hid (∀ W : World, (W.heap[n]? = some (.cells #[.int .i64 m, .slice (some ⟨b, o, none⟩) 1 c] 31 (0, 0)) ∧ W.heap[g]? = some (.cells #[.string Bk.lead, .int .i64 l.who, .int .i64 l.ep, .int .i64 mx, .bool false] 116 (0, 0)) ∧ Below w.heap.size w W) → Below w.heap.size w W) := fun _ h => h.2.2
  have SH : Hid (∀ W W' : World, (W.heap[n]? = some (.cells #[.int .i64 m, .slice (some ⟨b, o, none⟩) 1 c] 31 (0, 0)) ∧ W.heap[g]? = some (.cells #[.string Bk.lead, .int .i64 l.who, .int .i64 l.ep, .int .i64 mx, .bool false] 116 (0, 0)) ∧ Below w.heap.size w W) → Below W.heap.size W W' → (W'.heap[n]? = some (.cells #[.int .i64 m, .slice (some ⟨b, o, none⟩) 1 c] 31 (0, 0)) ∧ W'.heap[g]? = some (.cells #[.string Bk.lead, .int .i64 l.who, .int .i64 l.ep, .int .i64 mx, .bool false] 116 (0, 0)) ∧ Below w.heap.size w W')) := fun W W' h hb => ⟨jaf h.1 hb, jaf h.2.1 hb, h.2.2.trans (hb.mono h.2.2.size)⟩
  have SZ : Hid (∀ W : World, (W.heap[n]? = some (.cells #[.int .i64 m, .slice (some ⟨b, o, none⟩) 1 c] 31 (0, 0)) ∧ W.heap[g]? = some (.cells #[.string Bk.lead, .int .i64 l.who, .int .i64 l.ep, .int .i64 mx, .bool false] 116 (0, 0)) ∧ Below w.heap.size w W) → ∀ v u, (((W.setCell ⟨n + 1, 0, none⟩ v).setCell ⟨n + 1, 1, none⟩ u).heap[n]? = some (.cells #[.int .i64 m, .slice (some ⟨b, o, none⟩) 1 c] 31 (0, 0)) ∧ ((W.setCell ⟨n + 1, 0, none⟩ v).setCell ⟨n + 1, 1, none⟩ u).heap[g]? = some (.cells #[.string Bk.lead, .int .i64 l.who, .int .i64 l.ep, .int .i64 mx, .bool false] 116 (0, 0)) ∧ Below w.heap.size w ((W.setCell ⟨n + 1, 0, none⟩ v).setCell ⟨n + 1, 1, none⟩ u))) := fun W h v u => ⟨by
    rw [Below.heap_setCell _ _ _ _ (by simp), Below.heap_setCell _ _ _ _ (by simp)]; exact h.1, by
    rw [Below.heap_setCell _ _ _ _ (by have := GN.out; simp; omega), Below.heap_setCell _ _ _ _ (by have := GN.out; simp; omega)]; exact h.2.1, (h.2.2.setCell (by have := NB.out; show w.heap.size ≤ n + 1; omega) _).setCell (by have := NB.out; show w.heap.size ≤ n + 1; omega) _⟩
  refine wp_region_held_drew (S := fun W => W.heap[n]? = some (.cells #[.int .i64 m, .slice (some ⟨b, o, none⟩) 1 c] 31 (0, 0)) ∧ W.heap[g]? = some (.cells #[.string Bk.lead, .int .i64 l.who, .int .i64 l.ep, .int .i64 mx, .bool false] 116 (0, 0)) ∧ Below w.heap.size w W) (by kernel_rfl) ⟨RX4.out, RE4.out, B4.out.drew⟩ (fun hS => ?_)
  refine tZ 0 rfl (by intro W hW; have q0 := cell_of_row W n 0 _ _ _ hW.1; have q1 := cell_of_row W n 1 _ _ _ hW.1; simp only [List.getElem?_toArray, List.getElem?_cons_zero, List.getElem?_cons_succ] at q0 q1; go_simp; (try with_reducible rfl)) hS ?_
  refine tZ 1 rfl (by intro W hW; have q0 := cell_of_row W g 0 _ _ _ hW.2.1; have q1 := cell_of_row W g 1 _ _ _ hW.2.1; have q2 := cell_of_row W g 2 _ _ _ hW.2.1; have q3 := cell_of_row W g 3 _ _ _ hW.2.1; have q4 := cell_of_row W g 4 _ _ _ hW.2.1; simp only [List.getElem?_toArray, List.getElem?_cons_zero, List.getElem?_cons_succ] at q0 q1 q2 q3 q4; go_simp; (try with_reducible rfl)) hS ?_
  refine tY 3 hS ?_
  refine tZ 4 rfl (by intro W hW; have q3 := cell_of_row W g 3 _ _ _ hW.2.1; simp only [List.getElem?_toArray, List.getElem?_cons_zero, List.getElem?_cons_succ] at q3; go_simp; (try with_reducible rfl)) hS ?_
  simp only [Act.put, zT, zO, zS]
  refine rO 2 (fun K hK => ?_)
  go_simp
  with_reducible refine (CP.out _ (LA0.out.low (SB.out _ hS) LT.out)).mono ?_
  rintro e w5 ⟨A5, k5, rfl, hs5, hb5, hfar⟩
  have FAR := zh hfar
  clear hfar
  have S5 := zh hs5
  have SZN : Hid (n + 1 < _) := (Array.getElem?_eq_some_iff.1 RY.out).1
  have hS2 := SH.out _ _ hS hb5
  have RY5 := zh (jaf RY.out hb5)
  clear hS hs5 hb5
  have hS := hS2
  clear hS2
  obtain ⟨y0, y1, f2⟩ : w5.cell? ⟨n + 1, 0, none⟩ = some (.int .i64 0) ∧ w5.cell? ⟨n + 1, 1, none⟩ = some (.slice none 0 0) ∧ (∀ i, w5.frozen? ⟨n + 1, i, none⟩ = false) := ⟨cell_of_row _ _ 0 _ _ _ RY5.out, cell_of_row _ _ 1 _ _ _ RY5.out, fun i => frozen_of_row _ _ i _ _ RY5.out⟩
  have k1 : n + 1 < w5.heap.size := (Array.getElem?_eq_some_iff.1 RY5.out).1
  refine hK.out _ _ hS (fun _ => ?_)
  clear hK K
  try simp only [Act.put, zT, zO, zS]
  refine rO 5 (fun K hK => ?_)
  go_simp
  have hS2 := SZ.out _ hS (.int .i64 m) (.slice A5 1 k5)
  clear hS
  have hS := hS2
  clear hS2
  refine hK.out _ _ hS (fun _ => ?_)
  clear hK K
  refine tY 6 hS ?_
  refine tY 7 hS ?_
  simp only [Act.put, zT, zO, zS]
  refine wpAnyH_done (by kernel_rfl) ?_ _
  go_wp2_with fail
  exact bodyPost_ret (v := .tuple #[rlT m A5 1 k5, .int .i64 mx, .int .i64 0]) (by simp [results, Tryz.results95, go_sem, y0, y1, f2, k1]) rfl ⟨A5, k5, rfl, S5.out.keep (by simp) (fun b' o' he hl => by
    have h3 := FAR.out b' o' he
    have h4 := SZN.out
    exact (Below.heap_setCell _ _ _ _ (by simp; omega)).trans (Below.heap_setCell _ _ _ _ (by simp; omega))), hS.2.2, fun _ b' o' e => by have h1 := FAR.out b' o' e; have h2 := SZN.out; have h3 := NB.out; omega⟩
 ·go_simp
  with_reducible refine (CL.out _).mono ?_
  rintro e wl ⟨rfl, hw⟩
  obtain rfl := hw.symm
  refine hK.out _ _ hS (fun _ => ?_)
  clear hK K
  try simp only [Act.put, zT, zO, zS]
  refine rO 1 (fun K hK => ?_)
  go_simp
  refine hK.out _ _ hS (fun _ => ?_)
  clear hK K
  refine tY 5 hS ?_
  refine tY 6 hS ?_
  simp only [Act.put, zT, zO, zS]
  refine rO 7 (fun K hK => ?_)
  go_simp
  refine hK.out _ _ hS (fun _ => ?_)
  clear hK K
  refine wpAnyH_done (by kernel_rfl) ?_ _
  rw [EM.out]
  obtain ⟨W4, hW4⟩ : ∃ W4, W4 = (W3.setCell ⟨g, 3, none⟩ (.int .i64 mx)).drew := ⟨_, rfl⟩
  rw [← hW4]
  have re4 : W4.heap[g]? = some (.cells #[.string Bk.lead, .int .i64 l.who, .int .i64 l.ep, .int .i64 mx, .bool false] 116 (0, 0)) := by
   rw [hW4]; exact heap_setCell_same W3 g 3 _ _ _ RE.out
  have rx4 : W4.heap[n]? = W3.heap[n]? := by rw [hW4]; exact Below.heap_setCell _ _ _ _ (by have := GN.out; simp; omega)
  have ry4 : W4.heap[n + 1]? = W3.heap[n + 1]? := by rw [hW4]; exact Below.heap_setCell _ _ _ _ (by have := GN.out; simp; omega)
  have RX4 := zh (rx4.trans RX.out)
  have RY := zh (ry4.trans RY0.out)
  have RE4 := zh re4
  have B4 : Hid (Below w.heap.size w W4) := by show Below _ _ _; rw [hW4]; exact (B3.out.setCell GB.out _).drew
  clear hW4 re4 rx4 ry4 z3 zf hS
  go_wp2_with fail
  have RY : Hid (W4.drew.heap[n + 1]? = some (.cells #[.int .i64 0, .slice none 0 0] 31 (0, 0))) := RY.out
  have SB : Hid (∀ W : World, (W.heap[n]? = some (.cells #[.int .i64 m, .slice (some ⟨b, o, none⟩) 1 c] 31 (0, 0)) ∧ W.heap[g]? = some (.cells #[.string Bk.lead, .int .i64 l.who, .int .i64 l.ep, .int .i64 mx, .bool false] 116 (0, 0)) ∧ Below w.heap.size w W) → Below w.heap.size w W) := fun _ h => h.2.2
  have SH : Hid (∀ W W' : World, (W.heap[n]? = some (.cells #[.int .i64 m, .slice (some ⟨b, o, none⟩) 1 c] 31 (0, 0)) ∧ W.heap[g]? = some (.cells #[.string Bk.lead, .int .i64 l.who, .int .i64 l.ep, .int .i64 mx, .bool false] 116 (0, 0)) ∧ Below w.heap.size w W) → Below W.heap.size W W' → (W'.heap[n]? = some (.cells #[.int .i64 m, .slice (some ⟨b, o, none⟩) 1 c] 31 (0, 0)) ∧ W'.heap[g]? = some (.cells #[.string Bk.lead, .int .i64 l.who, .int .i64 l.ep, .int .i64 mx, .bool false] 116 (0, 0)) ∧ Below w.heap.size w W')) := fun W W' h hb => ⟨jaf h.1 hb, jaf h.2.1 hb, h.2.2.trans (hb.mono h.2.2.size)⟩
  have SZ : Hid (∀ W : World, (W.heap[n]? = some (.cells #[.int .i64 m, .slice (some ⟨b, o, none⟩) 1 c] 31 (0, 0)) ∧ W.heap[g]? = some (.cells #[.string Bk.lead, .int .i64 l.who, .int .i64 l.ep, .int .i64 mx, .bool false] 116 (0, 0)) ∧ Below w.heap.size w W) → ∀ v u, (((W.setCell ⟨n + 1, 0, none⟩ v).setCell ⟨n + 1, 1, none⟩ u).heap[n]? = some (.cells #[.int .i64 m, .slice (some ⟨b, o, none⟩) 1 c] 31 (0, 0)) ∧ ((W.setCell ⟨n + 1, 0, none⟩ v).setCell ⟨n + 1, 1, none⟩ u).heap[g]? = some (.cells #[.string Bk.lead, .int .i64 l.who, .int .i64 l.ep, .int .i64 mx, .bool false] 116 (0, 0)) ∧ Below w.heap.size w ((W.setCell ⟨n + 1, 0, none⟩ v).setCell ⟨n + 1, 1, none⟩ u))) := fun W h v u => ⟨by
    rw [Below.heap_setCell _ _ _ _ (by simp), Below.heap_setCell _ _ _ _ (by simp)]; exact h.1, by
    rw [Below.heap_setCell _ _ _ _ (by have := GN.out; simp; omega), Below.heap_setCell _ _ _ _ (by have := GN.out; simp; omega)]; exact h.2.1, (h.2.2.setCell (by have := NB.out; show w.heap.size ≤ n + 1; omega) _).setCell (by have := NB.out; show w.heap.size ≤ n + 1; omega) _⟩
  refine wp_region_held_drew (S := fun W => W.heap[n]? = some (.cells #[.int .i64 m, .slice (some ⟨b, o, none⟩) 1 c] 31 (0, 0)) ∧ W.heap[g]? = some (.cells #[.string Bk.lead, .int .i64 l.who, .int .i64 l.ep, .int .i64 mx, .bool false] 116 (0, 0)) ∧ Below w.heap.size w W) (by kernel_rfl) ⟨RX4.out, RE4.out, B4.out.drew⟩ (fun hS => ?_)
  refine tZ 0 rfl (by intro W hW; have q0 := cell_of_row W n 0 _ _ _ hW.1; have q1 := cell_of_row W n 1 _ _ _ hW.1; simp only [List.getElem?_toArray, List.getElem?_cons_zero, List.getElem?_cons_succ] at q0 q1; go_simp; (try with_reducible rfl)) hS ?_
  refine tZ 1 rfl (by intro W hW; have q0 := cell_of_row W g 0 _ _ _ hW.2.1; have q1 := cell_of_row W g 1 _ _ _ hW.2.1; have q2 := cell_of_row W g 2 _ _ _ hW.2.1; have q3 := cell_of_row W g 3 _ _ _ hW.2.1; have q4 := cell_of_row W g 4 _ _ _ hW.2.1; simp only [List.getElem?_toArray, List.getElem?_cons_zero, List.getElem?_cons_succ] at q0 q1 q2 q3 q4; go_simp; (try with_reducible rfl)) hS ?_
  refine tY 3 hS ?_
  refine tZ 4 rfl (by intro W hW; have q3 := cell_of_row W g 3 _ _ _ hW.2.1; simp only [List.getElem?_toArray, List.getElem?_cons_zero, List.getElem?_cons_succ] at q3; go_simp; (try with_reducible rfl)) hS ?_
  simp only [Act.put, zT, zO, zS]
  refine rO 2 (fun K hK => ?_)
  go_simp
  with_reducible refine (CP.out _ (LA0.out.low (SB.out _ hS) LT.out)).mono ?_
  rintro e w5 ⟨A5, k5, rfl, hs5, hb5, hfar⟩
  have FAR := zh hfar
  clear hfar
  have S5 := zh hs5
  have SZN : Hid (n + 1 < _) := (Array.getElem?_eq_some_iff.1 RY.out).1
  have hS2 := SH.out _ _ hS hb5
  have RY5 := zh (jaf RY.out hb5)
  clear hS hs5 hb5
  have hS := hS2
  clear hS2
  obtain ⟨y0, y1, f2⟩ : w5.cell? ⟨n + 1, 0, none⟩ = some (.int .i64 0) ∧ w5.cell? ⟨n + 1, 1, none⟩ = some (.slice none 0 0) ∧ (∀ i, w5.frozen? ⟨n + 1, i, none⟩ = false) := ⟨cell_of_row _ _ 0 _ _ _ RY5.out, cell_of_row _ _ 1 _ _ _ RY5.out, fun i => frozen_of_row _ _ i _ _ RY5.out⟩
  have k1 : n + 1 < w5.heap.size := (Array.getElem?_eq_some_iff.1 RY5.out).1
  refine hK.out _ _ hS (fun _ => ?_)
  clear hK K
  try simp only [Act.put, zT, zO, zS]
  refine rO 5 (fun K hK => ?_)
  go_simp
  have hS2 := SZ.out _ hS (.int .i64 m) (.slice A5 1 k5)
  clear hS
  have hS := hS2
  clear hS2
  refine hK.out _ _ hS (fun _ => ?_)
  clear hK K
  refine tY 6 hS ?_
  refine tY 7 hS ?_
  simp only [Act.put, zT, zO, zS]
  refine wpAnyH_done (by kernel_rfl) ?_ _
  go_wp2_with fail
  exact bodyPost_ret (v := .tuple #[rlT m A5 1 k5, .int .i64 mx, .int .i64 0]) (by simp [results, Tryz.results95, go_sem, y0, y1, f2, k1]) rfl ⟨A5, k5, rfl, S5.out.keep (by simp) (fun b' o' he hl => by
    have h3 := FAR.out b' o' he
    have h4 := SZN.out
    exact (Below.heap_setCell _ _ _ _ (by simp; omega)).trans (Below.heap_setCell _ _ _ _ (by simp; omega))), hS.2.2, fun _ b' o' e => by have h1 := FAR.out b' o' e; have h2 := SZN.out; have h3 := NB.out; omega⟩
theorem jkm (m : Int) (b o c : Nat) (l : Le) (ho now ttl : Int) (hh : 0 ≤ ho ∧ ho ≤ 63) (hn : 0 ≤ now ∧ now ≤ 1099511627776) (ht : 1 ≤ ttl ∧ ttl ≤ 1048576) (hm : 0 ≤ m ∧ m ≤ 1048576) (w : World) (h : LeAt w b o l) (hc : 1 ≤ c) (hti : 0 ≤ l.till ∧ l.till ≤ 1099511627776) (hsl : SlF Bk.leC w (some ⟨b, o, none⟩) 1 c [l]) (hx : ¬ Bk.late l.till m ≤ now) : Calls Tryz.prog 96 #[rlT m (some ⟨b, o, none⟩) 1 c, .string Bk.lead, .int .i64 ho, .int .i64 now, .int .i64 ttl] w (jch w m [l] 0 9) := by
 have S0 : Hid (SlF Bk.leC w (some ⟨b, o, none⟩) 1 c [l]) := hsl
 have CR := zh (fun W => jbq ho now ttl hh hn ht W)
 have CA : Hid (∀ W, LeAt W b o l → Calls Tryz.prog 145 #[.agg #[.int .i64 m, .slice (some ⟨b, o, none⟩) 1 c], .string Bk.lead] W (jbb W (.int .i64 0))) := fun W h => jct m b o c l W h hc
 have CF : Hid (∀ W, LeAt W b o l → Calls Tryz.prog 148 #[.agg #[.int .i64 m, .slice (some ⟨b, o, none⟩) 1 c], .string Bk.lead, .int .i64 now] W (jbb W (.bool false))) := fun W h => by
  have := je8 m now b o c l hm hti W h hc
  rwa [decide_eq_false hx] at this
 clear hx
 unfold rlT
 go_enter Tryz.func96, Tryz.ntmps96
 go_upto_region 1 with fail
 obtain ⟨W, hW⟩ : ∃ W, W = (w.alloc (.cells #[.int .i64 m, .slice (some ⟨b, o, none⟩) 1 c] 31)).alloc (.cells #[.int .i64 0, .slice none 0 0] 31) := ⟨_, rfl⟩
 rw [← hW]
 obtain ⟨r1, r2, hb, hs⟩ := jbe hW
 clear hW
 have B := zh hb
 have LA := zh (h.on hb)
 obtain ⟨n, hn⟩ : ∃ n, n = w.heap.size := ⟨_, rfl⟩
 rw [← hn] at r1 r2 hs ⊢
 have NB := zh (Nat.le_of_eq hn.symm)
 clear hn hb
 have PF : Hid (∀ W : World, W.heap[n]? = some (.cells #[.int .i64 m, .slice (some ⟨b, o, none⟩) 1 c] 31 (0, 0)) → W.heap[n + 1]? = some (.cells #[.int .i64 0, .slice none 0 0] 31 (0, 0)) →
   W.cell? ⟨n, 0, none⟩ = some (.int .i64 m) ∧ W.cell? ⟨n, 1, none⟩ = some (.slice (some ⟨b, o, none⟩) 1 c) ∧ W.cell? ⟨n + 1, 0, none⟩ = some (.int .i64 0) ∧ W.cell? ⟨n + 1, 1, none⟩ = some (.slice none 0 0) ∧ (∀ i, W.frozen? ⟨n + 1, i, none⟩ = false)) :=
  fun W r1 r2 => ⟨cell_of_row W _ 0 _ _ _ r1, cell_of_row W _ 1 _ _ _ r1, cell_of_row W _ 0 _ _ _ r2, cell_of_row W _ 1 _ _ _ r2, fun i => frozen_of_row W _ i _ _ r2⟩
 obtain ⟨x0, x1, y0, y1, f2⟩ := PF.out W r1 r2
 have R1 := zh r1
 have R2 := zh r2
 have HS : Hid (n + 1 + 1 ≤ W.heap.size) := by show _ ≤ _; omega
 have k0 : n < W.heap.size := by omega
 have k1 : n + 1 < W.heap.size := by omega
 clear r1 r2 hs
 obtain ⟨h0, h1, h2, h3, h4, hlt⟩ := LA.out
 clear h
 go_wp2_with (first
  | (go_at_call 144; (with_reducible refine (CR.out _).mono ?_); rintro e wr ⟨rfl, rfl⟩)
  | (go_at_call 148; (with_reducible refine (CF.out _ LA.out).mono ?_); rintro e w1 ⟨rfl, hb⟩; have R1 := zh (jaf R1.out hb); have R2 := zh (jaf R2.out hb); have LA := zh (LA.out.on hb); have B := zh (B.out.trans (hb.mono B.out.size)); have HS := zh (Nat.le_trans HS.out hb.size); clear hb k0 k1 x0 x1 y0 y1 f2 h0 h1 h2 h3 h4 hlt; have k0 := HS.out; have k1 : n + 1 < _ := k0; have k0 := Nat.lt_of_succ_lt k1; obtain ⟨x0, x1, y0, y1, f2⟩ := PF.out w1 R1.out R2.out; obtain ⟨h0, h1, h2, h3, h4, hlt⟩ := LA.out))
 exact bodyPost_ret (v := .tuple #[rlT m (some ⟨b, o, none⟩) 1 c, .int .i64 0, .int .i64 9]) (by simp [results, Tryz.results96, go_sem, x0, x1, y0, y1, f2, k0, k1]) rfl ⟨_, _, rfl, S0.out.on (by have bb := B.out; have nb := NB.out; have nb1 : w.heap.size ≤ n + 1 := (by omega); have ns := bb.size; go_grown), (by have bb := B.out; have nb := NB.out; have nb1 : w.heap.size ≤ n + 1 := (by omega); have ns := bb.size; go_grown), fun h => absurd h (by decide)⟩
theorem jhj (m : Int) (b o c : Nat) (l : Le) (ho now ttl : Int) (hh : 0 ≤ ho ∧ ho ≤ 63) (hn : 0 ≤ now ∧ now ≤ 1099511627776) (ht : 1 ≤ ttl ∧ ttl ≤ 1048576) (hm : 0 ≤ m ∧ m ≤ 1048576) (w : World) (h : LeAt w b o l) (hc : 1 ≤ c) (hti : 0 ≤ l.till ∧ l.till ≤ 1099511627776) (hx : Bk.late l.till m ≤ now) (hep : 0 ≤ l.ep ∧ l.ep ≤ 1099511627776) : Calls Tryz.prog 96 #[rlT m (some ⟨b, o, none⟩) 1 c, .string Bk.lead, .int .i64 ho, .int .i64 now, .int .i64 ttl] w (jch w m [⟨ho, (l.ep + 1), Bk.late now ttl⟩] (l.ep + 1) 0) := by
 have CR := zh (fun W => jbq ho now ttl hh hn ht W)
 have CA : Hid (∀ W, LeAt W b o l → Calls Tryz.prog 145 #[.agg #[.int .i64 m, .slice (some ⟨b, o, none⟩) 1 c], .string Bk.lead] W (jbb W (.int .i64 0))) := fun W h => jct m b o c l W h hc
 have CF : Hid (∀ W, LeAt W b o l → Calls Tryz.prog 148 #[.agg #[.int .i64 m, .slice (some ⟨b, o, none⟩) 1 c], .string Bk.lead, .int .i64 now] W (jbb W (.bool true))) := fun W h => by
  have := je8 m now b o c l hm hti W h hc
  rwa [decide_eq_true hx] at this
 have CL := zh (fun W => jcu now ttl hn (by omega) W)
 have CP : Hid (∀ W, LeAt W b o l → Calls Tryz.prog 147 #[.agg #[.int .i64 m, .slice (some ⟨b, o, none⟩) 1 c], .agg #[.string Bk.lead, .int .i64 ho, .int .i64 (l.ep + 1), .int .i64 (Bk.late now ttl), .bool false]] W (jkl W m [⟨ho, (l.ep + 1), Bk.late now ttl⟩])) := fun W h => jgb m b o c l ⟨ho, l.ep + 1, Bk.late now ttl⟩ W h hc
 have LA0 := zh h
 have LT := zh h.lt
 have hs1 : IntKind.i64.wrap (l.ep + 1) = l.ep + 1 := IntWalk.i64_in _ (by omega)
 have hs2 : wrap64 (l.ep + 1) = l.ep + 1 := IntWalk.wrap64_in _ ⟨by omega, by omega⟩
 clear hx
 generalize Bk.late now ttl = lt at *
 clear hep hti
 unfold rlT
 go_enter Tryz.func96, Tryz.ntmps96
 go_upto_region 1 with fail
 obtain ⟨W, hW⟩ : ∃ W, W = (w.alloc (.cells #[.int .i64 m, .slice (some ⟨b, o, none⟩) 1 c] 31)).alloc (.cells #[.int .i64 0, .slice none 0 0] 31) := ⟨_, rfl⟩
 rw [← hW]
 obtain ⟨r1, r2, hb, hs⟩ := jbe hW
 clear hW
 have B := zh hb
 have LA := zh (h.on hb)
 obtain ⟨n, hn⟩ : ∃ n, n = w.heap.size := ⟨_, rfl⟩
 rw [← hn] at r1 r2 hs ⊢
 have NB := zh (Nat.le_of_eq hn.symm)
 clear hn hb
 have PF : Hid (∀ W : World, W.heap[n]? = some (.cells #[.int .i64 m, .slice (some ⟨b, o, none⟩) 1 c] 31 (0, 0)) → W.heap[n + 1]? = some (.cells #[.int .i64 0, .slice none 0 0] 31 (0, 0)) →
   W.cell? ⟨n, 0, none⟩ = some (.int .i64 m) ∧ W.cell? ⟨n, 1, none⟩ = some (.slice (some ⟨b, o, none⟩) 1 c) ∧ W.cell? ⟨n + 1, 0, none⟩ = some (.int .i64 0) ∧ W.cell? ⟨n + 1, 1, none⟩ = some (.slice none 0 0) ∧ (∀ i, W.frozen? ⟨n + 1, i, none⟩ = false)) :=
  fun W r1 r2 => ⟨cell_of_row W _ 0 _ _ _ r1, cell_of_row W _ 1 _ _ _ r1, cell_of_row W _ 0 _ _ _ r2, cell_of_row W _ 1 _ _ _ r2, fun i => frozen_of_row W _ i _ _ r2⟩
 obtain ⟨x0, x1, y0, y1, f2⟩ := PF.out W r1 r2
 have R1 := zh r1
 have R2 := zh r2
 have HS : Hid (n + 1 + 1 ≤ W.heap.size) := by show _ ≤ _; omega
 have k0 : n < W.heap.size := by omega
 have k1 : n + 1 < W.heap.size := by omega
 clear r1 r2 hs
 obtain ⟨h0, h1, h2, h3, h4, hlt⟩ := LA.out
 clear h
 go_upto_region 11 with (first
  | (go_at_call 144; (with_reducible refine (CR.out _).mono ?_); rintro e wr ⟨rfl, rfl⟩)
  | (go_at_call 148; (with_reducible refine (CF.out _ LA.out).mono ?_); rintro e w1 ⟨rfl, hb⟩; have R1 := zh (jaf R1.out hb); have R2 := zh (jaf R2.out hb); have LA := zh (LA.out.on hb); have B := zh (B.out.trans (hb.mono B.out.size)); have HS := zh (Nat.le_trans HS.out hb.size); clear hb k0 k1 x0 x1 y0 y1 f2 h0 h1 h2 h3 h4 hlt; have k0 := HS.out; have k1 : n + 1 < _ := k0; have k0 := Nat.lt_of_succ_lt k1; obtain ⟨x0, x1, y0, y1, f2⟩ := PF.out w1 R1.out R2.out; obtain ⟨h0, h1, h2, h3, h4, hlt⟩ := LA.out)
  | (go_at_call 145; (with_reducible refine (CA.out _ LA.out).mono ?_); rintro e w2 ⟨rfl, hb⟩; have R1 := zh (jaf R1.out hb); have R2 := zh (jaf R2.out hb); have LA := zh (LA.out.on hb); have B := zh (B.out.trans (hb.mono B.out.size)); have HS := zh (Nat.le_trans HS.out hb.size); clear hb k0 k1 x0 x1 y0 y1 f2 h0 h1 h2 h3 h4 hlt; have k0 := HS.out; have k1 : n + 1 < _ := k0; have k0 := Nat.lt_of_succ_lt k1; obtain ⟨x0, x1, y0, y1, f2⟩ := PF.out w2 R1.out R2.out; obtain ⟨h0, h1, h2, h3, h4, hlt⟩ := LA.out))
 have RX4 := zh R1.out
 have RY : Hid (w2.drew.heap[n + 1]? = some (.cells #[.int .i64 0, .slice none 0 0] 31 (0, 0))) := R2.out
 have B4 := zh B.out
 clear x0 x1 y0 y1 f2 k0 k1 h0 h1 h2 h3 h4 hlt
 have SB : Hid (∀ W : World, (W.heap[n]? = some (.cells #[.int .i64 m, .slice (some ⟨b, o, none⟩) 1 c] 31 (0, 0)) ∧ Below w.heap.size w W) → Below w.heap.size w W) := fun _ h => h.2
 have SH : Hid (∀ W W' : World, (W.heap[n]? = some (.cells #[.int .i64 m, .slice (some ⟨b, o, none⟩) 1 c] 31 (0, 0)) ∧ Below w.heap.size w W) → Below W.heap.size W W' → (W'.heap[n]? = some (.cells #[.int .i64 m, .slice (some ⟨b, o, none⟩) 1 c] 31 (0, 0)) ∧ Below w.heap.size w W')) := fun W W' h hb => ⟨jaf h.1 hb, h.2.trans (hb.mono h.2.size)⟩
 have SZ : Hid (∀ W : World, (W.heap[n]? = some (.cells #[.int .i64 m, .slice (some ⟨b, o, none⟩) 1 c] 31 (0, 0)) ∧ Below w.heap.size w W) → ∀ v u, (((W.setCell ⟨n + 1, 0, none⟩ v).setCell ⟨n + 1, 1, none⟩ u).heap[n]? = some (.cells #[.int .i64 m, .slice (some ⟨b, o, none⟩) 1 c] 31 (0, 0)) ∧ Below w.heap.size w ((W.setCell ⟨n + 1, 0, none⟩ v).setCell ⟨n + 1, 1, none⟩ u))) := fun W h v u => ⟨by
  rw [Below.heap_setCell _ _ _ _ (by simp), Below.heap_setCell _ _ _ _ (by simp)]; exact h.1, (h.2.setCell (by have := NB.out; show w.heap.size ≤ n + 1; omega) _).setCell (by have := NB.out; show w.heap.size ≤ n + 1; omega) _⟩
 refine wp_region_held_drew (S := fun W => W.heap[n]? = some (.cells #[.int .i64 m, .slice (some ⟨b, o, none⟩) 1 c] 31 (0, 0)) ∧ Below w.heap.size w W) (by kernel_rfl) ⟨RX4.out, B4.out.drew⟩ (fun hS => ?_)
 refine tZ 0 rfl (by intro W hW; have q0 := cell_of_row W n 0 _ _ _ hW.1; have q1 := cell_of_row W n 1 _ _ _ hW.1; simp only [List.getElem?_toArray, List.getElem?_cons_zero, List.getElem?_cons_succ] at q0 q1; go_simp; (try with_reducible rfl)) hS ?_
 refine tY 1 hS ?_
 refine tY 2 hS ?_
 refine tY 3 hS ?_
 refine tY 4 hS ?_
 refine tY 5 hS ?_
 simp only [Act.put, zT, zO, zS]
 refine tY 9 hS ?_
 simp only [Act.put, zT, zO, zS]
 refine rO 6 (fun K hK => ?_)
 go_simp
 with_reducible refine (CL.out _).mono ?_
 rintro e wl ⟨rfl, hw⟩
 obtain rfl := hw.symm
 refine hK.out _ _ hS (fun _ => ?_)
 clear hK K
 refine tY 7 hS ?_
 simp only [Act.put, zT, zO, zS]
 refine rO 8 (fun K hK => ?_)
 go_simp
 with_reducible refine (CP.out _ (LA0.out.low (SB.out _ hS) LT.out)).mono ?_
 rintro e w5 ⟨A5, k5, rfl, hs5, hb5, hfar⟩
 have FAR := zh hfar
 clear hfar
 have S5 := zh hs5
 have SZN : Hid (n + 1 < _) := (Array.getElem?_eq_some_iff.1 RY.out).1
 have hS2 := SH.out _ _ hS hb5
 have RY5 := zh (jaf RY.out hb5)
 clear hS hs5 hb5
 have hS := hS2
 clear hS2
 obtain ⟨y0, y1, f2⟩ : w5.cell? ⟨n + 1, 0, none⟩ = some (.int .i64 0) ∧ w5.cell? ⟨n + 1, 1, none⟩ = some (.slice none 0 0) ∧ (∀ i, w5.frozen? ⟨n + 1, i, none⟩ = false) := ⟨cell_of_row _ _ 0 _ _ _ RY5.out, cell_of_row _ _ 1 _ _ _ RY5.out, fun i => frozen_of_row _ _ i _ _ RY5.out⟩
 have k1 : n + 1 < w5.heap.size := (Array.getElem?_eq_some_iff.1 RY5.out).1
 refine hK.out _ _ hS (fun _ => ?_)
 clear hK K
 try simp only [Act.put, zT, zO, zS]
 refine rO 10 (fun K hK => ?_)
 go_simp
 have hS2 := SZ.out _ hS (.int .i64 m) (.slice A5 1 k5)
 clear hS
 have hS := hS2
 clear hS2
 refine hK.out _ _ hS (fun _ => ?_)
 clear hK K
 refine tY 11 hS ?_
 refine tY 12 hS ?_
 simp only [Act.put, zT, zO, zS]
 refine wpAnyH_done (by kernel_rfl) ?_ _
 go_wp2_with fail
 exact bodyPost_ret (v := .tuple #[rlT m A5 1 k5, .int .i64 (l.ep + 1), .int .i64 0]) (by simp [results, Tryz.results96, go_sem, y0, y1, f2, k1]) rfl ⟨A5, k5, rfl, S5.out.keep (by simp) (fun b' o' he hl => by
   have h3 := FAR.out b' o' he
   have h4 := SZN.out
   exact (Below.heap_setCell _ _ _ _ (by simp; omega)).trans (Below.heap_setCell _ _ _ _ (by simp; omega))), hS.2, fun _ b' o' e => by have h1 := FAR.out b' o' e; have h2 := SZN.out; have h3 := NB.out; omega⟩
theorem jhk (m : Int) (A : Option Addr) (c : Nat) (ho now ttl : Int) (hh : 0 ≤ ho ∧ ho ≤ 63) (hn : 0 ≤ now ∧ now ≤ 1099511627776) (ht : 1 ≤ ttl ∧ ttl ≤ 1048576) (hm : 0 ≤ m ∧ m ≤ 1048576) (w : World) : Calls Tryz.prog 96 #[rlT m A 0 c, .string Bk.lead, .int .i64 ho, .int .i64 now, .int .i64 ttl] w (jch w m [⟨ho, 1, Bk.late now ttl⟩] 1 0) := by
 have CR := zh (fun W => jbq ho now ttl hh hn ht W)
 have CA : Hid (∀ W, Calls Tryz.prog 145 #[.agg #[.int .i64 m, .slice A 0 c], .string Bk.lead] W (jbb W (.int .i64 (-1)))) := fun W => jkj m A c W Bk.lead
 have CF : Hid (∀ W, Calls Tryz.prog 148 #[.agg #[.int .i64 m, .slice A 0 c], .string Bk.lead, .int .i64 now] W (jbb W (.bool true))) := fun W => jkk m now A c W
 have CL := zh (fun W => jcu now ttl hn (by omega) W)
 have CP : Hid (∀ W, Calls Tryz.prog 147 #[.agg #[.int .i64 m, .slice A 0 c], .agg #[.string Bk.lead, .int .i64 ho, .int .i64 1, .int .i64 (Bk.late now ttl), .bool false]] W (jkl W m [⟨ho, 1, Bk.late now ttl⟩])) := fun W => jni m A c ⟨ho, 1, Bk.late now ttl⟩ W
 generalize Bk.late now ttl = lt at *
 unfold rlT
 go_enter Tryz.func96, Tryz.ntmps96
 go_upto_region 1 with fail
 obtain ⟨W, hW⟩ : ∃ W, W = (w.alloc (.cells #[.int .i64 m, .slice A 0 c] 31)).alloc (.cells #[.int .i64 0, .slice none 0 0] 31) := ⟨_, rfl⟩
 rw [← hW]
 obtain ⟨r1, r2, hb, hs⟩ := jbe hW
 clear hW
 have B := zh hb
 obtain ⟨n, hn⟩ : ∃ n, n = w.heap.size := ⟨_, rfl⟩
 rw [← hn] at r1 r2 hs ⊢
 have NB := zh (Nat.le_of_eq hn.symm)
 clear hn hb
 have PF : Hid (∀ W : World, W.heap[n]? = some (.cells #[.int .i64 m, .slice A 0 c] 31 (0, 0)) → W.heap[n + 1]? = some (.cells #[.int .i64 0, .slice none 0 0] 31 (0, 0)) →
   W.cell? ⟨n, 0, none⟩ = some (.int .i64 m) ∧ W.cell? ⟨n, 1, none⟩ = some (.slice A 0 c) ∧ W.cell? ⟨n + 1, 0, none⟩ = some (.int .i64 0) ∧ W.cell? ⟨n + 1, 1, none⟩ = some (.slice none 0 0) ∧ (∀ i, W.frozen? ⟨n + 1, i, none⟩ = false)) :=
  fun W r1 r2 => ⟨cell_of_row W _ 0 _ _ _ r1, cell_of_row W _ 1 _ _ _ r1, cell_of_row W _ 0 _ _ _ r2, cell_of_row W _ 1 _ _ _ r2, fun i => frozen_of_row W _ i _ _ r2⟩
 obtain ⟨x0, x1, y0, y1, f2⟩ := PF.out W r1 r2
 have R1 := zh r1
 have R2 := zh r2
 have HS : Hid (n + 1 + 1 ≤ W.heap.size) := by show _ ≤ _; omega
 have k0 : n < W.heap.size := by omega
 have k1 : n + 1 < W.heap.size := by omega
 clear r1 r2 hs
 go_upto_region 11 with (first
  | (go_at_call 144; (with_reducible refine (CR.out _).mono ?_); rintro e wr ⟨rfl, rfl⟩)
  | (go_at_call 148; (with_reducible refine (CF.out _).mono ?_); rintro e w1 ⟨rfl, hb⟩; have R1 := zh (jaf R1.out hb); have R2 := zh (jaf R2.out hb); have B := zh (B.out.trans (hb.mono B.out.size)); have HS := zh (Nat.le_trans HS.out hb.size); clear hb k0 k1 x0 x1 y0 y1 f2; have k0 := HS.out; have k1 : n + 1 < _ := k0; have k0 := Nat.lt_of_succ_lt k1; obtain ⟨x0, x1, y0, y1, f2⟩ := PF.out w1 R1.out R2.out)
  | (go_at_call 145; (with_reducible refine (CA.out _).mono ?_); rintro e w2 ⟨rfl, hb⟩; have R1 := zh (jaf R1.out hb); have R2 := zh (jaf R2.out hb); have B := zh (B.out.trans (hb.mono B.out.size)); have HS := zh (Nat.le_trans HS.out hb.size); clear hb k0 k1 x0 x1 y0 y1 f2; have k0 := HS.out; have k1 : n + 1 < _ := k0; have k0 := Nat.lt_of_succ_lt k1; obtain ⟨x0, x1, y0, y1, f2⟩ := PF.out w2 R1.out R2.out))
 have RX4 := zh R1.out
 have RY : Hid (w2.drew.heap[n + 1]? = some (.cells #[.int .i64 0, .slice none 0 0] 31 (0, 0))) := R2.out
 have B4 := zh B.out
 clear x0 x1 y0 y1 f2 k0 k1
 have SB : Hid (∀ W : World, (W.heap[n]? = some (.cells #[.int .i64 m, .slice A 0 c] 31 (0, 0)) ∧ Below w.heap.size w W) → Below w.heap.size w W) := fun _ h => h.2
 have SH : Hid (∀ W W' : World, (W.heap[n]? = some (.cells #[.int .i64 m, .slice A 0 c] 31 (0, 0)) ∧ Below w.heap.size w W) → Below W.heap.size W W' → (W'.heap[n]? = some (.cells #[.int .i64 m, .slice A 0 c] 31 (0, 0)) ∧ Below w.heap.size w W')) := fun W W' h hb => ⟨jaf h.1 hb, h.2.trans (hb.mono h.2.size)⟩
 have SZ : Hid (∀ W : World, (W.heap[n]? = some (.cells #[.int .i64 m, .slice A 0 c] 31 (0, 0)) ∧ Below w.heap.size w W) → ∀ v u, (((W.setCell ⟨n + 1, 0, none⟩ v).setCell ⟨n + 1, 1, none⟩ u).heap[n]? = some (.cells #[.int .i64 m, .slice A 0 c] 31 (0, 0)) ∧ Below w.heap.size w ((W.setCell ⟨n + 1, 0, none⟩ v).setCell ⟨n + 1, 1, none⟩ u))) := fun W h v u => ⟨by
  rw [Below.heap_setCell _ _ _ _ (by simp), Below.heap_setCell _ _ _ _ (by simp)]; exact h.1, (h.2.setCell (by have := NB.out; show w.heap.size ≤ n + 1; omega) _).setCell (by have := NB.out; show w.heap.size ≤ n + 1; omega) _⟩
 refine wp_region_held_drew (S := fun W => W.heap[n]? = some (.cells #[.int .i64 m, .slice A 0 c] 31 (0, 0)) ∧ Below w.heap.size w W) (by kernel_rfl) ⟨RX4.out, B4.out.drew⟩ (fun hS => ?_)
 refine tZ 0 rfl (by intro W hW; have q0 := cell_of_row W n 0 _ _ _ hW.1; have q1 := cell_of_row W n 1 _ _ _ hW.1; simp only [List.getElem?_toArray, List.getElem?_cons_zero, List.getElem?_cons_succ] at q0 q1; go_simp; (try with_reducible rfl)) hS ?_
 refine tY 1 hS ?_
 refine tY 2 hS ?_
 refine tY 3 hS ?_
 refine tY 4 hS ?_
 refine tY 5 hS ?_
 simp only [Act.put, zT, zO, zS]
 refine tY 9 hS ?_
 simp only [Act.put, zT, zO, zS]
 refine rO 6 (fun K hK => ?_)
 go_simp
 with_reducible refine (CL.out _).mono ?_
 rintro e wl ⟨rfl, hw⟩
 obtain rfl := hw.symm
 refine hK.out _ _ hS (fun _ => ?_)
 clear hK K
 refine tY 7 hS ?_
 simp only [Act.put, zT, zO, zS]
 refine rO 8 (fun K hK => ?_)
 go_simp
 with_reducible refine (CP.out _).mono ?_
 rintro e w5 ⟨A5, k5, rfl, hs5, hb5, hfar⟩
 have FAR := zh hfar
 clear hfar
 have S5 := zh hs5
 have SZN : Hid (n + 1 < _) := (Array.getElem?_eq_some_iff.1 RY.out).1
 have hS2 := SH.out _ _ hS hb5
 have RY5 := zh (jaf RY.out hb5)
 clear hS hs5 hb5
 have hS := hS2
 clear hS2
 obtain ⟨y0, y1, f2⟩ : w5.cell? ⟨n + 1, 0, none⟩ = some (.int .i64 0) ∧ w5.cell? ⟨n + 1, 1, none⟩ = some (.slice none 0 0) ∧ (∀ i, w5.frozen? ⟨n + 1, i, none⟩ = false) := ⟨cell_of_row _ _ 0 _ _ _ RY5.out, cell_of_row _ _ 1 _ _ _ RY5.out, fun i => frozen_of_row _ _ i _ _ RY5.out⟩
 have k1 : n + 1 < w5.heap.size := (Array.getElem?_eq_some_iff.1 RY5.out).1
 refine hK.out _ _ hS (fun _ => ?_)
 clear hK K
 try simp only [Act.put, zT, zO, zS]
 refine rO 10 (fun K hK => ?_)
 go_simp
 have hS2 := SZ.out _ hS (.int .i64 m) (.slice A5 1 k5)
 clear hS
 have hS := hS2
 clear hS2
 refine hK.out _ _ hS (fun _ => ?_)
 clear hK K
 refine tY 11 hS ?_
 refine tY 12 hS ?_
 simp only [Act.put, zT, zO, zS]
 refine wpAnyH_done (by kernel_rfl) ?_ _
 go_wp2_with fail
 exact bodyPost_ret (v := .tuple #[rlT m A5 1 k5, .int .i64 1, .int .i64 0]) (by simp [results, Tryz.results96, go_sem, y0, y1, f2, k1]) rfl ⟨A5, k5, rfl, S5.out.keep (by simp) (fun b' o' he hl => by
   have h3 := FAR.out b' o' he
   have h4 := SZN.out
   exact (Below.heap_setCell _ _ _ _ (by simp; omega)).trans (Below.heap_setCell _ _ _ _ (by simp; omega))), hS.2, fun _ b' o' e => by have h1 := FAR.out b' o' e; have h2 := SZN.out; have h3 := NB.out; omega⟩
end Go.Proofs.YtnacjhnfkkddcaaGreatDoor
