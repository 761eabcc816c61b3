/-
  The walk of the statement CodecReads.
-/
import Derived.Test.YtogmepijpklciaaCdcBoth
namespace Go.Proofs.Ytogmepijpklciaa
open Go.RowKit Cdc

set_option maxRecDepth 100000 in
set_option maxHeartbeats 3200000 in
theorem reads_walk (n c k0 d0 : Nat) (A D : Option Addr) (l : List Nat) (ks : List Int) (w : World) (hs : Sl w A n c l) (hk : SlI w D k0 d0 ks) :
    Calls Try.prog 4 #[.slice A n c, .slice D k0 d0] w fun e w' => e = .returned (.bool true) ∧ Below w.heap.size w w' := by
  have S := Lib.hid (hs.few 100)
  have HC := Lib.hid hs.cap
  have SK := Lib.hid hk
  have hmx := Nat.le_trans hk.cap hk.max
  unfold maxLen at hmx
  clear hs hk
  have HL : Hid ((l.take 100).length ≤ 100) := by show _ ≤ _; rw [List.length_take]; omega
  generalize l.take 100 = b0 at *
  go_enter Try.func4, Try.ntmps4
  go_wp2_with fail
  refine (lives_at _ (Below.refl _ _)).mono ?_
  rintro e w1 ⟨rfl, hb1⟩
  have B1 := Lib.hid hb1; clear hb1
  go_wp2_with fail
  refine (few_any n c A w1 HC.out).mono ?_
  rintro e w2 ⟨rfl, rfl⟩
  have hjl := S.out.len
  generalize min n 100 = j at *
  subst hjl
  go_wp2_with fail
  (with_reducible refine (reader_any _ c A b0 w1 (S.out.on B1.out) (by have := HL.out; omega)).mono ?_)
  rintro e w3 ⟨r, rfl, hr3, hge, hb3⟩
  have R3 := Lib.hid hr3; clear hr3
  have B3 := Lib.hid (B1.out.trans (hb3.mono B1.out.size)); clear hb3
  have HG := Lib.hid (Nat.le_trans B1.out.size hge); clear hge
  have X0 : Hid (NextAt (w3.alloc (.cells #[.slice A b0.length c, .int .i64 0] 36)) w3.heap.size A b0.length c 0) := heap_alloc_new w3 _
  have BX := Lib.hid (B3.out.alloc B3.out.size (.cells #[.slice A b0.length c, .int .i64 0] 36))
  have RX := Lib.hid (R3.out.below ((Below.refl w3.heap.size w3).alloc (Nat.le_refl _) (.cells #[.slice A b0.length c, .int .i64 0] 36)))
  have RG := Lib.hid R3.out.lt
  go_wp2_with fail
  generalize w3.alloc (.cells #[.slice A b0.length c, .int .i64 0] 36) = X at *
  obtain ⟨g, hg⟩ : ∃ g, g = w3.heap.size := ⟨_, rfl⟩
  rw [← hg] at X0 RG ⊢
  have GB : Hid (w.heap.size ≤ g) := by rw [hg]; exact B3.out.size
  clear hg
  go_loopw [7] (fun i wr => ∃ (k : Nat) (s : St) (A2 : Option Addr) (c2 : Nat), i = .int .i64 k ∧ k ≤ 30 ∧ k ≤ k0 ∧ Rdr wr r s ∧ NextAt wr g A2 s.l.length c2 s.e ∧ Sl w A2 s.l.length c2 s.l ∧ Okay s ∧ s.l.length ≤ 100 ∧ Below w.heap.size w wr) (fun i _ => 30 - (intOf i).toNat)
  case atStart => exact ⟨0, ⟨b0, 0⟩, A, c, rfl, by omega, by omega, RX.out, X0.out, S.out, ⟨S.out.rd.1, fun h => absurd rfl h⟩, HL.out, BX.out⟩
  case round =>
    obtain ⟨k, s, A2, c2, rfl, hk30, hkk, hr, hnx, hs2, hok, hln, hb⟩ := hrel
    have RR := Lib.hid hr; clear hr
    have NX := Lib.hid hnx; clear hnx
    have S2 := Lib.hid hs2; clear hs2
    have OK := Lib.hid hok; clear hok
    have LN := Lib.hid hln; clear hln
    have BW := Lib.hid hb; clear hb
    clear RX X0 R3 B3 BX
    by_cases hin : k < k0 ∧ k < 30
    · obtain ⟨hk1, hk2⟩ := hin
      have hkl : k < ks.length := by rw [← SK.out.len]; exact hk1
      obtain ⟨b, o, rfl, hbw, hcl⟩ := SK.out.rd (by omega)
      have CK := Lib.hid ((BW.out.cell (p := ⟨b, o + k, none⟩) hbw).trans (hcl k hkl))
      clear hcl
      generalize ks.getD k 0 = x at *
      have RC := Lib.hid (fun W (h1 : Below w.heap.size w W) (h2 : Rdr W r s) => read_any w A2 c2 r s x W S2.out h1 OK.out LN.out h2)
      have NXd := Lib.hid (NX.out.kept (grown_below none (Below.refl wr.heap.size wr).drew) (by simp))
      have BWd := Lib.hid BW.out.drew
      have RRd := Lib.hid (RR.out.below (Below.refl wr.heap.size wr).drew)
      have HS0 : Hid (wr.drew.cell? ⟨g, 0, none⟩ = some (.slice A2 s.l.length c2) ∧ wr.drew.cell? ⟨g, 1, none⟩ = some (.int .i64 s.e) ∧ wr.drew.cell? ⟨b, o + k, none⟩ = some (.int .i64 x)) := ⟨NXd.out.facts.1, NXd.out.facts.2.1, CK.out⟩
      have i1 : (0 : Int) ≤ (k : Int) := by omega
      have i2 : (k : Int) < (k0 : Int) := by omega
      go_wp2_with fail
      refine wp_region_held_drew (S := fun W => W.cell? ⟨g, 0, none⟩ = some (.slice A2 s.l.length c2) ∧ W.cell? ⟨g, 1, none⟩ = some (.int .i64 s.e) ∧ W.cell? ⟨b, o + k, none⟩ = some (.int .i64 x)) (by kernel_rfl) HS0.out (fun hS => ?_)
      refine tkYes 0 (v := ?_) rfl (by kernel_rfl) (fun _ _ _ h => h) rfl ?_ hS ?_
      rotate_left
      · intro W hW; go_simp; (try with_reducible rfl)
      simp only [Act.put, List.setIfInBounds_toArray, List.set_cons_zero, List.set_cons_succ]
      refine tkYes 1 (v := ?_) rfl (by kernel_rfl) (fun _ _ _ h => h) rfl ?_ hS ?_
      rotate_left
      · intro W hW; have hw1 : W.cell? ⟨g, 0, none⟩ = some (.slice A2 s.l.length c2) := hW.1; have hw2 : W.cell? ⟨g, 1, none⟩ = some (.int .i64 s.e) := hW.2.1; go_simp; (try with_reducible rfl)
      simp only [Act.put, List.setIfInBounds_toArray, List.set_cons_zero, List.set_cons_succ]
      refine tkYes 2 (v := ?_) rfl (by kernel_rfl) (fun _ _ _ h => h) rfl ?_ hS ?_
      rotate_left
      · intro W hW; go_simp; (try with_reducible rfl)
      simp only [Act.put, List.setIfInBounds_toArray, List.set_cons_zero, List.set_cons_succ]
      refine tkYes 3 (v := ?_) rfl (by kernel_rfl) (fun _ _ _ h => h) rfl ?_ hS ?_
      rotate_left
      · intro W hW; go_simp; (try with_reducible rfl)
      simp only [Act.put, List.setIfInBounds_toArray, List.set_cons_zero, List.set_cons_succ]
      refine tkYes 4 (v := ?_) rfl (by kernel_rfl) (fun _ _ _ h => h) rfl ?_ hS ?_
      rotate_left
      · intro W hW; go_simp; (try with_reducible rfl)
      simp only [Act.put, List.setIfInBounds_toArray, List.set_cons_zero, List.set_cons_succ]
      refine tkYes 5 (v := ?_) rfl (by kernel_rfl) (fun _ _ _ h => h) rfl ?_ hS ?_
      rotate_left
      · intro W hW; have hw3 : W.cell? ⟨b, o + k, none⟩ = some (.int .i64 x) := hW.2.2; go_simp; (try with_reducible rfl)
      simp only [Act.put, List.setIfInBounds_toArray, List.set_cons_zero, List.set_cons_succ]
      refine rnTwo 6 10 rfl rfl (by kernel_rfl) rfl rfl (fun K hK => ?_) (fun K hK => ?_)
      · go_simp
        (with_reducible refine (RC.out _ BWd.out RRd.out).mono ?_)
        rintro e w9 ⟨s2, A3, c3, rfl, hr9, hs9, hok9, hln9, hg9⟩
        have R9 := Lib.hid hr9
        have S3 := Lib.hid hs9
        have OK3 := Lib.hid hok9
        have LN3 := Lib.hid hln9
        have G9 := Lib.hid hg9
        have B9 := Lib.hid (BWd.out.grown hg9 BWd.out.size (fun i hi => by injection hi with hi; have := HG.out; omega))
        have N9 := NXd.out.kept hg9 (fun e2 => by injection e2 with e2; have := RG.out; omega)
        have C9 : w9.cell? ⟨b, o + k, none⟩ = some (.int .i64 x) := hg9.cell hS.2.2 (fun e2 => by have e3 : b = r := Option.some.inj e2; have := HG.out; omega)
        have NG9 := Lib.hid N9
        clear hr9 hs9 hok9 hln9 hg9 hS
        have hS : w9.cell? ⟨g, 0, none⟩ = some (.slice A2 s.l.length c2) ∧ w9.cell? ⟨g, 1, none⟩ = some (.int .i64 s.e) ∧ w9.cell? ⟨b, o + k, none⟩ = some (.int .i64 x) := ⟨N9.facts.1, N9.facts.2.1, C9⟩
        clear N9 C9
        refine hK.out _ _ hS (fun _ => ?_)
        clear hK K
        try simp only [Act.put, List.setIfInBounds_toArray, List.set_cons_zero, List.set_cons_succ]
        have HS9 := Lib.hid hS
        refine tkYes 7 (v := ?_) rfl (by kernel_rfl) (fun _ _ _ h => h) rfl ?_ hS ?_
        rotate_left
        · intro W hW; go_simp; (try with_reducible rfl)
        simp only [Act.put, List.setIfInBounds_toArray, List.set_cons_zero, List.set_cons_succ]
        refine tkYes 8 (v := ?_) rfl (by kernel_rfl) (fun _ _ _ h => h) rfl ?_ hS ?_
        rotate_left
        · intro W hW; go_simp; (try with_reducible rfl)
        simp only [Act.put, List.setIfInBounds_toArray, List.set_cons_zero, List.set_cons_succ]
        refine tkYes 9 (v := ?_) rfl (by kernel_rfl) (fun _ _ _ h => h) rfl ?_ hS ?_
        rotate_left
        · intro W hW; go_simp; (try with_reducible rfl)
        simp only [Act.put, List.setIfInBounds_toArray, List.set_cons_zero, List.set_cons_succ]
        refine rnOne 10 rfl (by kernel_rfl) rfl (fun K hK => ?_)
        go_simp
        have hS2 : (w9.alloc (.cells #[.slice none 0 0, .int .i64 0] 36)).cell? ⟨g, 0, none⟩ = some (.slice A2 s.l.length c2) ∧ (w9.alloc (.cells #[.slice none 0 0, .int .i64 0] 36)).cell? ⟨g, 1, none⟩ = some (.int .i64 s.e) ∧ (w9.alloc (.cells #[.slice none 0 0, .int .i64 0] 36)).cell? ⟨b, o + k, none⟩ = some (.int .i64 x) := ⟨((World.grownBy_alloc w9 _ none).cell HS9.out.1 (by simp)), ((World.grownBy_alloc w9 _ none).cell HS9.out.2.1 (by simp)), ((World.grownBy_alloc w9 _ none).cell HS9.out.2.2 (by simp))⟩
        clear hS
        have hS := hS2
        clear hS2
        refine hK.out _ _ hS (fun _ => ?_)
        clear hK K
        try simp only [Act.put, List.setIfInBounds_toArray, List.set_cons_zero, List.set_cons_succ]
        refine rnOne 11 rfl (by kernel_rfl) rfl (fun K hK => ?_)
        go_simp
        have hS2 : (w9.alloc (.cells #[.slice A3 s2.l.length c3, .int .i64 s2.e] 36)).cell? ⟨g, 0, none⟩ = some (.slice A2 s.l.length c2) ∧ (w9.alloc (.cells #[.slice A3 s2.l.length c3, .int .i64 s2.e] 36)).cell? ⟨g, 1, none⟩ = some (.int .i64 s.e) ∧ (w9.alloc (.cells #[.slice A3 s2.l.length c3, .int .i64 s2.e] 36)).cell? ⟨b, o + k, none⟩ = some (.int .i64 x) := ⟨((World.grownBy_alloc w9 _ none).cell HS9.out.1 (by simp)), ((World.grownBy_alloc w9 _ none).cell HS9.out.2.1 (by simp)), ((World.grownBy_alloc w9 _ none).cell HS9.out.2.2 (by simp))⟩
        clear hS
        have hS := hS2
        clear hS2
        refine hK.out _ _ hS (fun _ => ?_)
        clear hK K
        try simp only [Act.put, List.setIfInBounds_toArray, List.set_cons_zero, List.set_cons_succ]
        refine tkYes 12 (v := ?_) rfl (by kernel_rfl) (fun _ _ _ h => h) rfl ?_ hS ?_
        rotate_left
        · intro W hW; go_simp; (try with_reducible rfl)
        simp only [Act.put, List.setIfInBounds_toArray, List.set_cons_zero, List.set_cons_succ]
        refine wpAnyH_done (by kernel_rfl) ?_ _
        clear hS HS9
        have N8 : Hid (NextAt (w9.alloc (.cells #[.slice A3 s2.l.length c3, .int .i64 s2.e] 36)) w9.heap.size A3 s2.l.length c3 s2.e) := heap_alloc_new w9 _
        have G8 := Lib.hid (NG9.out.kept (World.grownBy_alloc w9 (.cells #[.slice A3 s2.l.length c3, .int .i64 s2.e] 36) none) (by simp))
        have R8 := Lib.hid (R9.out.below ((Below.refl w9.heap.size w9).alloc (Nat.le_refl _) (.cells #[.slice A3 s2.l.length c3, .int .i64 s2.e] 36)))
        have B8 := Lib.hid (B9.out.alloc B9.out.size (.cells #[.slice A3 s2.l.length c3, .int .i64 s2.e] 36))
        generalize w9.heap.size = n8 at *
        generalize w9.alloc (.cells #[.slice A3 s2.l.length c3, .int .i64 s2.e] 36) = W8 at *
        obtain ⟨p1, p2, p3, p4⟩ := N8.out.facts
        obtain ⟨q1, q2, q3, q4⟩ := G8.out.facts
        have YN := Lib.hid (G8.out.set (n' := s2.l.length) (c' := c3) (A' := A3) (e' := s2.e))
        have YG := Lib.hid (grown_trans (grown_set W8 g 0 (.slice A3 s2.l.length c3)) (grown_set _ g 1 (.int .i64 s2.e)))
        go_wp2_with fail
        clear p1 p2 p3 p4 q1 q2 q3 q4
        have NY := Lib.hid YN.out
        have RY := Lib.hid (R8.out.kept YG.out (fun i hi => by injection hi with hi; have := RG.out; omega))
        have BY := Lib.hid (B8.out.grown YG.out B8.out.size (fun i hi => by injection hi with hi; have := GB.out; omega))
        clear YN YG N8 G8 R8 B8
        generalize (W8.setCell ⟨g, 0, none⟩ (.slice A3 s2.l.length c3)).setCell ⟨g, 1, none⟩ (.int .i64 s2.e) = Y at *
        refine wp_region_held_drew (S := fun W => Below Y.heap.size Y W) (by kernel_rfl) (Below.refl Y.heap.size Y).drew (fun hS => ?_)
        refine tkYes 0 (v := ?_) rfl (by kernel_rfl) (fun _ _ _ h => h) rfl ?_ hS ?_
        rotate_left
        · intro W hW; go_simp; (try with_reducible rfl)
        simp only [Act.put, List.setIfInBounds_toArray, List.set_cons_zero, List.set_cons_succ]
        refine tkYes 1 (v := ?_) rfl (by kernel_rfl) (fun _ _ _ h => h) rfl ?_ hS ?_
        rotate_left
        · intro W hW; go_simp; (try with_reducible rfl)
        simp only [Act.put, List.setIfInBounds_toArray, List.set_cons_zero, List.set_cons_succ]
        refine tkYes 2 (v := ?_) rfl (by kernel_rfl) (fun _ _ _ h => h) rfl ?_ hS ?_
        rotate_left
        · intro W hW; go_simp; (try with_reducible rfl)
        simp only [Act.put, List.setIfInBounds_toArray, List.set_cons_zero, List.set_cons_succ]
        refine tkYes 3 (v := ?_) rfl (by kernel_rfl) (fun _ _ _ h => h) rfl ?_ hS ?_
        rotate_left
        · intro W hW; go_simp; (try with_reducible rfl)
        simp only [Act.put, List.setIfInBounds_toArray, List.set_cons_zero, List.set_cons_succ]
        refine tkYes 5 (v := ?_) rfl (by kernel_rfl) (fun _ _ _ h => h) rfl ?_ hS ?_
        rotate_left
        · intro W hW; go_simp; (try with_reducible rfl)
        simp only [Act.put, List.setIfInBounds_toArray, List.set_cons_zero, List.set_cons_succ]
        refine tkYes 6 (v := ?_) rfl (by kernel_rfl) (fun _ _ _ h => h) rfl ?_ hS ?_
        rotate_left
        · intro W hW; obtain ⟨q1, q2, q3, q4⟩ := (NY.out.kept (grown_below none (show Below Y.heap.size Y W from hW)) (by simp)).facts; go_simp; (try with_reducible rfl)
        simp only [Act.put, List.setIfInBounds_toArray, List.set_cons_zero, List.set_cons_succ]
        refine rnOne 4 rfl (by kernel_rfl) rfl (fun K hK => ?_)
        go_simp
        (with_reducible refine (err_any _ r s2 (RY.out.below hS)).mono ?_)
        rintro e wE ⟨rfl, rfl⟩
        refine hK.out _ _ hS (fun _ => ?_)
        clear hK K
        try simp only [Act.put, List.setIfInBounds_toArray, List.set_cons_zero, List.set_cons_succ]
        refine tkYes 7 (v := ?_) rfl (by kernel_rfl) (fun _ _ _ h => h) rfl ?_ hS ?_
        rotate_left
        · intro W hW; go_simp; (try with_reducible rfl)
        simp only [Act.put, List.setIfInBounds_toArray, List.set_cons_zero, List.set_cons_succ]
        refine tkYes 8 (v := ?_) rfl (by kernel_rfl) (fun _ _ _ h => h) rfl ?_ hS ?_
        rotate_left
        · intro W hW; go_simp; (try with_reducible rfl)
        simp only [Act.put, List.setIfInBounds_toArray, List.set_cons_zero, List.set_cons_succ]
        refine tkYes 9 (v := ?_) rfl (by kernel_rfl) (fun _ _ _ h => h) rfl ?_ hS ?_
        rotate_left
        · intro W hW; go_simp; (try with_reducible rfl)
        simp only [Act.put, List.setIfInBounds_toArray, List.set_cons_zero, List.set_cons_succ]
        refine tkYes 10 (v := ?_) rfl (by kernel_rfl) (fun _ _ _ h => h) rfl ?_ hS ?_
        rotate_left
        · intro W hW; go_simp; (try with_reducible rfl)
        simp only [Act.put, List.setIfInBounds_toArray, List.set_cons_zero, List.set_cons_succ]
        refine tkYes 12 (v := ?_) rfl (by kernel_rfl) (fun _ _ _ h => h) rfl ?_ hS ?_
        rotate_left
        · intro W hW; go_simp; (try with_reducible rfl)
        simp only [Act.put, List.setIfInBounds_toArray, List.set_cons_zero, List.set_cons_succ]
        refine tkYes 13 (v := ?_) rfl (by kernel_rfl) (fun _ _ _ h => h) rfl ?_ hS ?_
        rotate_left
        · intro W hW; obtain ⟨q1, q2, q3, q4⟩ := (NY.out.kept (grown_below none (show Below Y.heap.size Y W from hW)) (by simp)).facts; go_simp; (try with_reducible rfl)
        simp only [Act.put, List.setIfInBounds_toArray, List.set_cons_zero, List.set_cons_succ]
        refine tkYes 14 (v := ?_) rfl (by kernel_rfl) (fun _ _ _ h => h) rfl ?_ hS ?_
        rotate_left
        · intro W hW; go_simp; (try with_reducible rfl)
        simp only [Act.put, List.setIfInBounds_toArray, List.set_cons_zero, List.set_cons_succ]
        refine rnOne 11 rfl (by kernel_rfl) rfl (fun K hK => ?_)
        go_simp
        (with_reducible refine (left_any _ r s2 (RY.out.below hS)).mono ?_)
        rintro e wE ⟨rfl, rfl⟩
        refine hK.out _ _ hS (fun _ => ?_)
        clear hK K
        try simp only [Act.put, List.setIfInBounds_toArray, List.set_cons_zero, List.set_cons_succ]
        refine tkYes 15 (v := ?_) rfl (by kernel_rfl) (fun _ _ _ h => h) rfl ?_ hS ?_
        rotate_left
        · intro W hW; go_simp; (try with_reducible rfl)
        simp only [Act.put, List.setIfInBounds_toArray, List.set_cons_zero, List.set_cons_succ]
        refine tkYes 16 (v := ?_) rfl (by kernel_rfl) (fun _ _ _ h => h) rfl ?_ hS ?_
        rotate_left
        · intro W hW; go_simp; (try with_reducible rfl)
        simp only [Act.put, List.setIfInBounds_toArray, List.set_cons_zero, List.set_cons_succ]
        refine tkYes 17 (v := ?_) rfl (by kernel_rfl) (fun _ _ _ h => h) rfl ?_ hS ?_
        rotate_left
        · intro W hW; go_simp; (try with_reducible rfl)
        simp only [Act.put, List.setIfInBounds_toArray, List.set_cons_zero, List.set_cons_succ]
        refine tkYes 18 (v := ?_) rfl (by kernel_rfl) (fun _ _ _ h => h) rfl ?_ hS ?_
        rotate_left
        · intro W hW; go_simp; (try with_reducible rfl)
        simp only [Act.put, List.setIfInBounds_toArray, List.set_cons_zero, List.set_cons_succ]
        refine tkYes 20 (v := ?_) rfl (by kernel_rfl) (fun _ _ _ h => h) rfl ?_ hS ?_
        rotate_left
        · intro W hW; obtain ⟨q1, q2, q3, q4⟩ := (NY.out.kept (grown_below none (show Below Y.heap.size Y W from hW)) (by simp)).facts; go_simp; (try with_reducible rfl)
        simp only [Act.put, List.setIfInBounds_toArray, List.set_cons_zero, List.set_cons_succ]
        refine rnOne 19 rfl (by kernel_rfl) rfl (fun K hK => ?_)
        go_simp
        (with_reducible refine (end_any _ r s2 (RY.out.below hS)).mono ?_)
        rintro e wE ⟨rfl, rfl⟩
        refine hK.out _ _ hS (fun _ => ?_)
        clear hK K
        try simp only [Act.put, List.setIfInBounds_toArray, List.set_cons_zero, List.set_cons_succ]
        refine rnOne 21 rfl (by kernel_rfl) rfl (fun K hK => ?_)
        go_simp
        (with_reducible refine (refEnd_any A3 c3 s2 _ OK3.out).mono ?_)
        rintro e wF ⟨rfl, hbF⟩
        have hS2 := hS.trans (hbF.mono hS.size)
        clear hbF hS
        have hS := hS2
        clear hS2
        refine hK.out _ _ hS (fun _ => ?_)
        clear hK K
        try simp only [Act.put, List.setIfInBounds_toArray, List.set_cons_zero, List.set_cons_succ]
        refine tkYes 22 (v := ?_) rfl (by kernel_rfl) (fun _ _ _ h => h) rfl ?_ hS ?_
        rotate_left
        · intro W hW; go_simp; (try with_reducible rfl)
        simp only [Act.put, List.setIfInBounds_toArray, List.set_cons_zero, List.set_cons_succ]
        refine tkYes 23 (v := ?_) rfl (by kernel_rfl) (fun _ _ _ h => h) rfl ?_ hS ?_
        rotate_left
        · intro W hW; go_simp; (try with_reducible rfl)
        simp only [Act.put, List.setIfInBounds_toArray, List.set_cons_zero, List.set_cons_succ]
        refine wpAnyH_done (by kernel_rfl) ?_ _
        have BZ := Lib.hid hS
        clear hS
        go_wp2_with fail
        go_roundw
        case rel => exact ⟨k + 1, s2, A3, c3, by go_num, by omega, by omega, RY.out.below BZ.out, NY.out.kept (grown_below none BZ.out) (by simp), S3.out, OK3.out, LN3.out, BY.out.trans (BZ.out.mono BY.out.size)⟩
        case measure => simp [intOf]; omega
      · go_simp
        have N0 : Hid (NextAt (wr.alloc (.cells #[.slice none 0 0, .int .i64 0] 36)).drew wr.heap.size none 0 0 0) := heap_alloc_new wr _
        have BRZ := ((Below.refl wr.heap.size wr).alloc (Nat.le_refl _) (.cells #[.slice none 0 0, .int .i64 0] 36)).drew
        have BWe := Lib.hid (BW.out.alloc BW.out.size (.cells #[.slice none 0 0, .int .i64 0] 36)).drew
        have RRe := Lib.hid (RR.out.below BRZ)
        have NXe := Lib.hid (NX.out.kept (grown_below none BRZ) (by simp))
        have HSY : Hid ((wr.alloc (.cells #[.slice none 0 0, .int .i64 0] 36)).drew.cell? ⟨g, 0, none⟩ = some (.slice A2 s.l.length c2) ∧ (wr.alloc (.cells #[.slice none 0 0, .int .i64 0] 36)).drew.cell? ⟨g, 1, none⟩ = some (.int .i64 s.e) ∧ (wr.alloc (.cells #[.slice none 0 0, .int .i64 0] 36)).drew.cell? ⟨b, o + k, none⟩ = some (.int .i64 x)) := ⟨NXe.out.facts.1, NXe.out.facts.2.1, (grown_below none BRZ).cell CK.out (by simp)⟩
        clear hS BRZ
        have hS := HSY.out
        refine hK.out _ _ hS (fun _ => ?_)
        clear hK K
        try simp only [Act.put, List.setIfInBounds_toArray, List.set_cons_zero, List.set_cons_succ]
        refine rnOne 6 rfl (by kernel_rfl) rfl (fun K hK => ?_)
        go_simp
        (with_reducible refine (RC.out _ BWe.out RRe.out).mono ?_)
        rintro e w9 ⟨s2, A3, c3, rfl, hr9, hs9, hok9, hln9, hg9⟩
        have R9 := Lib.hid hr9
        have S3 := Lib.hid hs9
        have OK3 := Lib.hid hok9
        have LN3 := Lib.hid hln9
        have G9 := Lib.hid hg9
        have B9 := Lib.hid (BWe.out.grown hg9 BWe.out.size (fun i hi => by injection hi with hi; have := HG.out; omega))
        have N9 := NXe.out.kept hg9 (fun e2 => by injection e2 with e2; have := RG.out; omega)
        have C9 : w9.cell? ⟨b, o + k, none⟩ = some (.int .i64 x) := hg9.cell hS.2.2 (fun e2 => by have e3 : b = r := Option.some.inj e2; have := HG.out; omega)
        have N09 := Lib.hid (N0.out.kept hg9 (fun e2 => by injection e2 with e2; have := RRd.out.lt; simp at this; omega))
        have NG9 := Lib.hid N9
        clear hr9 hs9 hok9 hln9 hg9 hS
        have hS : w9.cell? ⟨g, 0, none⟩ = some (.slice A2 s.l.length c2) ∧ w9.cell? ⟨g, 1, none⟩ = some (.int .i64 s.e) ∧ w9.cell? ⟨b, o + k, none⟩ = some (.int .i64 x) := ⟨N9.facts.1, N9.facts.2.1, C9⟩
        clear N9 C9
        refine hK.out _ _ hS (fun _ => ?_)
        clear hK K
        try simp only [Act.put, List.setIfInBounds_toArray, List.set_cons_zero, List.set_cons_succ]
        have HS9 := Lib.hid hS
        obtain ⟨z1, z2, z3, z4⟩ := N09.out.facts
        refine tkYes 7 (v := ?_) rfl (by kernel_rfl) (fun _ _ _ h => h) rfl ?_ hS ?_
        rotate_left
        · intro W hW; go_simp; (try with_reducible rfl)
        simp only [Act.put, List.setIfInBounds_toArray, List.set_cons_zero, List.set_cons_succ]
        refine tkYes 8 (v := ?_) rfl (by kernel_rfl) (fun _ _ _ h => h) rfl ?_ hS ?_
        rotate_left
        · intro W hW; go_simp; (try with_reducible rfl)
        simp only [Act.put, List.setIfInBounds_toArray, List.set_cons_zero, List.set_cons_succ]
        refine tkYes 9 (v := ?_) rfl (by kernel_rfl) (fun _ _ _ h => h) rfl ?_ hS ?_
        rotate_left
        · intro W hW; go_simp; (try with_reducible rfl)
        simp only [Act.put, List.setIfInBounds_toArray, List.set_cons_zero, List.set_cons_succ]
        refine rnOne 11 rfl (by kernel_rfl) rfl (fun K hK => ?_)
        go_simp
        have hne8 : Hid (g ≠ wr.heap.size ∧ b ≠ wr.heap.size) := ⟨by have := NX.out.lt; omega, by have := BW.out.size; omega⟩
        have hx8 := grown_trans (grown_set w9 wr.heap.size 0 (.slice A3 s2.l.length c3)) (grown_set _ wr.heap.size 1 (.int .i64 s2.e))
        have hS2 : ((w9.setCell ⟨wr.heap.size, 0, none⟩ (.slice A3 s2.l.length c3)).setCell ⟨wr.heap.size, 1, none⟩ (.int .i64 s2.e)).cell? ⟨g, 0, none⟩ = some (.slice A2 s.l.length c2) ∧ ((w9.setCell ⟨wr.heap.size, 0, none⟩ (.slice A3 s2.l.length c3)).setCell ⟨wr.heap.size, 1, none⟩ (.int .i64 s2.e)).cell? ⟨g, 1, none⟩ = some (.int .i64 s.e) ∧ ((w9.setCell ⟨wr.heap.size, 0, none⟩ (.slice A3 s2.l.length c3)).setCell ⟨wr.heap.size, 1, none⟩ (.int .i64 s2.e)).cell? ⟨b, o + k, none⟩ = some (.int .i64 x) := ⟨hx8.cell HS9.out.1 (fun e2 => by injection e2 with e2; exact hne8.out.1 e2), hx8.cell HS9.out.2.1 (fun e2 => by injection e2 with e2; exact hne8.out.1 e2), hx8.cell HS9.out.2.2 (fun e2 => by injection e2 with e2; exact hne8.out.2 e2)⟩
        have H8 := Lib.hid hx8
        clear hS hx8
        have hS := hS2
        clear hS2
        refine hK.out _ _ hS (fun _ => ?_)
        clear hK K
        try simp only [Act.put, List.setIfInBounds_toArray, List.set_cons_zero, List.set_cons_succ]
        refine tkYes 12 (v := ?_) rfl (by kernel_rfl) (fun _ _ _ h => h) rfl ?_ hS ?_
        rotate_left
        · intro W hW; go_simp; (try with_reducible rfl)
        simp only [Act.put, List.setIfInBounds_toArray, List.set_cons_zero, List.set_cons_succ]
        refine wpAnyH_done (by kernel_rfl) ?_ _
        clear hS HS9 z1 z2 z3 z4
        have N8 := Lib.hid (N09.out.set (n' := s2.l.length) (c' := c3) (A' := A3) (e' := s2.e))
        have G8 := Lib.hid (NG9.out.kept H8.out (fun e2 => by injection e2 with e2; exact hne8.out.1 e2))
        have R8 := Lib.hid (R9.out.kept H8.out (fun i hi => by injection hi with hi; have := RRd.out.lt; simp at this; omega))
        have B8 := Lib.hid (B9.out.grown H8.out B9.out.size (fun i hi => by injection hi with hi; have := BW.out.size; omega))
        generalize (w9.setCell ⟨wr.heap.size, 0, none⟩ (.slice A3 s2.l.length c3)).setCell ⟨wr.heap.size, 1, none⟩ (.int .i64 s2.e) = W8 at *
        obtain ⟨n8, hn8⟩ : ∃ n8, n8 = wr.heap.size := ⟨_, rfl⟩
        rw [← hn8] at N8 ⊢
        clear hn8
        obtain ⟨p1, p2, p3, p4⟩ := N8.out.facts
        obtain ⟨q1, q2, q3, q4⟩ := G8.out.facts
        have YN := Lib.hid (G8.out.set (n' := s2.l.length) (c' := c3) (A' := A3) (e' := s2.e))
        have YG := Lib.hid (grown_trans (grown_set W8 g 0 (.slice A3 s2.l.length c3)) (grown_set _ g 1 (.int .i64 s2.e)))
        go_wp2_with fail
        clear p1 p2 p3 p4 q1 q2 q3 q4
        have NY := Lib.hid YN.out
        have RY := Lib.hid (R8.out.kept YG.out (fun i hi => by injection hi with hi; have := RG.out; omega))
        have BY := Lib.hid (B8.out.grown YG.out B8.out.size (fun i hi => by injection hi with hi; have := GB.out; omega))
        clear YN YG N8 G8 R8 B8
        generalize (W8.setCell ⟨g, 0, none⟩ (.slice A3 s2.l.length c3)).setCell ⟨g, 1, none⟩ (.int .i64 s2.e) = Y at *
        refine wp_region_held_drew (S := fun W => Below Y.heap.size Y W) (by kernel_rfl) (Below.refl Y.heap.size Y).drew (fun hS => ?_)
        refine tkYes 0 (v := ?_) rfl (by kernel_rfl) (fun _ _ _ h => h) rfl ?_ hS ?_
        rotate_left
        · intro W hW; go_simp; (try with_reducible rfl)
        simp only [Act.put, List.setIfInBounds_toArray, List.set_cons_zero, List.set_cons_succ]
        refine tkYes 1 (v := ?_) rfl (by kernel_rfl) (fun _ _ _ h => h) rfl ?_ hS ?_
        rotate_left
        · intro W hW; go_simp; (try with_reducible rfl)
        simp only [Act.put, List.setIfInBounds_toArray, List.set_cons_zero, List.set_cons_succ]
        refine tkYes 2 (v := ?_) rfl (by kernel_rfl) (fun _ _ _ h => h) rfl ?_ hS ?_
        rotate_left
        · intro W hW; go_simp; (try with_reducible rfl)
        simp only [Act.put, List.setIfInBounds_toArray, List.set_cons_zero, List.set_cons_succ]
        refine tkYes 3 (v := ?_) rfl (by kernel_rfl) (fun _ _ _ h => h) rfl ?_ hS ?_
        rotate_left
        · intro W hW; go_simp; (try with_reducible rfl)
        simp only [Act.put, List.setIfInBounds_toArray, List.set_cons_zero, List.set_cons_succ]
        refine tkYes 5 (v := ?_) rfl (by kernel_rfl) (fun _ _ _ h => h) rfl ?_ hS ?_
        rotate_left
        · intro W hW; go_simp; (try with_reducible rfl)
        simp only [Act.put, List.setIfInBounds_toArray, List.set_cons_zero, List.set_cons_succ]
        refine tkYes 6 (v := ?_) rfl (by kernel_rfl) (fun _ _ _ h => h) rfl ?_ hS ?_
        rotate_left
        · intro W hW; obtain ⟨q1, q2, q3, q4⟩ := (NY.out.kept (grown_below none (show Below Y.heap.size Y W from hW)) (by simp)).facts; go_simp; (try with_reducible rfl)
        simp only [Act.put, List.setIfInBounds_toArray, List.set_cons_zero, List.set_cons_succ]
        refine rnOne 4 rfl (by kernel_rfl) rfl (fun K hK => ?_)
        go_simp
        (with_reducible refine (err_any _ r s2 (RY.out.below hS)).mono ?_)
        rintro e wE ⟨rfl, rfl⟩
        refine hK.out _ _ hS (fun _ => ?_)
        clear hK K
        try simp only [Act.put, List.setIfInBounds_toArray, List.set_cons_zero, List.set_cons_succ]
        refine tkYes 7 (v := ?_) rfl (by kernel_rfl) (fun _ _ _ h => h) rfl ?_ hS ?_
        rotate_left
        · intro W hW; go_simp; (try with_reducible rfl)
        simp only [Act.put, List.setIfInBounds_toArray, List.set_cons_zero, List.set_cons_succ]
        refine tkYes 8 (v := ?_) rfl (by kernel_rfl) (fun _ _ _ h => h) rfl ?_ hS ?_
        rotate_left
        · intro W hW; go_simp; (try with_reducible rfl)
        simp only [Act.put, List.setIfInBounds_toArray, List.set_cons_zero, List.set_cons_succ]
        refine tkYes 9 (v := ?_) rfl (by kernel_rfl) (fun _ _ _ h => h) rfl ?_ hS ?_
        rotate_left
        · intro W hW; go_simp; (try with_reducible rfl)
        simp only [Act.put, List.setIfInBounds_toArray, List.set_cons_zero, List.set_cons_succ]
        refine tkYes 10 (v := ?_) rfl (by kernel_rfl) (fun _ _ _ h => h) rfl ?_ hS ?_
        rotate_left
        · intro W hW; go_simp; (try with_reducible rfl)
        simp only [Act.put, List.setIfInBounds_toArray, List.set_cons_zero, List.set_cons_succ]
        refine tkYes 12 (v := ?_) rfl (by kernel_rfl) (fun _ _ _ h => h) rfl ?_ hS ?_
        rotate_left
        · intro W hW; go_simp; (try with_reducible rfl)
        simp only [Act.put, List.setIfInBounds_toArray, List.set_cons_zero, List.set_cons_succ]
        refine tkYes 13 (v := ?_) rfl (by kernel_rfl) (fun _ _ _ h => h) rfl ?_ hS ?_
        rotate_left
        · intro W hW; obtain ⟨q1, q2, q3, q4⟩ := (NY.out.kept (grown_below none (show Below Y.heap.size Y W from hW)) (by simp)).facts; go_simp; (try with_reducible rfl)
        simp only [Act.put, List.setIfInBounds_toArray, List.set_cons_zero, List.set_cons_succ]
        refine tkYes 14 (v := ?_) rfl (by kernel_rfl) (fun _ _ _ h => h) rfl ?_ hS ?_
        rotate_left
        · intro W hW; go_simp; (try with_reducible rfl)
        simp only [Act.put, List.setIfInBounds_toArray, List.set_cons_zero, List.set_cons_succ]
        refine rnOne 11 rfl (by kernel_rfl) rfl (fun K hK => ?_)
        go_simp
        (with_reducible refine (left_any _ r s2 (RY.out.below hS)).mono ?_)
        rintro e wE ⟨rfl, rfl⟩
        refine hK.out _ _ hS (fun _ => ?_)
        clear hK K
        try simp only [Act.put, List.setIfInBounds_toArray, List.set_cons_zero, List.set_cons_succ]
        refine tkYes 15 (v := ?_) rfl (by kernel_rfl) (fun _ _ _ h => h) rfl ?_ hS ?_
        rotate_left
        · intro W hW; go_simp; (try with_reducible rfl)
        simp only [Act.put, List.setIfInBounds_toArray, List.set_cons_zero, List.set_cons_succ]
        refine tkYes 16 (v := ?_) rfl (by kernel_rfl) (fun _ _ _ h => h) rfl ?_ hS ?_
        rotate_left
        · intro W hW; go_simp; (try with_reducible rfl)
        simp only [Act.put, List.setIfInBounds_toArray, List.set_cons_zero, List.set_cons_succ]
        refine tkYes 17 (v := ?_) rfl (by kernel_rfl) (fun _ _ _ h => h) rfl ?_ hS ?_
        rotate_left
        · intro W hW; go_simp; (try with_reducible rfl)
        simp only [Act.put, List.setIfInBounds_toArray, List.set_cons_zero, List.set_cons_succ]
        refine tkYes 18 (v := ?_) rfl (by kernel_rfl) (fun _ _ _ h => h) rfl ?_ hS ?_
        rotate_left
        · intro W hW; go_simp; (try with_reducible rfl)
        simp only [Act.put, List.setIfInBounds_toArray, List.set_cons_zero, List.set_cons_succ]
        refine tkYes 20 (v := ?_) rfl (by kernel_rfl) (fun _ _ _ h => h) rfl ?_ hS ?_
        rotate_left
        · intro W hW; obtain ⟨q1, q2, q3, q4⟩ := (NY.out.kept (grown_below none (show Below Y.heap.size Y W from hW)) (by simp)).facts; go_simp; (try with_reducible rfl)
        simp only [Act.put, List.setIfInBounds_toArray, List.set_cons_zero, List.set_cons_succ]
        refine rnOne 19 rfl (by kernel_rfl) rfl (fun K hK => ?_)
        go_simp
        (with_reducible refine (end_any _ r s2 (RY.out.below hS)).mono ?_)
        rintro e wE ⟨rfl, rfl⟩
        refine hK.out _ _ hS (fun _ => ?_)
        clear hK K
        try simp only [Act.put, List.setIfInBounds_toArray, List.set_cons_zero, List.set_cons_succ]
        refine rnOne 21 rfl (by kernel_rfl) rfl (fun K hK => ?_)
        go_simp
        (with_reducible refine (refEnd_any A3 c3 s2 _ OK3.out).mono ?_)
        rintro e wF ⟨rfl, hbF⟩
        have hS2 := hS.trans (hbF.mono hS.size)
        clear hbF hS
        have hS := hS2
        clear hS2
        refine hK.out _ _ hS (fun _ => ?_)
        clear hK K
        try simp only [Act.put, List.setIfInBounds_toArray, List.set_cons_zero, List.set_cons_succ]
        refine tkYes 22 (v := ?_) rfl (by kernel_rfl) (fun _ _ _ h => h) rfl ?_ hS ?_
        rotate_left
        · intro W hW; go_simp; (try with_reducible rfl)
        simp only [Act.put, List.setIfInBounds_toArray, List.set_cons_zero, List.set_cons_succ]
        refine tkYes 23 (v := ?_) rfl (by kernel_rfl) (fun _ _ _ h => h) rfl ?_ hS ?_
        rotate_left
        · intro W hW; go_simp; (try with_reducible rfl)
        simp only [Act.put, List.setIfInBounds_toArray, List.set_cons_zero, List.set_cons_succ]
        refine wpAnyH_done (by kernel_rfl) ?_ _
        have BZ := Lib.hid hS
        clear hS
        go_wp2_with fail
        go_roundw
        case rel => exact ⟨k + 1, s2, A3, c3, by go_num, by omega, by omega, RY.out.below BZ.out, NY.out.kept (grown_below none BZ.out) (by simp), S3.out, OK3.out, LN3.out, BY.out.trans (BZ.out.mono BY.out.size)⟩
        case measure => simp [intOf]; omega
    · have hcase : (k < k0 ∧ ¬ k < 30) ∨ ¬ k < k0 := by omega
      clear hin
      rcases hcase with ⟨hk1, hk2⟩ | hk1
      all_goals
        go_wp2_with fail
        go_ret
        exact ⟨rfl, BW.out⟩
end Go.Proofs.Ytogmepijpklciaa
