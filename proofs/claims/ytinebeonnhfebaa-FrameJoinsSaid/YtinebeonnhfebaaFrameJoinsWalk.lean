/-
  The walk of the statement FrameJoins.
-/
import Derived.Test.YtinebeonnhfebaaFrLives
namespace Go.Proofs.Ytinebeonnhfebaa
open Go.RowKit Fr

set_option maxRecDepth 100000 in
set_option maxHeartbeats 1600000 in
theorem joins_walk (n c m d : Nat) (A D : Option Addr) (xs ys : List (List Nat)) (w : World) (h : SlS w A n c xs) (h' : SlS w D m d ys) :
    Calls Try.prog 8 #[.slice A n c, .slice D m d] w fun e w' => e = .returned (.bool true) ∧ Below w.heap.size w w' := by
  have HX := Lib.hid h; clear h
  have HY := Lib.hid h'; clear h'
  go_enter Try.func8, Try.ntmps8
  go_wp2_with fail
  (with_reducible refine (lives_at _ (Below.refl _ _)).mono ?_)
  rintro e w1 ⟨rfl, hb1⟩
  have B1 := Lib.hid hb1; clear hb1
  have C2 : Hid (Calls Try.prog 20 #[.slice A n c, .int .i64 6] w1 (FMPost 6 w1)) := frMake_any n c 6 A xs w1 (HX.out.on B1.out) (by omega)
  go_wp2_with fail
  (with_reducible refine C2.out.mono ?_)
  rintro e w2 ⟨A2, c2, a, rfl, ho2, hok2, hl2, hb2⟩
  obtain ⟨_, _, e2, hs2⟩ := ho2.sls
  injection e2 with e21 _ e23
  subst e21 e23
  have B2 := Lib.hid (B1.out.trans (hb2.mono B1.out.size)); clear hb2 B1 ho2 C2
  have S2 := Lib.hid hs2; clear hs2
  have K2 := Lib.hid hok2; clear hok2
  have L2 := Lib.hid hl2; clear hl2
  have C3 : Hid (Calls Try.prog 20 #[.slice D m d, .int .i64 6] w2 (FMPost 6 w2)) := frMake_any m d 6 D ys w2 (HY.out.on B2.out) (by omega)
  go_wp2_with fail
  (with_reducible refine C3.out.mono ?_)
  rintro e w3 ⟨A3, c3, b, rfl, ho3, hok3, hl3, hb3⟩
  obtain ⟨_, _, e3, hs3⟩ := ho3.sls
  injection e3 with e31 _ e33
  subst e31 e33
  have T3 := Lib.hid (S2.out.on hb3)
  have B3 := Lib.hid (B2.out.trans (hb3.mono B2.out.size)); clear hb3 B2 ho3 C3 S2 HX HY
  have S3 := Lib.hid hs3; clear hs3
  have K3 := Lib.hid hok3; clear hok3
  have L3 := Lib.hid hl3; clear hl3
  have O0 := Lib.hid (OwnS.none_ w3 w3.heap.size)
  have P1 : Hid (([] : List (List Nat)).length + a.length ≤ 4000000000) := by show _ ≤ _; have := L2.out; simp; omega
  have P2 : Hid (([] ++ a).length + b.length ≤ 4000000000) := by show _ ≤ _; have := L2.out; have := L3.out; simp; omega
  have F1 := Lib.hid (T3.out.far (v := .slice none 0 0) (Below.refl _ _) (by simp [Value.ownBlock]))
  have R3 := Lib.hid (Below.refl w3.heap.size w3)
  go_wp2_with (at_builtin; first
    | (refine wpList_append_rows rfl (.tmp 18) (.tmp 19) rfl w3.heap.size _ [] rfl O0.out a.length c2 A2 a rfl T3.out F1.out P1.out (Nat.le_refl _) ?_; intro v4 w4 ho4 hb4; have O4 := Lib.hid ho4; have R4 := Lib.hid hb4; clear ho4 hb4; have F2 := Lib.hid (S3.out.far (v := v4) R4.out (fun k hk => (O4.out.base k hk).1)))
    | (refine wpList_append_rows rfl (.tmp 21) (.tmp 22) rfl w3.heap.size _ ([] ++ a) rfl O4.out b.length c3 A3 b rfl (S3.out.on R4.out) F2.out P2.out R4.out.size ?_; intro v5 w5 ho5 hb5; have O5 := Lib.hid ho5; have R5 := Lib.hid (R4.out.trans hb5); clear ho5 hb5))
  rw [List.nil_append] at O5
  have B5 := Lib.hid (B3.out.trans (R5.out.mono B3.out.size))
  have T5 := Lib.hid (T3.out.on R5.out)
  have S5 := Lib.hid (S3.out.on R5.out)
  clear O0 P1 P2 F1 F2 R3 R4 R5 O4 T3 S3 B3
  have HA := all_small (fun p hp => (K2.out p hp).2)
  have HB := all_small (fun p hp => (K3.out p hp).2)
  have C6 := Lib.hid (frAll_any a.length c2 A2 a w5 T5.out (fun p hp => (K2.out p hp).1) (by have := L2.out; omega))
  have HSC : Hid (scan (all a ++ all b) = (a ++ b, (all a ++ all b).length, 0)) := by
    show _ = _
    rw [← all_append]
    exact scan_whole (fun p hp => by rcases List.mem_append.1 hp with hp | hp; exact (K2.out p hp).1; exact (K3.out p hp).1)
  have U1 : Hid ((all a).length ≤ 216 ∧ (all b).length ≤ 216) := ⟨by have := L2.out; omega, by have := L3.out; omega⟩
  clear HA HB
  (with_reducible refine C6.out.mono ?_)
  rintro e w6 ⟨A6, c6, rfl, ho6, hb6⟩
  have S6 := Lib.hid ho6.sls; clear ho6 C6
  have O6 := Lib.hid (O5.out.below hb6); clear O5
  have T6 := Lib.hid (S5.out.on hb6); clear S5
  have B6 := Lib.hid (B5.out.trans (hb6.mono B5.out.size)); clear hb6 B5
  have C8 := Lib.hid (fun (W : World) (hs : SlS W A3 b.length c3 b) => frAll_any b.length c3 A3 b W hs (fun p hp => (K3.out p hp).1) (by have := U1.out.2; omega))
  obtain ⟨qa, hqa⟩ : ∃ q, q = all a := ⟨_, rfl⟩
  rw [← hqa] at S6 HSC U1 ⊢
  obtain ⟨qb, hqb⟩ : ∃ q, q = all b := ⟨_, rfl⟩
  rw [← hqb] at HSC U1 C8
  clear hqa hqb
  have Z0 := Lib.hid (OwnB.none_ w6 w6.heap.size)
  have P1 : Hid (([] : List Nat).length + qa.length ≤ 140737488355328) := by show _ ≤ _; have := U1.out.1; simp; omega
  have P2 : Hid (([] ++ qa).length + qb.length ≤ 140737488355328) := by show _ ≤ _; have := U1.out; simp; omega
  obtain ⟨A5, c5, rfl, hso⟩ := O6.out.sls
  have SO := Lib.hid hso; clear hso O6
  obtain ⟨R, hR⟩ : ∃ R, R = a ++ b := ⟨_, rfl⟩
  rw [← hR] at SO HSC ⊢
  have RL : Hid (R.length ≤ 12) := by show _ ≤ _; rw [hR, List.length_append]; have := L2.out; have := L3.out; omega
  clear hR
  go_wp2_with (at_builtin; refine wpList_append_own_rd rfl (.tmp 24) (.tmp 26) rfl w6.heap.size _ [] rfl Z0.out qa.length c6 A6 qa rfl S6.out P1.out (Nat.le_refl _) ?_; intro v7 w7 ho7 hb7; have O7 := Lib.hid ho7; have R7 := Lib.hid hb7; clear ho7 hb7)
  (with_reducible refine (C8.out _ (T6.out.on R7.out)).mono ?_)
  rintro e w8 ⟨A8, c8, rfl, ho8, hb8⟩
  have S8 := Lib.hid ho8.sls; clear ho8
  have O8 := Lib.hid (O7.out.below hb8)
  have R8 := Lib.hid (R7.out.trans (hb8.mono R7.out.size)); clear hb8 O7 R7
  go_wp2_with (at_builtin; refine wpList_append_own_rd rfl (.tmp 28) (.tmp 30) rfl w6.heap.size _ ([] ++ qa) rfl O8.out qb.length c8 A8 qb rfl S8.out P2.out R8.out.size ?_; intro v9 w9 ho9 hb9; have O9 := Lib.hid ho9; have R9 := Lib.hid (R8.out.trans hb9); clear ho9 hb9)
  rw [List.nil_append] at O9
  have B9 := Lib.hid (B6.out.trans (R9.out.mono B6.out.size))
  obtain ⟨q, hq⟩ : ∃ q, q = qa ++ qb := ⟨_, rfl⟩
  rw [← hq] at O9 HSC
  have QL : Hid (q.length ≤ 432) := by show _ ≤ _; rw [hq, List.length_append]; have := U1.out; omega
  obtain ⟨A9, c9, rfl, hs9⟩ := O9.out.sl
  have S9 := Lib.hid hs9; clear hs9 hq O9 O8 S8 R8
  have X9 := Lib.hid (SO.out.on R9.out); clear SO R9
  have C10 := Lib.hid (fscan_any q.length c9 A9 q w9 S9.out (by have := QL.out; omega))
  go_wp2_with fail
  (with_reducible refine C10.out.mono ?_)
  rintro e w10 ⟨A10, c10, rfl, ho10, hb10⟩
  rw [HSC.out] at ho10 ⊢
  have X10 := Lib.hid (X9.out.on hb10); clear X9
  have B10 := Lib.hid (B9.out.trans (hb10.mono B9.out.size)); clear hb10 B9
  obtain ⟨_, _, e10, hs10⟩ := ho10.sls
  injection e10 with e101 _ e103
  subst e101 e103
  have C11 := Lib.hid (frSame_any R.length c10 c5 A10 A5 R w10 hs10 X10.out (by have := RL.out; omega))
  clear hs10 ho10 C10 S9 X10
  simp only
  generalize R.length = z at *
  generalize q.length = y at *
  go_wp2_with fail
  (with_reducible refine C11.out.mono ?_)
  rintro e w11 ⟨rfl, dd, rfl⟩
  have B11 := Lib.hid (below_drewN B10.out dd)
  go_wp2_with fail
  go_ret
  exact ⟨rfl, B11.out⟩
end Go.Proofs.Ytinebeonnhfebaa
