/-
  Package journal: a journal that isn't there, and one on a disk that isn't there.
-/
import Derived.Test.YtdamnamhbjfnlaaJrnl3
namespace Go.Proofs.Ytdamnamhbjfnlaa
open Go.RowKit Fr

theorem fput_long (n c m d : Nat) (A D : Option Addr) (b : List Nat) (w : World) (hb : Sl w A n c b) (hn : n ≤ 900000000) (hm : 1000 < m) :
    Calls Try.prog 50 #[.slice A n c, .slice D m d] w (BEPost b 12 w) := by
  have HB := Lib.hid hb
  have e0 : ((m : Int) == 0) = false := by rw [beq_eq_false_iff_ne]; omega
  clear hb
  go_enter Try.func50, Try.ntmps50
  go_wp2_with fail
  (with_reducible refine (clone_any n c A b _ HB.out (by omega)).mono ?_)
  rintro e w1 ⟨A1, c1, rfl, ho, hb1⟩
  have O := Lib.hid ho
  have B := Lib.hid hb1
  clear ho hb1
  go_wp2_with fail
  go_ret2
  exact BEPost.mk O.out rfl B.out
theorem jfit_none (w : World) (A : Option Addr) (n c : Nat) : Calls Try.prog 41 #[.pointer none, .slice A n c] w fun e w' => e = .returned (.tuple #[.slice none 0 0, .int .i64 1]) ∧ w' = w := by
  go_enter Try.func41, Try.ntmps41
  go_wp2_with fail
  refine (jdisk_none w).mono ?_
  rintro e w1 ⟨rfl, rfl⟩
  go_wp2_with fail
  go_ret2
  exact ⟨rfl, rfl⟩
theorem jAppend_none (w : World) (A : Option Addr) (n c : Nat) : Calls Try.prog 16 #[.pointer none, .slice A n c] w fun e w' => e = .returned (.int .i64 1) ∧ w' = w := by
  go_enter Try.func16, Try.ntmps16
  go_wp2_with fail
  refine (jfit_none w A n c).mono ?_
  rintro e w1 ⟨rfl, rfl⟩
  go_wp2_with fail
  go_ret
  exact ⟨rfl, rfl⟩
theorem jTorn_none (w : World) (A : Option Addr) (n c : Nat) (k : Int) : Calls Try.prog 24 #[.pointer none, .slice A n c, .int .i64 k] w fun e w' => e = .returned (.int .i64 1) ∧ w' = w := by
  go_enter Try.func24, Try.ntmps24
  go_wp2_with fail
  refine (jfit_none w A n c).mono ?_
  rintro e w1 ⟨rfl, rfl⟩
  go_wp2_with fail
  go_ret
  exact ⟨rfl, rfl⟩
theorem jSwap_none (w : World) (A : Option Addr) (n c : Nat) : Calls Try.prog 26 #[.pointer none, .slice A n c] w fun e w' => e = .returned (.int .i64 1) ∧ w' = w := by
  go_enter Try.func26, Try.ntmps26
  go_wp2_with fail
  refine (jdisk_none w).mono ?_
  rintro e w1 ⟨rfl, rfl⟩
  go_wp2_with fail
  go_ret
  exact ⟨rfl, rfl⟩
theorem jSync_none (w : World) : Calls Try.prog 20 #[.pointer none] w (APost w (.int .i64 0)) := by
  go_enter Try.func20, Try.ntmps20
  go_wp2_with fail
  refine (jdisk_none w).mono ?_
  rintro e w1 ⟨rfl, rfl⟩
  go_wp2_with fail
  refine (nAll_any w1).mono ?_
  rintro e w2 ⟨rfl, rfl⟩
  go_wp2_with fail
  refine (nSafe_any w1).mono ?_
  rintro e w2 ⟨rfl, rfl⟩
  have C := Lib.hid (jcount_any 0 0 none [] w1 (Sl.none_ _) (by omega))
  rw [Fr.scan_nil] at C
  go_wp2_with fail
  refine C.out.mono ?_
  rintro e w2 ⟨rfl, hb2⟩
  have B2 := Lib.hid hb2
  clear hb2
  go_wp2_with fail
  refine (nSync_any w2).mono ?_
  rintro e w3 ⟨rfl, rfl⟩
  go_wp2_with fail
  go_ret
  exact ⟨rfl, B2.out⟩
theorem jleave_none (w : World) : Calls Try.prog 38 #[.pointer none] w (APost w (.int .i64 0)) := by
  go_enter Try.func38, Try.ntmps38
  go_wp2_with fail
  refine (nAll_any w).mono ?_
  rintro e w1 ⟨rfl, rfl⟩
  have C := Lib.hid (fscan_any 0 0 none [] w (Sl.none_ _) (by omega))
  unfold FSPost at C
  rw [Fr.scan_nil] at C
  go_wp2_with fail
  refine C.out.mono ?_
  rintro e w2 ⟨A2, c2, rfl, _, hb2⟩
  have B2 := Lib.hid hb2
  clear hb2 C
  go_wp2_with fail
  refine (nCut_any w2 0).mono ?_
  rintro e w3 ⟨rfl, rfl⟩
  go_wp2_with fail
  go_ret
  exact ⟨rfl, B2.out⟩
theorem jLen_none (w : World) : Calls Try.prog 29 #[.pointer none] w (APost w (.int .i64 0)) := by
  have h := jlen_ask (JAsk.none_ w)
  rw [Fr.scan_nil] at h
  exact h
theorem jSafe_none (w : World) : Calls Try.prog 30 #[.pointer none] w (APost w (.int .i64 0)) := by
  have h := jsafe_ask (JAsk.none_ w)
  rw [List.take_nil, Fr.scan_nil] at h
  exact h
theorem jAll_none (w : World) : Calls Try.prog 28 #[.pointer none] w fun e w' => ∃ A c, e = .returned (.slice A 0 c) ∧ Below w.heap.size w w' := by
  have h := jall_ask (JAsk.none_ w)
  rw [Fr.scan_nil] at h
  exact h.mono fun e w' ⟨A, c, he, _, hb⟩ => ⟨A, c, he, hb⟩
theorem jCrash_none (w : World) (k : Int) : Calls Try.prog 22 #[.pointer none, .int .i64 k] w (APost w (.int .i64 0)) := by
  go_enter Try.func22, Try.ntmps22
  go_wp2_with fail
  refine (jLen_none w).mono ?_
  rintro e w1 ⟨rfl, hb1⟩
  have B1 := Lib.hid hb1
  clear hb1
  go_wp2_with fail
  refine (jdisk_none w1).mono ?_
  rintro e w2 ⟨rfl, rfl⟩
  go_wp2_with fail
  refine (nCrash_any w2 k).mono ?_
  rintro e w3 ⟨rfl, rfl⟩
  go_wp2_with fail
  refine (jleave_none w2).mono ?_
  rintro e w3 ⟨rfl, hb3⟩
  have B3 := Lib.hid (B1.out.trans (hb3.mono B1.out.size))
  clear hb3
  go_wp2_with fail
  refine (jLen_none w3).mono ?_
  rintro e w4 ⟨rfl, hb4⟩
  have B4 := Lib.hid (B3.out.trans (hb4.mono B3.out.size))
  clear hb4
  go_wp2_with fail
  go_ret
  exact ⟨rfl, B4.out⟩
/-- A journal on a disk without room. -/
theorem jOpen_none (w : World) : Calls Try.prog 10 #[.pointer none] w fun e w' => ∃ q r z, e = .returned (.tuple #[.pointer (some ⟨q, 0, none⟩), .int .i64 z]) ∧ Jrn w' (fun i => w.heap.size ≤ i) q r (Dk.new 0) ∧ Below w.heap.size w w' := by
  have HY : Hid (Jn.Byt (Dk.new 0)) := fun x hx => by cases hx
  have HO : Hid (Jn.opened (Dk.new 0) = Dk.new 0) := Jn.opened_new 0
  go_enter Try.func10, Try.ntmps10
  go_wp2_with fail
  (with_reducible refine (dNew_at w 0 (Below.refl _ _)).mono ?_)
  rintro e w1 ⟨r, rfl, _, hd1, hb1, _⟩
  have BB := Lib.hid hb1
  have D0 := Lib.hid (hd1.toX (X := fun i => w.heap.size ≤ i) fun i hi _ => hi)
  clear hd1 hb1
  go_wp2_with fail
  have hb := (Below.refl w1.heap.size w1).alloc (Nat.le_refl _) (.cells #[.pointer (some ⟨r, 0, none⟩)] 64)
  have hbk := heap_alloc_new w1 (.cells #[.pointer (some ⟨r, 0, none⟩)] 64)
  have hsz : (w1.alloc (.cells #[.pointer (some ⟨r, 0, none⟩)] 64)).heap.size = w1.heap.size + 1 := by simp
  have D1 := Lib.hid ((D0.out.lt.below hb).more (Y := fun i => w.heap.size ≤ i ∧ i ≠ w1.heap.size) fun i hi _ => ⟨hi.1, by have := hi.2; omega⟩)
  have B1 := Lib.hid (BB.out.trans (hb.mono BB.out.size))
  have K1 := Lib.hid hbk
  have Z1 := Lib.hid hsz
  clear hb hbk hsz
  generalize w1.alloc (.cells #[.pointer (some ⟨r, 0, none⟩)] 64) = w2 at *
  (with_reducible refine (jleave_x w2 D1.out (fun i hi => ⟨by have := Z1.out; have := BB.out.size; omega, by have := Z1.out; omega⟩) HY.out).mono ?_)
  rw [HO.out]
  rintro e w3 ⟨rfl, hd3, hk3⟩
  have D3 := Lib.hid hd3
  have KK := Lib.hid hk3
  clear hd3 hk3
  obtain ⟨z, hz⟩ : ∃ z : Int, z = (((Dk.new 0).l.length : Nat) : Int) - (Jn.cutN (Dk.new 0) : Nat) := ⟨_, rfl⟩
  rw [← hz]
  clear hz
  go_wp2_with fail
  go_ret2
  refine ⟨w1.heap.size, r, z, rfl, ⟨(KK.out.block w1.heap.size (by have := Z1.out; omega) (fun hf => hf.2 rfl)).trans K1.out, BB.out.size, D3.out, by rw [← HO.out]; exact Jn.Whole.opened HY.out⟩, ?_⟩
  exact B1.out.trans (KK.out.below B1.out.size fun i hi => hi.1)
/-- Of a payload that is too long. -/
theorem jAppend_long {W : World} {X : Nat → Prop} {q r : Nat} {d : Dk.St} (h : Jrn W X q r d) {n c : Nat} {A : Option Addr} (hn : 1000 < n) :
    Calls Try.prog 16 #[.pointer (some ⟨q, 0, none⟩), .slice A n c] W (APost W (.int .i64 12)) := by
  have F : Hid (Calls Try.prog 41 #[.pointer (some ⟨q, 0, none⟩), .slice A n c] W (APost W (.tuple #[.slice none 0 0, .int .i64 12]))) := by
    show Calls _ _ _ _ _
    have H := Lib.hid h
    clear h
    go_enter Try.func41, Try.ntmps41
    go_wp2_with fail
    refine (jdisk_any W q _ H.out.blk).mono ?_
    rintro e w1 ⟨rfl, rfl⟩
    go_wp2_with fail
    (with_reducible refine (fput_long 0 0 n c none A [] w1 (Sl.none_ _) (by omega) hn).mono ?_)
    rintro e w2 ⟨A2, c2, rfl, _, hb2⟩
    have B2 := Lib.hid hb2
    clear hb2
    go_wp2_with fail
    go_ret2
    exact ⟨rfl, B2.out⟩
  clear h
  go_enter Try.func16, Try.ntmps16
  go_wp2_with fail
  refine F.out.mono ?_
  rintro e w1 ⟨rfl, hb1⟩
  have B1 := Lib.hid hb1
  clear hb1
  go_wp2_with fail
  go_ret
  exact ⟨rfl, B1.out⟩
end Go.Proofs.Ytdamnamhbjfnlaa
