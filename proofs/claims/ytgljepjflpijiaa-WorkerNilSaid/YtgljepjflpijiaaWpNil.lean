/-
  Package worker: the calls of a worker that is not there; WorkerNil. No condition.
-/
import Derived.Test.YtgljepjflpijiaaWpCh
import Derived.Test.YtgljepjflpijiaaWkLives
namespace Go.Proofs.Ytgljepjflpijiaa
open Go.RowKit Go.Deep Go.Maps Go.WideMaps
set_option linter.unusedSimpArgs false
set_option linter.unusedVariables false
set_option maxRecDepth 100000

theorem nslot (W : World) (u : Int) : Calls Try.prog 16 #[.pointer none, .int .i64 u] W (WkAns (.tuple #[suV Wk.z4, .bool false]) W) := by
  obtain ⟨W1, hW⟩ : ∃ W1, W1 = W.alloc (.cells #[.int .i64 0, .int .i64 0, .int .i64 0, .int .i64 0] 46) := ⟨_, rfl⟩
  have b1 := (Below.refl W.heap.size W).alloc (Nat.le_refl _) (.cells #[.int .i64 0, .int .i64 0, .int .i64 0, .int .i64 0] 46)
  have r1 := SuAt.new 46 W Su.zero
  unfold suC Su.zero at r1
  simp only at r1
  rw [← hW] at b1 r1
  obtain ⟨g, hg⟩ : ∃ g, g = W.heap.size := ⟨_, rfl⟩
  rw [← hg] at r1
  have HG := Lib.hid hg
  have HW := Lib.hid hW
  have B1 := Lib.hid b1
  have R1 := Lib.hid r1
  have GB : Hid (W.heap.size ≤ g) := by show _ ≤ _; omega
  clear hW b1 r1 hg
  go_enter Try.func16, Try.ntmps16
  go_upto_region 1 with fail
  rw [← HW.out, ← HG.out]
  obtain ⟨f0, f1, f2, f3⟩ := R1.out.fz
  obtain ⟨e0, e1, e2, e3, el⟩ := R1.out.cells
  go_wp2_with fail
  exact su_retA Try.results16 Try.underlying46 (by kernel_rfl) ((((R1.out.set0 0).set1 0).set2 0).set3 0) ((((B1.out.setCell (p := ⟨g, 0, none⟩) GB.out _).setCell (p := ⟨g, 1, none⟩) GB.out _).setCell (p := ⟨g, 2, none⟩) GB.out _).setCell (p := ⟨g, 3, none⟩) GB.out _) rfl rfl rfl
theorem nchange (W : World) (u : Int) (v : Value) : Calls Try.prog 38 #[.pointer none, .int .i64 u, v] W (WkAns (.bool false) W) := by
  have CS := Lib.hid (nslot W u)
  unfold Wk.z4 suV suC at CS
  go_enter Try.func38, Try.ntmps38
  go_wp2_with (go_at_call 16; (with_reducible refine CS.out.mono ?_); rintro e w1 ⟨rfl, hb⟩; have B1 := Lib.hid (hb.alloc hb.size (.cells #[.int .i64 0, .int .i64 0, .int .i64 0, .int .i64 0] 46)); clear hb)
  go_ret
  exact ⟨rfl, B1.out⟩
theorem ngo (W : World) (u : Int) : Calls Try.prog 21 #[.pointer none, .int .i64 u] W (WkAns (.bool false) W) := by
  have CC := Lib.hid (nchange W u (.func (.func 41) #[] #[]))
  go_enter Try.func21, Try.ntmps21
  go_wp2_with (go_at_call 38; (with_reducible refine CC.out.mono ?_); rintro e w1 ⟨rfl, hb⟩; have B1 := Lib.hid hb; clear hb)
  go_ret
  exact ⟨rfl, B1.out⟩
theorem nhurt (W : World) (u : Int) : Calls Try.prog 23 #[.pointer none, .int .i64 u] W (WkAns (.bool false) W) := by
  have CC := Lib.hid (nchange W u (.func (.func 42) #[] #[]))
  go_enter Try.func23, Try.ntmps23
  go_wp2_with (go_at_call 38; (with_reducible refine CC.out.mono ?_); rintro e w1 ⟨rfl, hb⟩; have B1 := Lib.hid hb; clear hb)
  go_ret
  exact ⟨rfl, B1.out⟩
theorem nheal (W : World) (u : Int) : Calls Try.prog 24 #[.pointer none, .int .i64 u] W (WkAns (.bool false) W) := by
  have CC := Lib.hid (nchange W u (.func (.func 43) #[] #[]))
  go_enter Try.func24, Try.ntmps24
  go_wp2_with (go_at_call 38; (with_reducible refine CC.out.mono ?_); rintro e w1 ⟨rfl, hb⟩; have B1 := Lib.hid hb; clear hb)
  go_ret
  exact ⟨rfl, B1.out⟩
theorem nseen (W : World) : Calls Try.prog 15 #[.pointer none] W (WkAns (.int .i64 0) W) := by
  have B := Lib.hid (Below.refl W.heap.size W)
  go_enter Try.func15, Try.ntmps15
  go_wp2_with fail
  go_ret
  exact ⟨rfl, B.out⟩
theorem ncount (W : World) (u : Int) : Calls Try.prog 19 #[.pointer none, .int .i64 u] W (WkAns (.int .i64 0) W) := by
  have B := Lib.hid (Below.refl W.heap.size W)
  go_enter Try.func19, Try.ntmps19
  go_wp2_with fail
  go_ret
  exact ⟨rfl, B.out⟩
theorem nunits (W : World) : Calls Try.prog 18 #[.pointer none] W (WkAns (.slice none 0 0) W) := by
  have B := Lib.hid (Below.refl W.heap.size W)
  go_enter Try.func18, Try.ntmps18
  go_wp2_with fail
  go_ret
  exact ⟨rfl, B.out⟩
theorem nfall (W : World) : Calls Try.prog 20 #[.pointer none] W (WkAns (.int .i64 0) W) := by
  have CU := Lib.hid (nunits W)
  go_enter Try.func20, Try.ntmps20
  go_wp2_with (go_at_call 18; (with_reducible refine CU.out.mono ?_); rintro e w1 ⟨rfl, hb⟩; have B1 := Lib.hid hb; clear hb)
  go_loopw [3, 9] (fun v i wr => v = .int .i64 0 ∧ i = .int .i64 0 ∧ wr = w1) (fun _ _ _ => 0)
  case atStart => exact ⟨rfl, rfl, rfl⟩
  case round =>
    obtain ⟨rfl, rfl, rfl⟩ := hrel
    go_wp2_with fail
    go_ret
    exact ⟨rfl, B1.out⟩
set_option maxHeartbeats 1600000 in
theorem napply (W : World) (x : Nt.M) : Calls Try.prog 17 #[.pointer none, Nt.val x] W (WkAns (.int .i64 1) W) := by
  have B1 := Lib.hid ((Below.refl W.heap.size W).alloc (Nat.le_refl _) (.cells (Nt.cs x) 38))
  go_enter Try.func17, Try.ntmps17
  go_wp2_with fail
  go_ret
  exact ⟨rfl, B1.out⟩
set_option maxHeartbeats 1600000 in
theorem nreport (W : World) (u : Int) : Calls Try.prog 22 #[.pointer none, .int .i64 u] W (WkAns (.tuple #[Nt.val Nt.zero, .bool false]) W) := by
  have CS := Lib.hid (fun W2 => nslot W2 u)
  obtain ⟨W1, hW⟩ : ∃ W1, W1 = W.alloc (.cells #[.int .i64 0, .int .i64 0, .int .i64 0, .int .i64 0, .int .i64 0, .int .i64 0] 38) := ⟨_, rfl⟩
  have b1 := (Below.refl W.heap.size W).alloc (Nat.le_refl _) (.cells #[.int .i64 0, .int .i64 0, .int .i64 0, .int .i64 0, .int .i64 0, .int .i64 0] 38)
  have n1 := NtAt.new W Nt.zero
  unfold Nt.cs Nt.zero at n1
  simp only at n1
  rw [← hW] at b1 n1
  obtain ⟨g, hg⟩ : ∃ g, g = W.heap.size := ⟨_, rfl⟩
  rw [← hg] at n1
  have HG := Lib.hid hg
  have HW := Lib.hid hW
  have B1 := Lib.hid b1
  have N1 := Lib.hid n1
  have GB : Hid (W.heap.size ≤ g) := by show _ ≤ _; omega
  clear hW b1 n1 hg
  unfold Wk.z4 suV suC at CS
  go_enter Try.func22, Try.ntmps22
  go_upto_region 1 with fail
  rw [← HW.out, ← HG.out]
  go_upto_region 3 with (go_at_call 16; (with_reducible refine (CS.out _).mono ?_); rintro e w2 ⟨rfl, hb⟩; have N2 := Lib.hid (N1.out.on hb); have B2 := Lib.hid (B1.out.trans (hb.mono B1.out.size)); clear hb)
  have N3 := Lib.hid (N2.out.on ((Below.refl w2.heap.size w2).alloc (Nat.le_refl _) (.cells #[.int .i64 0, .int .i64 0, .int .i64 0, .int .i64 0] 46)))
  have B3 := Lib.hid (B2.out.alloc B2.out.size (.cells #[.int .i64 0, .int .i64 0, .int .i64 0, .int .i64 0] 46))
  generalize w2.alloc (.cells #[.int .i64 0, .int .i64 0, .int .i64 0, .int .i64 0] 46) = W3 at *
  obtain ⟨y0, y1, y2, y3, y4, y5, yl⟩ := N3.out.cs
  have fz : ∀ i, W3.frozen? ⟨g, i, none⟩ = false := fun i => frozen_of_row _ _ _ _ _ N3.out.row
  go_wp2_with fail
  have E := nt_put N3.out B3.out GB.out Nt.zero
  exact bodyPost_ret (v := .tuple #[Nt.val Nt.zero, .bool false]) (msg_results2 Try.results22 _ _ rfl E.1) rfl ⟨rfl, E.2⟩
set_option maxHeartbeats 3200000 in
theorem wknil_walk {L : WkP} (hC : WC L) (x : Nt.M) (u : Int) (W : World) : Calls Try.prog 8 #[Nt.val x, .int .i64 u] W (WkAns (.bool true) W) := by
  have CL := Lib.hid (fun W => wklives_any hC W)
  have CR := Lib.hid (fun W => nreport W u)
  have CS := Lib.hid (fun W => nslot W u)
  have CA := Lib.hid (fun W => napply W x)
  unfold Nt.zero Nt.val Nt.cs at CR
  unfold Wk.z4 suV suC at CS
  simp only at CR CS
  obtain ⟨W1, hW⟩ : ∃ W1, W1 = W.alloc (.cells #[.int .i64 x.k, .int .i64 x.e, .int .i64 x.s, .int .i64 x.u, .int .i64 x.v, .int .i64 x.t] 38) := ⟨_, rfl⟩
  have B := Lib.hid ((Below.refl W.heap.size W).alloc (Nat.le_refl _) (.cells (Nt.cs x) 38))
  have N := Lib.hid (NtAt.new W x)
  obtain ⟨g, hg⟩ : ∃ g, g = W.heap.size := ⟨_, rfl⟩
  unfold Nt.cs at B N
  rw [← hW] at B N
  rw [← hg] at N
  have HW := Lib.hid hW
  have HG := Lib.hid hg
  clear hW hg hC
  go_enter Try.func8, Try.ntmps8
  go_upto_region 1 with fail
  rw [← HW.out, ← HG.out]
  go_upto_region 5 with (first
    | (go_at_call 9; (with_reducible refine (CL.out _).mono ?_); rintro e w2 ⟨rfl, hb⟩; replace N := Lib.hid (N.out.on hb); replace B := Lib.hid (B.out.trans (hb.mono B.out.size)); clear hb)
    | (go_at_call 22; (with_reducible refine (CR.out _).mono ?_); rintro e w3 ⟨rfl, hb⟩; replace N := Lib.hid (N.out.on hb); replace B := Lib.hid (B.out.trans (hb.mono B.out.size)); clear hb))
  have hb := (Below.refl w3.heap.size w3).alloc (Nat.le_refl _) (.cells #[.int .i64 0, .int .i64 0, .int .i64 0, .int .i64 0, .int .i64 0, .int .i64 0] 38)
  replace N := Lib.hid (N.out.on hb)
  replace B := Lib.hid (B.out.trans (hb.mono B.out.size))
  clear hb
  generalize w3.alloc (.cells #[.int .i64 0, .int .i64 0, .int .i64 0, .int .i64 0, .int .i64 0, .int .i64 0] 38) = w4 at *
  go_upto_region 6 with (go_at_call 16; (with_reducible refine (CS.out _).mono ?_); rintro e w5 ⟨rfl, hb⟩; replace N := Lib.hid (N.out.on hb); replace B := Lib.hid (B.out.trans (hb.mono B.out.size)); clear hb)
  have hb := (Below.refl w5.heap.size w5).alloc (Nat.le_refl _) (.cells #[.int .i64 0, .int .i64 0, .int .i64 0, .int .i64 0] 46)
  replace N := Lib.hid (N.out.on hb)
  replace B := Lib.hid (B.out.trans (hb.mono B.out.size))
  clear hb
  generalize w5.alloc (.cells #[.int .i64 0, .int .i64 0, .int .i64 0, .int .i64 0] 46) = w6 at *
  obtain ⟨y0, y1, y2, y3, y4, y5, yl⟩ := N.out.cs
  go_wp2_with (first
    | (go_at_call 17; (with_reducible refine (CA.out _).mono ?_); rintro e w7 ⟨rfl, hb⟩; replace B := Lib.hid (B.out.trans (hb.mono B.out.size)); clear hb)
    | (go_at_call 21; (with_reducible refine (ngo _ u).mono ?_); rintro e w7 ⟨rfl, hb⟩; replace B := Lib.hid (B.out.trans (hb.mono B.out.size)); clear hb)
    | (go_at_call 23; (with_reducible refine (nhurt _ u).mono ?_); rintro e w7 ⟨rfl, hb⟩; replace B := Lib.hid (B.out.trans (hb.mono B.out.size)); clear hb)
    | (go_at_call 24; (with_reducible refine (nheal _ u).mono ?_); rintro e w7 ⟨rfl, hb⟩; replace B := Lib.hid (B.out.trans (hb.mono B.out.size)); clear hb)
    | (go_at_call 20; (with_reducible refine (nfall _).mono ?_); rintro e w7 ⟨rfl, hb⟩; replace B := Lib.hid (B.out.trans (hb.mono B.out.size)); clear hb)
    | (go_at_call 18; (with_reducible refine (nunits _).mono ?_); rintro e w7 ⟨rfl, hb⟩; replace B := Lib.hid (B.out.trans (hb.mono B.out.size)); clear hb)
    | (go_at_call 15; (with_reducible refine (nseen _).mono ?_); rintro e w7 ⟨rfl, hb⟩; replace B := Lib.hid (B.out.trans (hb.mono B.out.size)); clear hb)
    | (go_at_call 19; (with_reducible refine (ncount _ 0).mono ?_); rintro e w7 ⟨rfl, hb⟩; replace B := Lib.hid (B.out.trans (hb.mono B.out.size)); clear hb))
  go_ret
  exact ⟨rfl, B.out⟩
end Go.Proofs.Ytgljepjflpijiaa
