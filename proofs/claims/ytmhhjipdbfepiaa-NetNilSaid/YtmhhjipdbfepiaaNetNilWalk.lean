/-
  The walk of NetNil. No condition.
-/
import Derived.Test.YtmhhjipdbfepiaaNtLives
import Derived.Test.YtmhhjipdbfepiaaNtArg
namespace Go.Proofs.Ytmhhjipdbfepiaa
open Go.RowKit Go.Deep
set_option maxRecDepth 100000
set_option linter.unusedSimpArgs false
set_option linter.unusedVariables false

theorem nall_nil (w : World) : Calls Try.prog 24 #[.pointer none] w (fun e w' => ∃ A c, e = .returned (.slice A 0 c) ∧ Below w.heap.size w w') :=
  (nall_any w none [] 0 0 (NAsk.nil w) (Nat.zero_le _)).mono fun _ _ ⟨A, c, h1, _, h3⟩ => ⟨A, c, h1, h3⟩
theorem nof_nil (w : World) (u : Int) : Calls Try.prog 28 #[.pointer none, .int .i64 u] w (fun e w' => ∃ A c, e = .returned (.slice A 0 c) ∧ Below w.heap.size w w') :=
  (nof_any w none [] 0 0 u (NAsk.nil w) (Nat.zero_le _)).mono fun _ _ ⟨A, c, h1, _, h3⟩ => ⟨A, c, h1, h3⟩
set_option maxHeartbeats 1600000 in
theorem netnil_walk (m : Nt.M) (at_ : Int) (w : World) : Calls Try.prog 7 #[Nt.val m, .int .i64 at_] w (NPos w (.bool true)) := by
  have B0 := Lib.hid ((Below.refl w.heap.size w).alloc (Nat.le_refl _) (.cells (Nt.cs m) 32))
  have X0 := Lib.hid (NtAt.new w m)
  have CL := Lib.hid (ntlives_any (w.alloc (.cells (Nt.cs m) 32)))
  go_enter Try.func7, Try.ntmps7
  go_upto_region 3 with (go_at_call 9; (with_reducible refine CL.out.mono ?_); rintro e w1 ⟨rfl, hb⟩; have B1 := Lib.hid (B0.out.trans (hb.mono B0.out.size)); have X1 := Lib.hid (X0.out.on hb); clear hb)
  obtain ⟨g, hg⟩ : ∃ g, g = w.heap.size := ⟨_, rfl⟩
  rw [← hg] at X1 ⊢
  clear hg CL X0 B0
  go_upto_region 5 with (go_at_call 18; (with_reducible refine (ntake_nil _ none at_ 0 0 (NAsk.nil _)).mono ?_); rintro e w2 ⟨rfl, hb⟩; have hb2 := hb.trans (((Below.refl w2.heap.size w2).alloc (Nat.le_refl _) (.cells (Nt.cs Nt.zero) 32)).mono hb.size); have B2 := Lib.hid (B1.out.trans (hb2.mono B1.out.size)); have X2 := Lib.hid (X1.out.on hb2); clear hb hb2)
  clear X1 B1
  generalize w2.alloc (.cells (Nt.cs Nt.zero) 32) = w3 at *
  go_wp2_with (first
    | ((with_reducible show wpList _ _ _ ({ dst := some 17, op := .load _ _, type := _, pos := _, after := _, guard := _ } :: _) _ _); refine wpList_load_msg rfl (.tmp 2) rfl g 0 rfl m X2.out.range ?_)
    | (go_at_call 16; (with_reducible refine (nsend_nil _ m).mono ?_); rintro e w4 ⟨rfl, hb⟩; have B4 := Lib.hid (B2.out.trans (hb.mono B2.out.size)); clear hb)
    | (go_at_call 20; (with_reducible refine (ndrop_nil _ none at_ 0 0 (NAsk.nil _)).mono ?_); rintro e w5 ⟨rfl, hb⟩; have B5 := Lib.hid (B4.out.trans (hb.mono B4.out.size)); clear hb)
    | (go_at_call 22; (with_reducible refine (ntwice_nil _ at_).mono ?_); rintro e wz ⟨rfl, hw⟩; rw [hw]; clear hw wz)
    | (go_at_call 24; (with_reducible refine (nall_nil _).mono ?_); rintro e w6 ⟨A6, c6, rfl, hb⟩; have B6 := Lib.hid (B5.out.trans (hb.mono B5.out.size)); clear hb)
    | (go_at_call 25; (with_reducible refine (nlen_any _ none [] 0 0 (NAsk.nil _)).mono ?_); rintro e wz ⟨rfl, hw⟩; rw [hw]; clear hw wz)
    | (go_at_call 26; (with_reducible refine (nsent_any _ none [] 0 0 (NAsk.nil _)).mono ?_); rintro e wz ⟨rfl, hw⟩; rw [hw]; clear hw wz)
    | (go_at_call 27; (with_reducible refine (nlost_any _ none [] 0 0 (NAsk.nil _)).mono ?_); rintro e wz ⟨rfl, hw⟩; rw [hw]; clear hw wz)
    | (go_at_call 28; (with_reducible refine (nof_nil _ at_).mono ?_); rintro e w7 ⟨A7, c7, rfl, hb⟩; have B7 := Lib.hid (B6.out.trans (hb.mono B6.out.size)); clear hb))
  go_ret
  exact ⟨rfl, B7.out⟩
end Go.Proofs.Ytmhhjipdbfepiaa
