/-
  Package lease: a table that isn't there; the lists of contracts. No condition.
-/
import Derived.Test.YtemnioijgkahcaaLd7
import Derived.Test.YtemnioijgkahcaaLd8
import Derived.Test.YtemnioijgkahcaaLsNil0
namespace Go.Proofs.Ytemnioijgkahcaa
open Go.RowKit Go.Deep Go.Maps

theorem lsindex_none (W : World) (v : Value) : Calls Try.prog 34 #[.slice none 0 0, v] W (fun e w' => e = .returned (.int .i64 (-1)) ∧ Below W.heap.size W w') := by
  go_enter Try.func34, Try.ntmps34
  go_wp2_with fail
  go_loopw [8] (fun i wr => i = .int .i64 0 ∧ wr = W) (fun _ _ => 0)
  case atStart => exact ⟨rfl, rfl⟩
  case round =>
    obtain ⟨rfl, rfl⟩ := hrel
    go_wp2_with fail
    go_ret
    exact ⟨rfl, Below.refl _ _⟩
theorem lsdelete_none (W : World) (v : Value) : Calls Try.prog 30 #[.slice none 0 0, v] W (fun e w' => e = .returned (.slice none 0 0) ∧ Below W.heap.size W w') := by
  have C := Lib.hid (lsindex_none W v)
  go_enter Try.func30, Try.ntmps30
  go_wp2_with (go_at_call 34; (with_reducible refine C.out.mono ?_); rintro e w1 ⟨rfl, hb⟩; have B1 := Lib.hid hb; clear hb)
  go_ret
  exact ⟨rfl, B1.out⟩
theorem lsnames_nil (W : World) : Calls Try.prog 19 #[.pointer none] W (fun e w' => e = .returned (.slice none 0 0) ∧ Below W.heap.size W w') := by
  go_enter Try.func19, Try.ntmps19
  go_wp2_with fail
  go_ret
  exact ⟨rfl, Below.refl _ _⟩
theorem ln_any : LN where
  take := fun W k h now ttl => by
    go_enter Try.func12, Try.ntmps12
    go_wp2_with fail
    exact bodyPost_ret (v := .tuple #[.int .i64 0, .int .i64 1]) (by simp [results, Try.results12, go_sem]) rfl ⟨rfl, Below.refl _ _⟩
  renew := fun W k h ep now ttl => by
    go_enter Try.func13, Try.ntmps13
    go_wp2_with fail
    exact bodyPost_ret (v := .tuple #[.int .i64 0, .int .i64 1]) (by simp [results, Try.results13, go_sem]) rfl ⟨rfl, Below.refl _ _⟩
  drop := fun W k h ep => by
    go_enter Try.func14, Try.ntmps14
    go_wp2_with fail
    go_ret
    exact ⟨rfl, Below.refl _ _⟩
  get := lsget_nil
  holds := fun W k h ep now => lsholds_by W _ k 0 0 0 false (lsget_nil W k) h ep now (z := false) (by simp)
  free := fun W k now => by
    have B0 := Lib.hid (Below.refl W.heap.size W).drew
    go_enter Try.func17, Try.ntmps17
    go_upto_region 1 with fail
    refine wp_region_held_drew (S := fun _ => True) (by kernel_rfl) trivial (fun hS => ?_)
    refine tkYes 0 (v := ?_) rfl (by kernel_rfl) (fun _ _ _ h => h) rfl ?_ hS ?_
    rotate_left
    · intro W hW; go_simp; (try with_reducible rfl)
    simp only [Act.put, List.setIfInBounds_toArray, List.set_cons_zero, List.set_cons_succ]
    refine tkYes 1 (v := ?_) rfl (by kernel_rfl) (fun _ _ _ h => h) rfl ?_ hS ?_
    rotate_left
    · intro W hW; go_simp; (try with_reducible rfl)
    simp only [Act.put, List.setIfInBounds_toArray, List.set_cons_zero, List.set_cons_succ]
    refine tkYes 2 (v := ?_) rfl (by kernel_rfl) (fun _ _ _ h => h) rfl ?_ hS ?_
    rotate_left
    · intro W hW; go_simp; (try with_reducible rfl)
    simp only [Act.put, List.setIfInBounds_toArray, List.set_cons_zero, List.set_cons_succ]
    refine tkNo 3 rfl (by kernel_rfl) (fun _ _ _ h => h) rfl hS ?_
    simp only [Act.put, List.setIfInBounds_toArray, List.set_cons_zero, List.set_cons_succ]
    refine tkNo 4 rfl (by kernel_rfl) (fun _ _ _ h => h) rfl hS ?_
    simp only [Act.put, List.setIfInBounds_toArray, List.set_cons_zero, List.set_cons_succ]
    refine tkNo 5 rfl (by kernel_rfl) (fun _ _ _ h => h) rfl hS ?_
    simp only [Act.put, List.setIfInBounds_toArray, List.set_cons_zero, List.set_cons_succ]
    refine tkNo 6 rfl (by kernel_rfl) (fun _ _ _ h => h) rfl hS ?_
    simp only [Act.put, List.setIfInBounds_toArray, List.set_cons_zero, List.set_cons_succ]
    refine tkNo 7 rfl (by kernel_rfl) (fun _ _ _ h => h) rfl hS ?_
    simp only [Act.put, List.setIfInBounds_toArray, List.set_cons_zero, List.set_cons_succ]
    refine tkNo 8 rfl (by kernel_rfl) (fun _ _ _ h => h) rfl hS ?_
    simp only [Act.put, List.setIfInBounds_toArray, List.set_cons_zero, List.set_cons_succ]
    refine tkNo 9 rfl (by kernel_rfl) (fun _ _ _ h => h) rfl hS ?_
    simp only [Act.put, List.setIfInBounds_toArray, List.set_cons_zero, List.set_cons_succ]
    refine tkNo 10 rfl (by kernel_rfl) (fun _ _ _ h => h) rfl hS ?_
    simp only [Act.put, List.setIfInBounds_toArray, List.set_cons_zero, List.set_cons_succ]
    refine tkNo 11 rfl (by kernel_rfl) (fun _ _ _ h => h) rfl hS ?_
    simp only [Act.put, List.setIfInBounds_toArray, List.set_cons_zero, List.set_cons_succ]
    refine tkNo 12 rfl (by kernel_rfl) (fun _ _ _ h => h) rfl hS ?_
    simp only [Act.put, List.setIfInBounds_toArray, List.set_cons_zero, List.set_cons_succ]
    refine tkNo 13 rfl (by kernel_rfl) (fun _ _ _ h => h) rfl hS ?_
    simp only [Act.put, List.setIfInBounds_toArray, List.set_cons_zero, List.set_cons_succ]
    refine tkNo 14 rfl (by kernel_rfl) (fun _ _ _ h => h) rfl hS ?_
    simp only [Act.put, List.setIfInBounds_toArray, List.set_cons_zero, List.set_cons_succ]
    refine tkYes 15 (v := ?_) rfl (by kernel_rfl) (fun _ _ _ h => h) rfl ?_ hS ?_
    rotate_left
    · intro W hW; go_simp; (try with_reducible rfl)
    simp only [Act.put, List.setIfInBounds_toArray, List.set_cons_zero, List.set_cons_succ]
    refine tkYes 16 (v := ?_) rfl (by kernel_rfl) (fun _ _ _ h => h) rfl ?_ hS ?_
    rotate_left
    · intro W hW; go_simp; (try with_reducible rfl)
    simp only [Act.put, List.setIfInBounds_toArray, List.set_cons_zero, List.set_cons_succ]
    refine wpAnyH_done (by kernel_rfl) ?_ _
    go_wp2_with fail
    go_ret
    exact ⟨rfl, B0.out⟩
  due := fun W now => by
    have B1 := Lib.hid ((Below.refl W.heap.size W).alloc (Nat.le_refl _) (.cells #[.pointer none] 24))
    have B2 := Lib.hid (B1.out.alloc B1.out.size (.cells #[.int .i64 now] 3))
    go_enter Try.func18, Try.ntmps18
    go_wp2_with (first
      | (go_at_call 19; (with_reducible refine (lsnames_nil _).mono ?_); rintro e w1 ⟨rfl, hb⟩; have B3 := Lib.hid (B2.out.trans (hb.mono B2.out.size)); clear hb)
      | (go_at_call 30; (with_reducible refine (lsdelete_none _ _).mono ?_); rintro e w2 ⟨rfl, hb⟩; have B4 := Lib.hid (B3.out.trans (hb.mono B3.out.size)); clear hb))
    go_ret
    exact ⟨_, _, rfl, B4.out⟩
  names := fun W => (lsnames_nil W).mono fun e w' ⟨h1, h2⟩ => ⟨_, _, h1, h2⟩
theorem lc_any : LC LsP where
  keep := fun _ _ _ q _ ⟨mo, h, h1, h2, h3⟩ hs hk => ⟨mo, h.keep (hk q h1) (fun m e => hk m (h2 m e)), h1, h2, fun i hi => Nat.lt_of_lt_of_le (h3 i hi) hs⟩
  lt := fun _ _ _ _ ⟨_, _, _, _, h3⟩ => h3
  good := fun _ _ _ _ ⟨_, h, _⟩ => h.good
  make := fun W m _ => lsnew_any W m
  take := fun W X q s k h now ttl ⟨mo, hl, h1, h2, h3⟩ hf hk _ _ _ => lstake_any W X q mo s ⟨h1, h2, h3⟩ hl hf k hk h now ttl
  renew := fun W X q s k h ep now ttl ⟨mo, hl, h1, h2, h3⟩ hk _ _ _ _ => lsrenew_any W X q mo s ⟨h1, h2, h3⟩ hl k hk h ep now ttl
  drop := fun W X q s k h ep ⟨mo, hl, h1, h2, h3⟩ hk _ _ => lsdrop_any W X q mo s ⟨h1, h2, h3⟩ hl k hk h ep
  get := fun W _ q s k ⟨mo, hl, _⟩ hk => lsget_some W q mo s hl k hk
  holds := fun W _ q s k h ep now ⟨mo, hl, _⟩ hk _ _ _ => by
    classical
    exact lbool_of (decide (Ls.Holds s k h ep now)) decide_eq_true_iff (lsholds_some W q mo s hl k hk h ep now decide_eq_true_iff)
  free := fun W _ q s k now ⟨mo, hl, _⟩ hk _ => by
    classical
    exact lbool_of (decide (Ls.Free s k now)) decide_eq_true_iff (lsfree_some W q mo s hl k hk now decide_eq_true_iff)
end Go.Proofs.Ytemnioijgkahcaa
