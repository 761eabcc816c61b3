/-
  A reader of package codec: List; and the calls of a reader that isn't there: what they answer, from any world.
-/
import Derived.Test.YtifokcpkamdkeaaCdcRead
import Derived.Test.YtifokcpkamdkeaaCdcLists
namespace Go.Proofs.Ytifokcpkamdkeaa
open Go.RowKit Cdc

def ListPost (w : World) (r : Nat) (s : St) (e : Ending) (w' : World) : Prop :=
  ∃ A c, e = .returned (.slice A (listV s).length c) ∧ SlI w' A (listV s).length c (nI (listV s)) ∧ Rdr w' r (list s) ∧ w.grownBy w' (some r)
theorem own_block_ne {w : World} {B r : Nat} {v : Value} {l : List Int} (h : OwnI w B v l) (hr : r < B) : v.ownBlock = none ∨ v.ownBlock ≠ some r := by
  rcases hv : v.ownBlock with _ | g
  · exact .inl rfl
  · right
    have := (World.ownsRow.lt h g hv).1
    intro e
    injection e with e
    omega

set_option maxRecDepth 100000 in
set_option maxHeartbeats 800000 in
theorem rlist_any (w : World) (r : Nat) (s : St) (h : Rdr w r s) (hl : s.l.length ≤ 1000000) :
    Calls Try.prog 18 #[.pointer (some ⟨r, 0, none⟩)] w (ListPost w r s) := by
  obtain ⟨i0, hi0, hz0, hz1, hz2⟩ := info_parts info_int
  have I0 := Lib.hid hi0; clear hi0
  have I1 := Lib.hid hz0; clear hz0
  have I2 := Lib.hid hz1; clear hz1
  have I3 := Lib.hid hz2; clear hz2
  have HN := Lib.hid (count_any w r s h hl)
  have HT : Hid (list s = numsAt (cnt s) (cntV s) ∧ listV s = if (numsAt (cnt s) (cntV s)).e = 0 then numsV (cnt s) (cntV s) else []) := ⟨rfl, rfl⟩
  have hn := cntV_le s
  have HL := Lib.hid (Nat.le_trans (cnt_len s) hl)
  have HR0 := Lib.hid h.lt
  clear h hl
  generalize cntV s = n at *
  generalize cnt s = t at *
  go_enter Try.func18, Try.ntmps18
  go_wp2_with fail
  refine HN.out.mono ?_
  rintro e w1 ⟨rfl, hr, hg⟩
  have R := Lib.hid hr; clear hr
  have G := Lib.hid hg; clear hg
  go_wp2_with (at_make; refine wpList_make_own _ rfl _ _ 49 rfl w1.heap.size 3 i0 (.int .i64 0) 1 Try.underlying49 I0.out I1.out I2.out _ _ _ n rfl rfl (by omega) (by rw [I3.out]; omega) (by unfold maxLen; omega) (Nat.le_refl _) ?_; intro w2 hown2 hg2; have O2 := Lib.hid hown2; have G2 := Lib.hid hg2; clear hown2 hg2)
  go_loopw [4, 10] (fun v i wr => ∃ k : Nat, k ≤ n ∧ i = .int .i64 k ∧ OwnI wr w1.heap.size v (nI (numsV t k)) ∧ Rdr wr r (numsAt t k) ∧ w.grownBy wr (some r) ∧ w1.heap.size ≤ wr.heap.size) (fun _ i _ => n - (intOf i).toNat)
  case atStart => exact ⟨0, by omega, rfl, O2.out, R.out.kept G2.out (by simp), grown_other G.out G2.out (by simp), G2.out.size⟩
  case round =>
    obtain ⟨k, hk, rfl, ho, hr, hg, hsz⟩ := hrel
    clear O2
    have O := Lib.hid ho; clear ho
    have RR := Lib.hid hr; clear hr
    have GG := Lib.hid hg; clear hg
    have HZ := Lib.hid hsz; clear hsz
    by_cases hlt : k < n
    · have HV := Lib.hid (numb_any wr r (numsAt t k) RR.out (Nat.le_trans (nums_len t k) HL.out))
      have HX : Hid (nI (numsV t (k + 1)) = nI (numsV t k) ++ [((numV (numsAt t k) : Nat) : Int)]) := nI_snoc _ _
      have HY : Hid (numsAt t (k + 1) = num (numsAt t k)) := rfl
      have HLN : Hid ((nI (numsV t k)).length = k) := by show _ = _; rw [nI_length, numsV_length]
      generalize numV (numsAt t k) = x at *
      go_wp2_with fail
      refine HV.out.mono ?_
      rintro e w3 ⟨rfl, hr, hg⟩
      have R3 := Lib.hid hr; clear hr
      have G3 := Lib.hid hg; clear hg
      have O3 : Hid (OwnI w3 w1.heap.size _ (nI (numsV t k))) := World.ownsRow.kept O.out G3.out (own_block_ne O.out (Nat.lt_of_lt_of_le HR0.out G.out.size))
      go_wp2_with (at_builtin; refine wpList_append_num rfl (.tmp 12) (.tmp 15) rfl w1.heap.size _ _ rfl O3.out _ rfl (by rw [HLN.out]; omega) (Nat.le_trans HZ.out G3.out.size) ?_; intro v4 w4 ho4 hg4; have O4 := Lib.hid ho4; have G4 := Lib.hid hg4; clear ho4 hg4)
      go_roundw
      case rel =>
        refine ⟨k + 1, by omega, by go_num, by rw [HX.out]; exact O4.out, ?_, ?_, ?_⟩
        · rw [HY.out]
          exact R3.out.kept G4.out fun i hi => Nat.lt_of_lt_of_le (Nat.lt_of_lt_of_le HR0.out G.out.size) (own_base O3.out i hi)
        · exact grown_other (grown_trans GG.out G3.out) G4.out fun i hi => Nat.le_trans G.out.size (own_base O3.out i hi)
        · exact Nat.le_trans HZ.out (Nat.le_trans G3.out.size G4.out.size)
      case measure => simp [intOf]; omega
    · obtain rfl : k = n := by omega
      have HE := Lib.hid (err_any wr r _ RR.out)
      by_cases he : (numsAt t k).e = 0
      · have HT2 : Hid (listV s = numsV t k) := by show _ = _; rw [HT.out.2, if_pos he]
        have HQ := Lib.hid he; clear he
        obtain ⟨A2, c2, hv, h2⟩ := OwnI.sl O.out
        subst hv
        have H2 := Lib.hid h2; clear h2
        go_wp2_with fail
        refine HE.out.mono ?_
        rintro e w5 ⟨rfl, rfl⟩
        rw [HQ.out]
        go_wp2_with fail
        go_ret
        unfold ListPost
        rw [HT.out.1, HT2.out, ← nI_length]
        exact ⟨A2, c2, rfl, H2.out, RR.out, GG.out⟩
      · have HT2 : Hid (listV s = []) := by show _ = _; rw [HT.out.2, if_neg he]
        have hne : ((numsAt t k).e != 0) = true := by rw [bne_iff_ne]; exact he
        clear he
        go_wp2_with fail
        refine HE.out.mono ?_
        rintro e w5 ⟨rfl, rfl⟩
        go_wp2_with fail
        go_ret
        unfold ListPost
        rw [HT.out.1, HT2.out]
        exact ⟨none, 0, rfl, SlI.none_ _, RR.out, GG.out⟩

/-! A reader that isn't there. -/
theorem err_nil (w : World) : Calls Try.prog 35 #[.pointer none] w fun e w' => e = .returned (.int .i64 1) ∧ w = w' := by
  go_enter Try.func35, Try.ntmps35
  go_wp2_with fail
  go_ret
  exact ⟨rfl, rfl⟩
theorem left_nil (w : World) : Calls Try.prog 41 #[.pointer none] w fun e w' => e = .returned (.int .i64 0) ∧ w = w' := by
  go_enter Try.func41, Try.ntmps41
  go_wp2_with fail
  go_ret
  exact ⟨rfl, rfl⟩
theorem end_nil (w : World) : Calls Try.prog 19 #[.pointer none] w fun e w' => e = .returned (.int .i64 1) ∧ w = w' := by
  go_enter Try.func19, Try.ntmps19
  go_wp2_with (first
    | (go_at_call 41; refine (left_nil _).mono ?_; rintro e w1 ⟨rfl, rfl⟩)
    | (go_at_call 35; refine (err_nil _).mono ?_; rintro e w1 ⟨rfl, rfl⟩))
  go_ret
  exact ⟨rfl, rfl⟩
theorem numb_nil (w : World) : Calls Try.prog 15 #[.pointer none] w fun e w' => e = .returned (.int .i64 0) ∧ w = w' := by
  go_enter Try.func15, Try.ntmps15
  go_wp2_with (go_at_call 35; refine (err_nil _).mono ?_; rintro e w1 ⟨rfl, rfl⟩)
  go_ret
  exact ⟨rfl, rfl⟩
theorem count_nil (w : World) : Calls Try.prog 39 #[.pointer none, .int .i64 64] w fun e w' => e = .returned (.int .i64 0) ∧ w = w' := by
  go_enter Try.func39, Try.ntmps39
  go_wp2_with (go_at_call 15; refine (numb_nil _).mono ?_; rintro e w1 ⟨rfl, rfl⟩)
  go_ret
  exact ⟨rfl, rfl⟩
theorem take_nil (w : World) : Calls Try.prog 38 #[.pointer none, .int .i64 0] w fun e w' => e = .returned (.slice none 0 0) ∧ w = w' := by
  go_enter Try.func38, Try.ntmps38
  go_wp2_with (go_at_call 35; refine (err_nil _).mono ?_; rintro e w1 ⟨rfl, rfl⟩)
  go_ret
  exact ⟨rfl, rfl⟩
theorem text_nil (w : World) : Calls Try.prog 16 #[.pointer none] w fun e w' => e = .returned (.string (txt [])) ∧ w = w' := by
  have hcv := fun W : World => conv_rd (c := 0) (Rd.empty W 0 none) rfl
  simp only [List.length_nil] at hcv
  go_enter Try.func16, Try.ntmps16
  go_wp2_with (first
    | (go_at_call 39; refine (count_nil _).mono ?_; rintro e w1 ⟨rfl, rfl⟩)
    | (go_at_call 38; refine (take_nil _).mono ?_; rintro e w1 ⟨rfl, rfl⟩))
  go_ret
  exact ⟨rfl, rfl⟩
theorem list_nil (w : World) : Calls Try.prog 18 #[.pointer none] w fun e w' => e = .returned (.slice none 0 0) ∧ Below w.heap.size w w' := by
  obtain ⟨i0, hi0, hz0, hz1, hz2⟩ := info_parts info_int
  have I0 := Lib.hid hi0; clear hi0
  have I1 := Lib.hid hz0; clear hz0
  have I2 := Lib.hid hz1; clear hz1
  have I3 := Lib.hid hz2; clear hz2
  go_enter Try.func18, Try.ntmps18
  go_wp2_with (first
    | (go_at_call 39; refine (count_nil _).mono ?_; rintro e w1 ⟨rfl, rfl⟩)
    | (at_make; refine wpList_make_own _ rfl _ _ 49 rfl w.heap.size 3 i0 (.int .i64 0) 1 Try.underlying49 I0.out I1.out I2.out _ _ _ 0 rfl rfl rfl (by rw [I3.out]; omega) (by unfold maxLen; omega) (Nat.le_refl _) ?_; intro w2 hown2 hg2; have G2 := Lib.hid hg2; clear hown2 hg2))
  refine wp_loop_rounds 1 ?_
  rw [rounds_succ]
  go_wp2_with (go_at_call 35; refine (err_nil _).mono ?_; rintro e w1 ⟨rfl, rfl⟩)
  go_ret
  exact ⟨rfl, (Below.refl _ _).grown G2.out (Nat.le_refl _) (by simp)⟩
end Go.Proofs.Ytifokcpkamdkeaa
