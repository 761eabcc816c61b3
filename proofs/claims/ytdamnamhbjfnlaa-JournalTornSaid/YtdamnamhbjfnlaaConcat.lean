/-
  slices.Grow of nil and slices.Concat, at bytes: what they answer, from any world.
-/
import Derived.Test.YtdamnamhbjfnlaaRows2
import Derived.Lib.AppendZerosOnto
import Derived.WalkSpells
namespace Go.Proofs.Ytdamnamhbjfnlaa
open Go.RowKit

/-- What Grow answers of nil. -/
def GrowPost (w : World) (e : Ending) (w' : World) : Prop := ∃ v, e = .returned v ∧ OwnB w' w.heap.size v [] ∧ Below w.heap.size w w'
set_option maxHeartbeats 400000 in
theorem grow_any (n : Nat) (w : World) (hn : n ≤ 1000000000) :
    Calls Try.prog 68 #[.slice none 0 0, .int .i64 n] w (GrowPost w) := by
  obtain ⟨i0, hi0, hz0, hz1, hz2⟩ := info_parts byteInfo
  by_cases h0 : n = 0
  · subst h0
    go_enter Try.func68, Try.ntmps68
    go_wp2_with fail
    go_ret
    exact ⟨_, rfl, OwnB.none_ _ _, Below.refl _ _⟩
  · have hold : (Builtin.firstCells i0.size 0 (.slice none 0 0)).run Try.prog w.drew = .ok #[] w.drew := run_firstCells_none w.drew i0.size 0 0 0
    have hrz : ∀ ty, (Builtin.append_ #[33, 3] ty #[.slice none 0 0, .int .i64 (n : Int)]).run Try.prog w =
        .ok (.slice (some ⟨w.heap.size, 0, none⟩) (0 + n) (grownCap w (0 + n) 0 5)) (w.drew.alloc (.cells (#[] ++ Builtin.zeroCells (Value.int .u8 0).cells n ++ Builtin.zeroCells (Value.int .u8 0).cells (grownCap w (0 + n) 0 5 - (0 + n))) 5)) := fun ty =>
      Lib.run_append_grow_zeros w 33 3 ty 5 i0 (.int .u8 0) .i64 .i64 Try.underlying33 Try.underlying3 hi0 hz0 none 0 0 [] hold n (by omega) (by omega) (by omega) (by omega) (by rw [hz2]; omega)
        (growslice_fits (by omega) (by rw [hz2]; omega))
    have hge : 0 + n ≤ grownCap w (0 + n) 0 5 := grownCap_ge w _ _ _
    have hm : grownCap w (0 + n) 0 5 ≤ maxLen := grownCap_le_maxLen w _ _ _ (by unfold maxLen; omega)
    generalize grownCap w (0 + n) 0 5 = G at *
    have hsz : (#[] ++ Builtin.zeroCells (Value.int .u8 0).cells n ++ Builtin.zeroCells (Value.int .u8 0).cells (G - (0 + n))).size = G := by
      rw [Array.size_append, Array.size_append, size_zeroCells, size_zeroCells]
      simp [Value.cells]
      omega
    generalize (#[] ++ Builtin.zeroCells (Value.int .u8 0).cells n ++ Builtin.zeroCells (Value.int .u8 0).cells (G - (0 + n))) = cs at *
    have O : Hid (OwnB (w.alloc (.cells cs 5)).drew w.heap.size (.slice (some ⟨w.heap.size, 0, none⟩) 0 G) []) :=
      ⟨World.ownsRow_made w cs G (Nat.le_refl _) hm (by rw [hsz, Nat.mul_one]), by simp⟩
    have HZ := Lib.hid hrz
    clear hrz hold hi0 hz0 hz1 hz2 hsz
    unfold maxLen at hm
    go_enter Try.func68, Try.ntmps68
    go_wp2_with (at_builtin; refine Lib.wpList_append_run _ rfl _ _ _ _ rfl _ _ rfl rfl _ _ (HZ.out _) ?_)
    go_ret
    exact ⟨_, rfl, O.out, ((Below.refl w.heap.size w).alloc (Nat.le_refl _) _).drew⟩
theorem flat_snoc (ls : List (List Nat)) (k : Nat) (h : k < ls.length) : (ls.take (k + 1)).flatten = (ls.take k).flatten ++ ls.getD k [] := by
  rw [List.take_succ_eq_append_getElem h, List.flatten_append, getD_at h]; simp
theorem flat_le (ls : List (List Nat)) (k : Nat) : (ls.take k).flatten.length ≤ ls.flatten.length := by
  have h : ls.flatten = (ls.take k).flatten ++ (ls.drop k).flatten := by rw [← List.flatten_append, List.take_append_drop]
  rw [h, List.length_append]; omega
/-- How many bytes the first k rows have. -/
def fln (ls : List (List Nat)) (k : Nat) : Nat := (ls.take k).flatten.length
theorem fln_zero (ls : List (List Nat)) : fln ls 0 = 0 := rfl
theorem fln_succ (ls : List (List Nat)) (k : Nat) (h : k < ls.length) : fln ls (k + 1) = fln ls k + (ls.getD k []).length := by
  unfold fln; rw [flat_snoc ls k h, List.length_append]
theorem fln_le (ls : List (List Nat)) (k : Nat) : fln ls k ≤ ls.flatten.length := flat_le ls k
theorem fln_all (ls : List (List Nat)) : fln ls ls.length = ls.flatten.length := by unfold fln; rw [List.take_length]
set_option maxRecDepth 100000 in
set_option maxHeartbeats 1000000 in
theorem concat_any (n c : Nat) (A : Option Addr) (ls : List (List Nat)) (w : World) (h : SlS w A n c ls) (hl : ls.flatten.length ≤ 1000000000) (hn : n ≤ 1000000000) :
    Calls Try.prog 63 #[.slice A n c] w (BPost ls.flatten w) := by
  have H := Lib.hid h; clear h
  have HL := Lib.hid hl; clear hl
  go_enter Try.func63, Try.ntmps63
  go_wp2_with fail
  go_loop [3, 11] (fun s i => ∃ k : Nat, k ≤ n ∧ i = .int .i64 k ∧ s = .int .i64 (fln ls k : Nat)) (fun _ i => n - (intOf i).toNat)
  case atStart => exact ⟨0, by omega, rfl, rfl⟩
  case round =>
    obtain ⟨k, hk, rfl, rfl⟩ := hrel
    by_cases hlt : k < n
    · have hkl : k < ls.length := by rw [← H.out.len]; exact hlt
      obtain ⟨b, o, rfl, _, hc⟩ := H.out.rd (by omega)
      obtain ⟨A', n', c', hck, hs'⟩ := hc k hkl
      clear hc
      have h1 := fln_le ls k
      have h2 := fln_le ls (k + 1)
      have hlen := hs'.len
      have h3 := fln_succ ls k hkl
      have h4 := HL.out
      clear hs'
      generalize fln ls k = x at *
      generalize hy : fln ls (k + 1) = y at *
      have HY := Lib.hid hy; clear hy
      have h5 : x ≤ 1000000000 := by omega
      have h6 : n' ≤ 1000000000 := by omega
      rw [← hlen] at h3
      have H3 := Lib.hid h3; clear h3
      clear h1 h2 h4 hlen
      go_wp2_with fail
      refine ⟨⟨k + 1, by omega, by go_num, ?_⟩, by simp [intOf]; omega⟩
      rw [HY.out, H3.out]; go_num
    · obtain rfl : k = n := by omega
      have HT : Hid (fln ls k = ls.flatten.length) := by show _ = _; rw [H.out.len, fln_all]
      have hf0 := HL.out
      generalize hfl : fln ls k = x at *
      have HX : Hid (x ≤ 1000000000) := by show _ ≤ _; rw [HT.out]; exact hf0
      clear hf0 hfl
      go_wp2_with fail
      (with_reducible refine (grow_any x _ HX.out).mono ?_)
      rintro e w1 ⟨v1, rfl, ho1, hb1⟩
      have O1 := Lib.hid ho1; clear ho1
      have B1 := Lib.hid hb1; clear hb1
      clear HT
      go_wp2_with fail
      go_loopw [6, 27] (fun v i wr => ∃ m : Nat, m ≤ k ∧ i = .int .i64 m ∧ OwnB wr w.heap.size v (ls.take m).flatten ∧ Below w.heap.size w wr) (fun _ i _ => k - (intOf i).toNat)
      case atStart => exact ⟨0, by omega, rfl, O1.out, B1.out⟩
      case round =>
        obtain ⟨m, hm, rfl, ho, hb⟩ := hrel
        clear O1 B1
        have O := Lib.hid ho; clear ho
        have B := Lib.hid hb; clear hb
        by_cases hlm : m < k
        · have hml : m < ls.length := by rw [← H.out.len]; exact hlm
          obtain ⟨b, o, rfl, _, hc⟩ := (H.out.on B.out).rd (by omega)
          obtain ⟨A', n', c', hck, hs'⟩ := hc m hml
          clear hc
          have S' := Lib.hid hs'; clear hs'
          have HS := Lib.hid (flat_snoc ls m hml)
          have HV : Hid ((ls.take m).flatten.length + (ls.getD m []).length ≤ 140737488355328) := by
            show _ ≤ _
            have := flat_le ls (m + 1)
            rw [HS.out, List.length_append] at this
            have := HL.out
            omega
          go_wp2_with (at_builtin; refine wpList_append_own_rd rfl (.tmp 31) (.tmp 32) rfl w.heap.size _ _ rfl O.out n' c' A' _ rfl S'.out HV.out B.out.size ?_; intro v2 w2 hown2 hb2; have O2 := Lib.hid hown2; have B2 := Lib.hid hb2; clear hown2 hb2)
          go_roundw
          case rel => exact ⟨m + 1, by omega, by go_num, by rw [HS.out]; exact O2.out, B.out.trans B2.out⟩
          case measure => simp [intOf]; omega
        · obtain rfl : m = k := by omega
          have HT : Hid ((ls.take m).flatten = ls.flatten) := by show _ = _; rw [H.out.len, List.take_length]
          go_wp2_with fail
          go_ret
          exact BPost.mk (by rw [← HT.out]; exact O.out) B.out
end Go.Proofs.Ytdamnamhbjfnlaa
