/-
  Scan and Count of package frame: what they answer, from any world.
-/
import Derived.Test.YtdamnamhbjfnlaaFrPut
import Derived.Outline
namespace Go.Proofs.Ytdamnamhbjfnlaa
open Go.RowKit Fr

/-- What Scan answers. -/
def FSPost (l : List Nat) (w : World) (e : Ending) (w' : World) : Prop :=
  ∃ A c, e = .returned (.tuple #[.slice A (scan l).1.length c, .int .i64 (((scan l).2.1 : Nat) : Int), .int .i64 (((scan l).2.2 : Nat) : Int)]) ∧ OwnS w' w.heap.size (.slice A (scan l).1.length c) (scan l).1 ∧ Below w.heap.size w w'
theorem FSPost.mk {l : List Nat} {w w' : World} {v : Value} {x y : Int} {ps : List (List Nat)} {k z : Nat} (hs : scan l = (ps, k, z)) (h : OwnS w' w.heap.size v ps) (hx : x = (k : Nat)) (hy : y = (z : Nat)) (hb : Below w.heap.size w w') : FSPost l w (.returned (.tuple #[v, .int .i64 x, .int .i64 y])) w' := by
  obtain ⟨A, c, rfl, _⟩ := h.sls
  subst hx hy
  unfold FSPost
  rw [hs]
  exact ⟨A, c, rfl, h, hb⟩
/-- Scanned as far as k: those got so far are ps. -/
def Far (l : List Nat) (k : Nat) (ps : List (List Nat)) : Prop := scan l = (ps ++ (scan (l.drop k)).1, k + (scan (l.drop k)).2.1, (scan (l.drop k)).2.2)
theorem Far.start (l : List Nat) : Far l 0 [] := by unfold Far; simp
theorem Far.stop {l : List Nat} {k : Nat} {ps : List (List Nat)} (h : Far l k ps) (hk : k = l.length) : scan l = (ps, k, 0) := by
  unfold Far at h
  rw [hk, List.drop_length, scan_nil] at h
  rw [h, hk]; simp
theorem Far.no {l : List Nat} {k : Nat} {ps : List (List Nat)} (h : Far l k ps) (hk : k < l.length) (he : gE (l.drop k) ≠ 0) : scan l = (ps, k, gE (l.drop k)) := by
  unfold Far at h
  have h0 : l.drop k ≠ [] := fun e => by have := congrArg List.length e; simp at this; omega
  rw [scan_no h0 he] at h
  rw [h]; simp
theorem Far.yes {l : List Nat} {k : Nat} {ps : List (List Nat)} (h : Far l k ps) (he : gE (l.drop k) = 0) : Far l (k + whole (l.drop k)) (ps ++ [gP (l.drop k)]) := by
  unfold Far at *
  rw [scan_yes he, List.drop_drop] at h
  rw [h]; simp; omega
def FJat (w : World) (A : Option Addr) (n c : Nat) (l : List Nat) (a' : Act) (w' : World) : Prop :=
  ∃ (k : Nat) (v : Value) (ps : List (List Nat)) (u7 u8 u9 u10 u11 u12 u13 u14 u15 u16 u17 u18 u19 u20 u21 u22 u23 u24 u25 u26 u27 u28 u29 u30 u31 u32 u33 u34 u35 : Value), a' = { tmps := #[.slice A n c, undef, .slice none 0 0, .int .i64 0, .int .i64 0, v, .int .i64 (k : Int), u7, u8, u9, u10, u11, u12, u13, u14, u15, u16, u17, u18, u19, u20, u21, u22, u23, u24, u25, u26, u27, u28, u29, u30, u31, u32, u33, u34, u35], defers := [] } ∧ k ≤ n ∧ ps.length ≤ k ∧ OwnS w' w.heap.size v ps ∧ Below w.heap.size w w' ∧ Far l k ps

set_option maxRecDepth 100000 in
set_option maxHeartbeats 1600000 in
theorem fscan_any (n c : Nat) (A : Option Addr) (l : List Nat) (w : World) (h : Sl w A n c l) (hn : n ≤ 1000000000) :
    Calls Try.prog 55 #[.slice A n c] w (FSPost l w) := by
  have hlen := h.len
  have hcap := h.cap
  have hmax := h.max
  unfold maxLen at hmax
  have H := Lib.hid h; clear h
  have HN := Lib.hid hlen; clear hlen
  go_enter Try.func55, Try.ntmps55
  go_wp2
  refine wp_scope_label 0 (FJat w A n c l) (fun a' _ => n - (intOf (a'.tmps.getD 6 undef)).toNat) rfl ?_ ?_
  · intro key
    go_wp2
    go_step3
    rename_i K hK
    refine hK _ _ (key _ _ ?_)
    exact ⟨0, _, [], _, _, _, _, _, _, _, _, _, _, _, _, _, _, _, _, _, _, _, _, _, _, _, _, _, _, _, _, _, rfl, by omega, by simp, OwnS.none_ _ _, Below.refl _ _, Far.start l⟩
  · rintro a' w' ⟨k, v, ps, u7, u8, u9, u10, u11, u12, u13, u14, u15, u16, u17, u18, u19, u20, u21, u22, u23, u24, u25, u26, u27, u28, u29, u30, u31, u32, u33, u34, u35, rfl, hk, hpk, ho, hb, hf⟩
    have O := Lib.hid ho; clear ho
    have B := Lib.hid hb; clear hb
    have F := Lib.hid hf; clear hf
    by_cases hend : k = n
    · have hs := Lib.hid (F.out.stop (hend.trans HN.out))
      subst hend
      go_wp2_with fail
      simp only [Exit.jump]
      go_ret3
      exact FSPost.mk hs.out O.out rfl rfl B.out
    · have hlt : k < n := by omega
      have hne : ((k : Int) == (n : Int)) = false := by rw [beq_eq_false_iff_ne]; omega
      have hck : ¬ c = k := by omega
      have HD := Lib.hid ((H.out.drop (k := k) (by omega) hck).on B.out)
      have hnk : n - k ≤ 1000000000 := by omega
      have HP : Hid (gE (l.drop k) ≠ 0 → scan l = (ps, k, gE (l.drop k))) := fun he => F.out.no (by rw [← HN.out]; exact hlt) he
      have HY : Hid (gE (l.drop k) = 0 → Far l (k + whole (l.drop k)) (ps ++ [gP (l.drop k)])) := fun he => F.out.yes he
      have HZ : Hid (gE (l.drop k) = 0 → 7 ≤ whole (l.drop k) ∧ k + whole (l.drop k) ≤ n) := fun he => by
        have h1 := gE_zero he
        have h2 := h1.2.2.1
        rw [List.length_drop, ← HN.out] at h2
        exact ⟨h1.1, by omega⟩
      have HX : Hid (gE (l.drop k) = 0 → gN (l.drop k) = whole (l.drop k)) := fun he => (get_yes he).2
      generalize l.drop k = d at *
      clear hend
      go_wp2_with fail
      have C := Lib.hid (fget_any _ _ _ d w' HD.out hnk)
      (with_reducible refine C.out.mono ?_)
      rintro e w2 ⟨A2, c2, rfl, ho2, hb2⟩
      have O2 := Lib.hid ho2; clear ho2
      have OO := Lib.hid (O.out.below hb2)
      have B2 := Lib.hid (B.out.trans (hb2.mono B.out.size)); clear hb2
      have HF : Hid (0 < (gP d).length → ∀ a, A2 = some a → v.ownBlock ≠ some a.block) := fun _ a ha e2 => by
        have h1 := O2.out.from_ a ha
        have h2 := (O.out.base a.block e2).2
        omega
      obtain ⟨p, hp⟩ : ∃ p, p = gP d := ⟨_, rfl⟩
      rw [← hp] at O2 HF HY ⊢
      clear hp C
      by_cases he : gE d = 0
      · have G := Lib.hid (HY.out he)
        have HW := Lib.hid (HZ.out he)
        rw [he, HX.out he]
        have hw1 := HW.out.1
        have hw2 := HW.out.2
        clear he HP HY HZ HX
        generalize whole d = W at *
        clear HW
        have hpl : ps.length ≤ 3000000000 := by omega
        go_wp2_with (at_builtin; refine wpList_append_row rfl (.tmp 29) (.tmp 31) rfl w.heap.size v ps rfl OO.out A2 p.length c2 p O2.out.sls rfl HF.out hpl B2.out.size ?_; intro v3 w3 ho3 hb3; have O3 := Lib.hid ho3; have B3 := Lib.hid hb3; clear ho3 hb3)
        go_step3
        refine ⟨rfl, ⟨k + W, v3, ps ++ [p], _, _, _, _, _, _, _, _, _, _, _, _, _, _, _, _, _, _, _, _, _, _, _, _, _, _, _, _, _, rfl, hw2, by rw [List.length_append]; simp; omega, O3.out, B2.out.trans B3.out, G.out⟩, ?_⟩
        simp [intOf]; omega
      · have HS := Lib.hid (HP.out he)
        have hee : (((gE d : Nat) : Int) != 0) = true := by rw [bne_iff_ne]; omega
        clear he HP HY HZ HX
        generalize gE d = ee at *
        generalize gN d = nn at *
        go_wp2_with fail
        simp only [Exit.jump]
        go_ret3
        exact FSPost.mk HS.out OO.out rfl rfl B2.out

end Go.Proofs.Ytdamnamhbjfnlaa
