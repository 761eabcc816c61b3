/-
  The document's own Scan of layer 4; Same, Good and All of its package.
-/
import Derived.Test.YtdamnamhbjfnlaaFrRefGet
import Derived.Test.YtdamnamhbjfnlaaFrScan
namespace Go.Proofs.Ytdamnamhbjfnlaa
open Go.RowKit Fr

def FRRel (w : World) (n : Nat) (l : List Nat) (v i : Value) (wr : World) : Prop :=
  ∃ (k : Nat) (ps : List (List Nat)), i = .int .i64 k ∧ k ≤ n ∧ ps.length ≤ k ∧ OwnS wr w.heap.size v ps ∧ Below w.heap.size w wr ∧ Far l k ps
set_option maxRecDepth 100000 in
set_option maxHeartbeats 1600000 in
theorem frScan_any (n c : Nat) (A : Option Addr) (l : List Nat) (w : World) (h : Sl w A n c l) (hn : n ≤ 1000000000) :
    Calls Try.prog 43 #[.slice A n c] w (FSPost l w) := by
  have hlen := h.len
  have hcap := h.cap
  have hmax := h.max
  unfold maxLen at hmax
  have H := Lib.hid h; clear h
  have HN := Lib.hid hlen; clear hlen
  go_enter Try.func43, Try.ntmps43
  go_wp2_with fail
  go_loopw [5, 6] (fun v i wr => FRRel w n l v i wr) (fun _ i _ => n - (intOf i).toNat)
  case atStart => exact ⟨0, [], rfl, by omega, by simp, OwnS.none_ _ _, Below.refl _ _, Far.start l⟩
  case round =>
    obtain ⟨k, ps, rfl, hk, hpk, ho, hb, hf⟩ := hrel
    have O := Lib.hid ho; clear ho
    have B := Lib.hid hb; clear hb
    have F := Lib.hid hf; clear hf
    by_cases hend : k = n
    · have hs := Lib.hid (F.out.stop (hend.trans HN.out))
      subst hend
      go_wp2_with fail
      go_ret3
      exact FSPost.mk hs.out O.out rfl rfl B.out
    · have hlt : k < n := by omega
      have hck : ¬ c = k := by omega
      have HD := Lib.hid ((H.out.drop (k := k) (by omega) hck).on B.out)
      have hnk : n - k ≤ 1000000000 := by omega
      have HP : Hid (gE (l.drop k) ≠ 0 → scan l = (ps, k, gE (l.drop k))) := fun he => F.out.no (by rw [← HN.out]; exact hlt) he
      have HY : Hid (gE (l.drop k) = 0 → Far l (k + whole (l.drop k)) (ps ++ [gP (l.drop k)])) := fun he => F.out.yes he
      have HZ : Hid (gE (l.drop k) = 0 → 7 ≤ whole (l.drop k) ∧ k + whole (l.drop k) ≤ n) := fun he => by
        have h1 := gE_zero he
        have h2 := h1.2.2.1
        rw [List.length_drop, ← HN.out] at h2
        exact ⟨h1.1, by omega⟩
      have HX : Hid (gE (l.drop k) = 0 → gN (l.drop k) = whole (l.drop k)) := fun he => (get_yes he).2
      have HK : Hid (∀ a, A = some a → a.block < w.heap.size) := H.out.block (by rw [← HN.out]; omega)
      generalize l.drop k = d at *
      clear hend
      go_wp2_with fail
      have C := Lib.hid (frGet_any _ _ _ d wr HD.out hnk)
      (with_reducible refine C.out.mono ?_)
      rintro e w2 ⟨A2, c2, rfl, hs2, hf2, hb2⟩
      have S2 := Lib.hid hs2; clear hs2
      have OO := Lib.hid (O.out.below hb2)
      have B2 := Lib.hid (B.out.trans (hb2.mono B.out.size)); clear hb2
      have HF : Hid (0 < (gP d).length → ∀ a, A2 = some a → u5.ownBlock ≠ some a.block) := fun _ a ha e2 => by
        obtain ⟨a0, ha0, hblk⟩ := hf2 a ha
        have h2 := (O.out.base a.block e2).1
        rw [Option.map_eq_some_iff] at ha0
        obtain ⟨a1, ha1, rfl⟩ := ha0
        have h3 := HK.out a1 ha1
        have h4 : (a1.add k).block = a1.block := by unfold Addr.add; split <;> rfl
        omega
      obtain ⟨p, hp⟩ : ∃ p, p = gP d := ⟨_, rfl⟩
      rw [← hp] at S2 HF HY ⊢
      clear hp C hf2
      by_cases he : gE d = 0
      · have G := Lib.hid (HY.out he)
        have HW := Lib.hid (HZ.out he)
        rw [he, HX.out he]
        have hw1 := HW.out.1
        have hw2 := HW.out.2
        clear he HP HY HZ HX
        generalize whole d = W at *
        clear HW
        have hpl : ps.length ≤ 3000000000 := by omega
        go_wp2_with (at_builtin; refine wpList_append_row rfl (.tmp 27) (.tmp 29) rfl w.heap.size u5 ps rfl OO.out A2 p.length c2 p S2.out rfl HF.out hpl B2.out.size ?_; intro v3 w3 ho3 hb3; have O3 := Lib.hid ho3; have B3 := Lib.hid hb3; clear ho3 hb3)
        go_roundw
        case rel => exact ⟨k + W, ps ++ [p], by go_num, hw2, by rw [List.length_append]; simp; omega, O3.out, B2.out.trans B3.out, G.out⟩
        case measure => simp [intOf]; omega
      · have HS := Lib.hid (HP.out he)
        have hee : (((gE d : Nat) : Int) != 0) = true := by rw [bne_iff_ne]; omega
        clear he HP HY HZ HX
        generalize gE d = ee at *
        generalize gN d = nn at *
        go_wp2_with fail
        go_ret3
        exact FSPost.mk HS.out OO.out rfl rfl B2.out

set_option maxRecDepth 100000 in
set_option maxHeartbeats 1000000 in
theorem frSame_any (n c1 c2 : Nat) (A1 A2 : Option Addr) (ls : List (List Nat)) (w : World) (h1 : SlS w A1 n c1 ls) (h2 : SlS w A2 n c2 ls) (hn : n ≤ 1000000000) :
    Calls Try.prog 27 #[.slice A1 n c1, .slice A2 n c2] w fun e w' => e = .returned (.bool true) ∧ ∃ d, w' = w.drewN d := by
  have H1 := Lib.hid h1; clear h1
  have H2 := Lib.hid h2; clear h2
  go_enter Try.func27, Try.ntmps27
  go_wp2_with fail
  go_loopw [5] (fun i wr => ∃ m : Nat, m ≤ n ∧ i = .int .i64 m ∧ ∃ d, wr = w.drewN d) (fun i _ => n - (intOf i).toNat)
  case atStart => exact ⟨0, by omega, rfl, 0, rfl⟩
  case round =>
    obtain ⟨m, hm, rfl, d, rfl⟩ := hrel
    by_cases hlt : m < n
    · have hml : m < ls.length := by rw [← H1.out.len]; exact hlt
      obtain ⟨b1, o1, rfl, _, e1⟩ := H1.out.rd (by omega)
      obtain ⟨b2, o2, rfl, _, e2⟩ := H2.out.rd (by omega)
      obtain ⟨B1, k1, x1, f1, g1⟩ := e1 m hml
      obtain ⟨B2, k2, x2, f2, g2⟩ := e2 m hml
      clear e1 e2
      have hv1 : ∀ d, (convert 33 9 (.slice B1 k1 x1)).run Try.prog (w.drewN d) = .ok (.string (txt (ls.getD m []))) (w.drewN d) := fun d => conv_rd (g1.on (below_drewN (Below.refl _ _) d)).rd g1.len
      have hv2 : ∀ d, (convert 33 9 (.slice B2 k2 x2)).run Try.prog (w.drewN d) = .ok (.string (txt (ls.getD m []))) (w.drewN d) := fun d => conv_rd (g2.on (below_drewN (Below.refl _ _) d)).rd g2.len
      clear g1 g2
      generalize ls.getD m [] = l at *
      have i1 : (0 : Int) ≤ (m : Int) := by omega
      have i2 : (m : Int) < (n : Int) := by omega
      go_wp2_with fail
      go_quiet (fail)
      go_wp2_with fail
      refine ⟨⟨m + 1, by omega, by go_num, _, rfl⟩, by simp [intOf]; omega⟩
    · obtain rfl : m = n := by omega
      go_wp2_with fail
      go_ret
      exact ⟨rfl, d, rfl⟩
end Go.Proofs.Ytdamnamhbjfnlaa
