/-
  The walk of the statement JournalSwaps, of whatever journal keeps JC.
-/
import Derived.Test.YtdamnamhbjfnlaaJrnJB
import Derived.Test.YtdamnamhbjfnlaaFrMake
namespace Go.Proofs.Ytdamnamhbjfnlaa
open Go.RowKit
set_option linter.unusedSimpArgs false

theorem sw_bad : Jn.swapE (Jn.Js 5000 0 []) [[]] = 1 := by
  unfold Jn.swapE
  have : Jn.bad [[]] = 1 := rfl
  rw [this]
  rfl
theorem sw_fits : Dk.fits 5000 = 5000 := rfl
set_option maxRecDepth 100000 in
set_option maxHeartbeats 3200000 in
theorem jswaps_walk {J : JPred} (hJ : JC J) (n c : Nat) (A : Option Addr) (ls : List (List Nat)) (w : World) (h : SlS w A n c ls) :
    Calls Try.prog 7 #[.slice A n c] w fun e w' => e = .returned (.bool true) ∧ Below w.heap.size w w' := by
  have HJ := Lib.hid hJ
  have H := Lib.hid h
  clear hJ h
  go_enter Try.func7, Try.ntmps7
  go_wp2_with fail
  (with_reducible refine (jlives_any HJ.out _).mono ?_)
  rintro e w1 ⟨rfl, hb1⟩
  have B1 := Lib.hid hb1
  have H1 := Lib.hid (H.out.on hb1)
  clear hb1 H
  have C2 : Hid (Calls Try.prog 37 #[.slice A n c, .int .i64 8] w1 (FMPost 8 w1)) := frMake_any n c 8 A ls w1 H1.out (by omega)
  go_wp2_with fail
  (with_reducible refine C2.out.mono ?_)
  rintro e w2 ⟨A2, c2, ps, rfl, ho2, hps, hp8, hb2⟩
  have B2 := Lib.hid (B1.out.trans (hb2.mono B1.out.size))
  have OK : Hid (∀ p ∈ ps, Fr.ok p) := fun p hp => (hps p hp).1
  have P30 : Hid (∀ p ∈ ps, p.length ≤ 30) := fun p hp => (hps p hp).2
  have AL : Hid ((Fr.all ps).length ≤ 5000) := Nat.le_trans (Fr.all_small P30.out) (by omega)
  obtain ⟨m, hm⟩ : ∃ m, m = ps.length := ⟨_, rfl⟩
  rw [← hm] at ho2 ⊢
  have O2 := Lib.hid (sls_own' hm ho2)
  have hm8 : m ≤ 8 := by omega
  have M := Lib.hid hm
  have CC : Hid (m ≤ c2) := O2.out.cap
  clear ho2 hps hp8 hb2 H1 B1 hm C2
  go_wp2_with fail
  (with_reducible refine (dNew_at w2 5000 (Below.refl _ _)).mono ?_)
  rintro e w3 ⟨r, rfl, _, hd3, hb3, _⟩
  have C3 := Lib.hid (jNew_b HJ.out w3 5000 hb3 hd3 (Nat.le_refl _))
  rw [sw_fits] at C3
  clear hd3 hb3
  go_wp2_with fail
  (with_reducible refine C3.out.mono ?_)
  rintro e w4 ⟨q, rfl, hp4⟩
  have P4 := Lib.hid hp4
  clear hp4 C3
  go_wp2_with fail
  go_loopw [6] (fun i wr => ∃ j : Nat, j ≤ m ∧ i = .int .i64 j ∧ JB J w2 q r (Jn.Js 5000 0 (ps.take j)) wr) (fun i _ => m - (intOf i).toNat)
  case atStart => exact ⟨0, by omega, rfl, P4.out⟩
  case round =>
    obtain ⟨j, hj, rfl, hp⟩ := hrel
    have P := Lib.hid hp
    clear hp P4
    by_cases hlt : j < m
    · have OW := Lib.hid (O2.out.on P.out.below)
      obtain ⟨b, o, rfl, _, hrow⟩ := OW.out.rd (by have := M.out; omega)
      obtain ⟨A5, n5, c5, hc5, hs5⟩ := hrow j (by have := M.out; omega)
      have HS5 := Lib.hid hs5
      have N5 : Hid (n5 ≤ 900000000) := by
        have h1 := hs5.len
        have h2 : j < ps.length := by have := M.out; omega
        have h3 := P30.out (ps.getD j []) (by rw [List.getD_eq_getElem?_getD, List.getElem?_eq_getElem h2]; exact List.getElem_mem h2)
        show _ ≤ _
        omega
      have E5 := Lib.hid (Jn.js_app_at (R := 5000) (k := 0) (xs := []) OK.out (Nat.zero_le _) (j := j) (by have := M.out; omega) AL.out)
      simp only [List.nil_append] at E5
      have hcc := CC.out
      clear hrow hs5 OW
      go_wp2_with fail
      refine (jAppend_b HJ.out _ P.out HS5.out N5.out).mono ?_
      rw [E5.out.1, E5.out.2]
      rintro e w5 ⟨rfl, hp5⟩
      have P5 := Lib.hid hp5
      clear hp5
      go_wp2_with fail
      exact ⟨⟨j + 1, by omega, by go_num, P5.out⟩, by simp [intOf]; omega⟩
    · obtain rfl : j = m := by omega
      have P6 : Hid (JB J w2 q r (Jn.Js 5000 0 ps) wr) := by
        have e : ps.take j = ps := List.take_of_length_le (by rw [M.out]; exact Nat.le_refl _)
        have := P.out
        rw [e] at this
        exact this
      clear P
      obtain ⟨x, hx⟩ : ∃ x, x = 5000 - (Fr.all ps).length := ⟨_, rfl⟩
      have X := Lib.hid hx
      have X50 : Hid (x ≤ 5000) := by show _ ≤ _; omega
      clear hx
      have hx50 := X50.out
      go_wp2_with fail
      refine (jRoom_b HJ.out _ P6.out).mono ?_
      rw [show (Jn.Js 5000 0 ps).room - (Jn.Js 5000 0 ps).l.length = x from X.out.symm]
      rintro e w6 ⟨⟨rfl, hp6⟩, _⟩
      have P7 := Lib.hid hp6
      clear hp6 P6
      go_wp2_with fail
      refine (jAll_b HJ.out _ P7.out).mono ?_
      rw [Jn.js_ents OK.out]
      rintro e w7 ⟨A7, c7, rfl, ho7, hp7, _⟩
      have O7 := Lib.hid (sls_own' rfl ho7)
      have P8 := Lib.hid hp7
      clear ho7 hp7 P7
      rw [← M.out] at O7 ⊢
      go_wp2_with fail
      refine (jSwap_b HJ.out _ P8.out O7.out (by have := M.out; omega) (fun p hp => Nat.le_trans (P30.out p hp) (by omega))).mono ?_
      rw [(Jn.js_swap OK.out AL.out).1, (Jn.js_swap OK.out AL.out).2]
      rintro e w8 ⟨rfl, hp8⟩
      have P9 := Lib.hid hp8
      clear hp8 P8 O7
      go_wp2_with fail
      refine (jRoom_b HJ.out _ P9.out).mono ?_
      rw [show (Jn.Js 5000 ps.length ps).room - (Jn.Js 5000 ps.length ps).l.length = x from X.out.symm]
      rintro e w9 ⟨⟨rfl, hp9⟩, _⟩
      have P10 := Lib.hid hp9
      clear hp9 P9
      go_wp2_with fail
      refine (jAll_b HJ.out _ P10.out).mono ?_
      rw [Jn.js_ents OK.out]
      rintro e w10 ⟨A10, c10, rfl, ho10, hp10, _⟩
      have O10 := Lib.hid (sls_own' rfl ho10)
      have P11 := Lib.hid hp10
      have OO := Lib.hid (O2.out.on hp10.below)
      clear ho10 hp10 P10
      rw [← M.out] at O10 ⊢
      go_wp2_with fail
      (with_reducible refine (frSame_any j c10 c2 A10 A2 ps w10 O10.out OO.out (by omega)).mono ?_)
      rintro e w11 ⟨rfl, dd, rfl⟩
      have P12 := Lib.hid (P11.out.on HJ.out (Below.drewN (Below.refl w10.heap.size w10) dd))
      clear P11 O10 OO
      go_wp2_with fail
      refine (jSafe_b HJ.out _ P12.out).mono ?_
      rw [Jn.js_safe OK.out (Nat.le_refl _), ← M.out]
      rintro e w12 ⟨⟨rfl, hp12⟩, _⟩
      rw [M.out] at hp12
      have P13 := Lib.hid hp12
      clear hp12 P12
      go_wp2_with fail
      have HC : Hid (Jn.crash (Jn.Js 5000 ps.length ps) 0 = Jn.Js 5000 ps.length ps ∧ Jn.lost (Jn.Js 5000 ps.length ps) 0 = 0) := by
        obtain ⟨h1, h2, h3⟩ := Jn.js_crash (R := 5000) OK.out (Nat.le_refl ps.length) 0
        have h4 : Jn.crN ps.length ps 0 = ps.length := by omega
        rw [h4, List.take_length] at h1
        refine ⟨h1, ?_⟩
        unfold Jn.lost
        rw [h1]
        omega
      refine (jCrash_b HJ.out _ P13.out (keep := 0) (by omega)).mono ?_
      rw [HC.out.1, HC.out.2]
      rintro e w13 ⟨rfl, hp13⟩
      have P14 := Lib.hid hp13
      clear hp13 P13 HC
      go_wp2_with fail
      refine (jSwap_b HJ.out _ P14.out (SlS.none_ _) (by simp) (by simp)).mono ?_
      rw [(Jn.js_swap (R := 5000) (k := ps.length) (ps := ps) (qs := []) (by simp) (by simp [Fr.all_nil])).1, (Jn.js_swap (R := 5000) (k := ps.length) (ps := ps) (qs := []) (by simp) (by simp [Fr.all_nil])).2]
      rintro e w14 ⟨rfl, hp14⟩
      have P15 : Hid (JB J w2 q r (Jn.Js 5000 0 []) w14) := hp14
      clear hp14 P14
      go_wp2_with fail
      refine (jLen_b HJ.out _ P15.out).mono ?_
      rw [Jn.js_ents (by simp)]
      rintro e w15 ⟨⟨rfl, hp15⟩, _⟩
      have P16 := Lib.hid hp15
      clear hp15 P15
      go_wp2_with fail
      refine (jRoom_b HJ.out _ P16.out).mono ?_
      rw [show (Jn.Js 5000 0 []).room - (Jn.Js 5000 0 []).l.length = 5000 from rfl]
      rintro e w16 ⟨⟨rfl, hp16⟩, _⟩
      have P17 := Lib.hid (hp16.on HJ.out (alloc_below w16 (.cells #[.slice none 0 0] 33)))
      clear hp16 P16
      go_wp2_with fail
      refine (jSwap_b HJ.out _ P17.out (SlS.one (Sl.none_ w16)) (by simp) (by simp)).mono ?_
      rw [sw_bad]
      rintro e w17 ⟨rfl, hp17⟩
      have B17 := Lib.hid (B2.out.trans (hp17.below.mono B2.out.size))
      clear hp17 P17
      go_wp2_with fail
      go_ret
      exact ⟨rfl, B17.out⟩
end Go.Proofs.Ytdamnamhbjfnlaa
