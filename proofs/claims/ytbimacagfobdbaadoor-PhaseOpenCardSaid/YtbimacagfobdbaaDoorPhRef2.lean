/-
  The document's package of layer 11: Walk, Name, Word, Of, Between. No condition.
-/
import Derived.Test.YtbimacagfobdbaaDoorPhRef1
namespace Go.Proofs.YtbimacagfobdbaaDoor
open Go.RowKit
set_option linter.unusedSimpArgs false
set_option linter.unusedVariables false

set_option maxRecDepth 100000 in
theorem rphwalk_any (p : Int) (n c : Nat) (A : Option Addr) (l : List Int) (w : World) (h : SlI w A n c l) (hn : n ≤ 1000) : Calls Tryd.prog 15 #[.int .i64 p, .slice A n c] w fun x w' => x = .returned (.tuple #[.int .i64 (Ph.walk p l), .int .i64 (Ph.walkN p l : Nat)]) ∧ w' = w := by
  have HL := Lib.hid h.len
  have HS := Lib.hid h
  have HN := Lib.hid hn
  clear h
  have hcap := HS.out.cap
  go_enter Tryd.func15, Tryd.ntmps15
  go_wp2_with fail
  go_loopw [0, 6, 7] (fun q m i wr => ∃ k : Nat, k ≤ n ∧ i = .int .i64 k ∧ q = .int .i64 (Ph.walk p (l.take k)) ∧ m = .int .i64 (Ph.walkN p (l.take k) : Nat) ∧ wr = w) (fun _ _ i _ => n - (intOf i).toNat)
  case atStart => exact ⟨0, by omega, rfl, rfl, rfl, rfl⟩
  case round =>
    obtain ⟨k, hk, rfl, rfl, rfl, rfl⟩ := hrel
    by_cases hlt : k < n
    · have hkl : k < l.length := by rw [← HL.out]; exact hlt
      obtain ⟨b, o, rfl, _, hc⟩ := HS.out.rd (by omega)
      have hck := hc k hkl
      have NX := Lib.hid (Ph.walk_take p l hkl)
      have HM : Ph.walkN p (l.take k) ≤ 1000 := by have := Ph.walkN_le p (l.take k); rw [List.length_take] at this; have := HN.out; omega
      have CN := Lib.hid (fun q x W => rphnext_any q x W)
      generalize l.getD k 0 = x at *
      generalize Ph.walk p (l.take k) = q at *
      generalize Ph.walkN p (l.take k) = m at *
      have i1 : (0 : Int) ≤ (k : Int) := by omega
      have i2 : (k : Int) < (n : Int) := by omega
      clear hc
      cases hd : Ph.did q x with
      | true =>
        rw [hd, if_pos rfl] at NX
        have HD := Lib.hid hd
        clear hd
        go_wp2_with (go_at_call 10; (with_reducible refine (CN.out _ _ _).mono ?_); rw [HD.out]; rintro e w1 ⟨rfl, rfl⟩)
        exact ⟨⟨k + 1, by omega, by go_num, by rw [NX.out.1], by rw [NX.out.2]; go_num, trivial⟩, by simp [intOf]; omega⟩
      | false =>
        rw [hd, if_neg (by simp)] at NX
        have HD := Lib.hid hd
        clear hd
        go_wp2_with (go_at_call 10; (with_reducible refine (CN.out _ _ _).mono ?_); rw [HD.out]; rintro e w1 ⟨rfl, rfl⟩)
        exact ⟨⟨k + 1, by omega, by go_num, by rw [NX.out.1], by rw [NX.out.2]; rfl, trivial⟩, by simp [intOf]; omega⟩
    · obtain rfl : k = n := by omega
      have E : Hid (l.take k = l) := List.take_of_length_le (by rw [← HL.out]; exact Nat.le_refl _)
      go_wp2_with fail
      go_ret2
      rw [E.out]
      exact ⟨rfl, rfl⟩
set_option maxRecDepth 100000 in
set_option maxHeartbeats 3200000 in
theorem rphname_any (p : Int) (w : World) : Calls Tryd.prog 20 #[.int .i64 p] w (PhRet w (.string (Ph.name p))) := by
  have B0 := Lib.hid (Below.refl w.heap.size w)
  have B1 := Lib.hid ((Below.refl w.heap.size w).alloc (Nat.le_refl _) (.cells #[.string ⟨#[105, 100, 108, 101]⟩, .string ⟨#[114, 117, 110, 110, 105, 110, 103]⟩, .string ⟨#[112, 97, 117, 115, 101, 100]⟩, .string ⟨#[99, 111, 109, 112, 108, 101, 116, 101]⟩, .string ⟨#[114, 111, 108, 108, 105, 110, 103, 45, 98, 97, 99, 107]⟩, .string ⟨#[114, 111, 108, 108, 101, 100, 45, 98, 97, 99, 107]⟩] 9))
  by_cases hp : 0 ≤ p ∧ p ≤ 5
  · have hk : p = 0 ∨ p = 1 ∨ p = 2 ∨ p = 3 ∨ p = 4 ∨ p = 5 := by omega
    clear hp
    rcases hk with rfl | rfl | rfl | rfl | rfl | rfl
    all_goals
      go_enter Tryd.func20, Tryd.ntmps20
      go_wp2_with fail
      go_ret
      exact ⟨rfl, B1.out⟩
  · rw [Ph.name_none hp]
    by_cases h0 : p < 0
    · clear hp
      go_enter Tryd.func20, Tryd.ntmps20
      go_wp2_with fail
      go_ret
      exact ⟨rfl, B0.out⟩
    · have h5 : 5 < p := by omega
      clear hp
      go_enter Tryd.func20, Tryd.ntmps20
      go_wp2_with fail
      go_ret
      exact ⟨rfl, B0.out⟩
set_option maxRecDepth 100000 in
set_option maxHeartbeats 3200000 in
theorem rphword_any (p : Int) (w : World) : Calls Tryd.prog 21 #[.int .i64 p] w (PhRet w (.string (Ph.word p))) := by
  have B0 := Lib.hid (Below.refl w.heap.size w)
  have B1 := Lib.hid ((Below.refl w.heap.size w).alloc (Nat.le_refl _) (.cells #[.string ⟨#[98, 101, 103, 105, 110]⟩, .string ⟨#[112, 97, 117, 115, 101]⟩, .string ⟨#[114, 101, 115, 117, 109, 101]⟩, .string ⟨#[112, 114, 111, 109, 111, 116, 101]⟩, .string ⟨#[104, 101, 97, 108, 116, 104]⟩, .string ⟨#[100, 101, 97, 100, 108, 105, 110, 101]⟩, .string ⟨#[97, 98, 111, 114, 116]⟩, .string ⟨#[100, 111, 110, 101]⟩, .string ⟨#[98, 97, 99, 107]⟩] 9))
  by_cases hp : 0 ≤ p ∧ p ≤ 8
  · have hk : p = 0 ∨ p = 1 ∨ p = 2 ∨ p = 3 ∨ p = 4 ∨ p = 5 ∨ p = 6 ∨ p = 7 ∨ p = 8 := by omega
    clear hp
    rcases hk with rfl | rfl | rfl | rfl | rfl | rfl | rfl | rfl | rfl
    all_goals
      go_enter Tryd.func21, Tryd.ntmps21
      go_wp2_with fail
      go_ret
      exact ⟨rfl, B1.out⟩
  · rw [Ph.word_none hp]
    by_cases h0 : p < 0
    · clear hp
      go_enter Tryd.func21, Tryd.ntmps21
      go_wp2_with fail
      go_ret
      exact ⟨rfl, B0.out⟩
    · have h5 : 8 < p := by omega
      clear hp
      go_enter Tryd.func21, Tryd.ntmps21
      go_wp2_with fail
      go_ret
      exact ⟨rfl, B0.out⟩
theorem same_text {a b : ByteArray} : (a.toList == b.toList) = decide (a = b) := by
  rw [Bool.eq_iff_iff, beq_iff_eq, decide_eq_true_eq]
  constructor
  · intro h
    rw [ByteArray.toList_eq, ByteArray.toList_eq] at h
    exact ByteArray.ext (Array.ext' h)
  · rintro rfl; rfl
set_option maxRecDepth 100000 in
theorem rphof_any (t : ByteArray) (w : World) : Calls Tryd.prog 17 #[.string t] w (PhPost w (.int .i64 (Ph.of t)) (.bool (Ph.isWord t))) := by
  go_enter Tryd.func17, Tryd.ntmps17
  go_wp2_with fail
  go_loopw [4] (fun i wr => ∃ k : Nat, k ≤ 9 ∧ i = .int .i64 k ∧ (∀ j, j < k → Ph.word (j : Nat) ≠ t) ∧ Below w.heap.size w wr) (fun i _ => 9 - (intOf i).toNat)
  case atStart => exact ⟨0, by omega, rfl, fun j hj => by omega, Below.refl _ _⟩
  case round =>
    obtain ⟨k, hk, rfl, hj, hbr⟩ := hrel
    have HJ := Lib.hid hj
    have B := Lib.hid hbr
    clear hj hbr
    by_cases hlt : k < 9
    · have hi : (k : Int) < 9 := by omega
      have CW := Lib.hid (fun W => rphword_any (k : Nat) W)
      unfold PhRet at CW
      by_cases he : Ph.word (k : Nat) = t
      · have hts : ((Ph.word (k : Nat)).toList == t.toList) = true := by rw [same_text]; exact decide_eq_true he
        have EP : Hid (Ph.place t = k) := Ph.place_is t hlt he HJ.out
        clear he
        generalize Ph.word (k : Nat) = u at *
        go_wp2_with (go_at_call 21; (with_reducible refine (CW.out _).mono ?_); rintro e w1 ⟨rfl, hb⟩; have B1 := Lib.hid (B.out.trans (hb.mono B.out.size)); clear hb)
        go_ret2
        refine ⟨?_, B1.out⟩
        have h1 : Ph.of t = (k : Nat) := by unfold Ph.of; rw [EP.out, if_pos hlt]
        have h2 : Ph.isWord t = true := by unfold Ph.isWord; rw [EP.out]; exact decide_eq_true hlt
        rw [h1, h2]
        rfl
      · have hts : ((Ph.word (k : Nat)).toList == t.toList) = false := by rw [same_text]; exact decide_eq_false he
        have HE := Lib.hid he
        clear he
        generalize hu : Ph.word (k : Nat) = u at *
        have HU := Lib.hid hu
        clear hu
        go_wp2_with (go_at_call 21; (with_reducible refine (CW.out _).mono ?_); rintro e w1 ⟨rfl, hb⟩; have B1 := Lib.hid (B.out.trans (hb.mono B.out.size)); clear hb)
        refine ⟨⟨k + 1, by omega, by go_num, fun j hj => ?_, B1.out⟩, by simp [intOf]; omega⟩
        by_cases e : j = k
        · subst e; rw [HU.out]; exact HE.out
        · exact HJ.out j (by omega)
    · obtain rfl : k = 9 := by omega
      have EP : Hid (Ph.place t = 9) := Ph.place_none t HJ.out
      go_wp2_with fail
      go_ret2
      refine ⟨?_, B.out⟩
      have h1 : Ph.of t = 0 := by unfold Ph.of; rw [EP.out, if_neg (by omega)]
      have h2 : Ph.isWord t = false := by unfold Ph.isWord; rw [EP.out]; exact decide_eq_false (by omega)
      rw [h1, h2]
      rfl
set_option maxRecDepth 100000 in
theorem rphbetween_any (p t : Int) (w : World) : Calls Tryd.prog 13 #[.int .i64 p, .int .i64 t] w (PhList w (Ph.between p t)) := by
  go_enter Tryd.func13, Tryd.ntmps13
  go_wp2_with fail
  go_loopw [5, 6] (fun v i wr => ∃ k : Nat, k ≤ 9 ∧ i = .int .i64 k ∧ OwnI wr w.heap.size v ((Ph.evs k).filter (Ph.btw p t)) ∧ Below w.heap.size w wr) (fun _ i _ => 9 - (intOf i).toNat)
  case atStart => exact ⟨0, by omega, rfl, World.ownsRow_nil _ _ _ _, Below.refl _ _⟩
  case round =>
    obtain ⟨k, hk, rfl, ho, hbr⟩ := hrel
    have O := Lib.hid ho
    have B := Lib.hid hbr
    clear ho hbr
    by_cases hlt : k < 9
    · have hi : (k : Int) < 9 := by omega
      have NX := Lib.hid (Ph.evs_next p t k)
      have LW := Lib.hid (Ph.evs_len p t k)
      have CN := Lib.hid (fun W => rphnext_any p (k : Nat) W)
      have EB : Hid (Ph.btw p t (k : Nat) = (Ph.did p (k : Nat) && decide (Ph.next p (k : Nat) = t))) := rfl
      generalize (Ph.evs k).filter (Ph.btw p t) = lk at *
      generalize Ph.did p (k : Nat) = dk at *
      generalize Ph.next p (k : Nat) = nk at *
      cases dk with
      | false =>
        rw [EB.out, Bool.false_and, if_neg (by simp), List.append_nil] at NX
        clear EB
        go_wp2_with (go_at_call 10; (with_reducible refine (CN.out _).mono ?_); rintro e w1 ⟨rfl, rfl⟩)
        exact ⟨⟨k + 1, by omega, by go_num, by rw [NX.out]; exact O.out, B.out⟩, by simp [intOf]; omega⟩
      | true =>
        by_cases ht : nk = t
        · have hq : (nk == t) = true := by rw [beq_iff_eq]; exact ht
          rw [EB.out, decide_eq_true ht, Bool.and_self, if_pos rfl] at NX
          clear EB ht
          go_wp2_with (first
            | (go_at_call 10; (with_reducible refine (CN.out _).mono ?_); rintro e w1 ⟨rfl, rfl⟩)
            | (at_builtin; refine wpList_append_num rfl (.tmp 25) (.tmp 27) rfl w.heap.size _ lk rfl O.out _ rfl (by have := LW.out; omega) B.out.size ?_; intro v3 w3 ho3 hg3; have O3 := Lib.hid ho3; have B3 := Lib.hid (B.out.grown hg3 B.out.size (own_base O.out)); clear ho3 hg3))
          exact ⟨⟨k + 1, by omega, by go_num, by rw [NX.out]; exact O3.out, B3.out⟩, by simp [intOf]; omega⟩
        · have hq : (nk == t) = false := by rw [beq_eq_false_iff_ne]; exact ht
          rw [EB.out, decide_eq_false ht, Bool.and_false, if_neg (by simp), List.append_nil] at NX
          clear EB ht
          go_wp2_with (go_at_call 10; (with_reducible refine (CN.out _).mono ?_); rintro e w1 ⟨rfl, rfl⟩)
          exact ⟨⟨k + 1, by omega, by go_num, by rw [NX.out]; exact O.out, B.out⟩, by simp [intOf]; omega⟩
    · obtain rfl : k = 9 := by omega
      go_wp2_with fail
      go_ret
      obtain ⟨A, c, hv, hs⟩ := O.out.sl
      refine ⟨A, c, by rw [hv]; rfl, hs, B.out⟩
end Go.Proofs.YtbimacagfobdbaaDoor
