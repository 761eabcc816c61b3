/-
  Package phase (tables at package level): Name, Word, Of, Walk, Open, Over, Between; the contracts are kept.
-/
import Derived.Test.YtbimacagfobdbaaDoorPd1
import Derived.Laws.Rows
import Derived.Test.YtbimacagfobdbaaDoorPhRef2
namespace Go.Proofs.YtbimacagfobdbaaDoor
open Go.RowKit
set_option linter.unusedSimpArgs false
set_option linter.unusedVariables false

set_option maxRecDepth 100000 in
theorem pname_any (p : Int) (w : World) (ht : PT w) : Calls Tryd.prog 19 #[.int .i64 p] w (PhRet w (.string (Ph.name p))) := by
  have B := Lib.hid (Below.refl w.heap.size w)
  have hi := fun W => pisp_any p W
  by_cases h1 : 0 ≤ p ∧ p < 6
  · obtain ⟨k, rfl⟩ := Int.eq_ofNat_of_zero_le h1.1
    have hc := ht.names.cell g_names (namesT_at k (by omega))
    rw [decide_eq_true h1.1, decide_eq_true h1.2] at hi
    have HI := Lib.hid hi
    have a1 := h1.1
    have a2 := h1.2
    clear hi ht h1
    generalize Ph.name (k : Nat) = u at *
    go_enter Tryd.func19, Tryd.ntmps19
    go_wp2_with (go_at_call 24; (with_reducible refine (HI.out _).mono ?_); rintro x w1 ⟨rfl, rfl⟩)
    go_ret
    exact ⟨rfl, B.out⟩
  · rw [Ph.name_none (by omega)]
    have hz : (decide (0 ≤ p) && decide (p < 6)) = false := by rw [Bool.and_eq_false_iff, decide_eq_false_iff_not, decide_eq_false_iff_not]; omega
    rw [hz] at hi
    have HI := Lib.hid hi
    clear hi ht h1 hz
    go_enter Tryd.func19, Tryd.ntmps19
    go_wp2_with (go_at_call 24; (with_reducible refine (HI.out _).mono ?_); rintro x w1 ⟨rfl, rfl⟩)
    go_ret
    exact ⟨rfl, B.out⟩
set_option maxRecDepth 100000 in
theorem pword_any (p : Int) (w : World) (ht : PT w) : Calls Tryd.prog 18 #[.int .i64 p] w (PhRet w (.string (Ph.word p))) := by
  have B := Lib.hid (Below.refl w.heap.size w)
  have hi := fun W => pise_any p W
  by_cases h1 : 0 ≤ p ∧ p < 9
  · obtain ⟨k, rfl⟩ := Int.eq_ofNat_of_zero_le h1.1
    have hc := ht.words.cell g_words (wordsT_at k (by omega))
    rw [decide_eq_true h1.1, decide_eq_true h1.2] at hi
    have HI := Lib.hid hi
    have a1 := h1.1
    have a2 := h1.2
    clear hi ht h1
    generalize Ph.word (k : Nat) = u at *
    go_enter Tryd.func18, Tryd.ntmps18
    go_wp2_with (go_at_call 25; (with_reducible refine (HI.out _).mono ?_); rintro x w1 ⟨rfl, rfl⟩)
    go_ret
    exact ⟨rfl, B.out⟩
  · rw [Ph.word_none (by omega)]
    have hz : (decide (0 ≤ p) && decide (p < 9)) = false := by rw [Bool.and_eq_false_iff, decide_eq_false_iff_not, decide_eq_false_iff_not]; omega
    rw [hz] at hi
    have HI := Lib.hid hi
    clear hi ht h1 hz
    go_enter Tryd.func18, Tryd.ntmps18
    go_wp2_with (go_at_call 25; (with_reducible refine (HI.out _).mono ?_); rintro x w1 ⟨rfl, rfl⟩)
    go_ret
    exact ⟨rfl, B.out⟩
set_option maxRecDepth 100000 in
theorem pof_any (t : ByteArray) (w : World) (ht : PT w) : Calls Tryd.prog 16 #[.string t] w (PhPost w (.int .i64 (Ph.of t)) (.bool (Ph.isWord t))) := by
  have HW := Lib.hid (fun j (hj : j < 9) => ht.words.cell g_words (wordsT_at j hj))
  have B := Lib.hid (Below.refl w.heap.size w)
  clear ht
  go_enter Tryd.func16, Tryd.ntmps16
  go_wp2_with fail
  go_loopw [5] (fun i wr => ∃ k : Nat, k ≤ 9 ∧ i = .int .i64 k ∧ (∀ j, j < k → Ph.word (j : Nat) ≠ t) ∧ wr = w) (fun i _ => 9 - (intOf i).toNat)
  case atStart => exact ⟨0, by omega, rfl, fun j hj => by omega, rfl⟩
  case round =>
    obtain ⟨k, hk, rfl, hj, rfl⟩ := hrel
    have HJ := Lib.hid hj
    clear hj
    by_cases hlt : k < 9
    · have hi : (k : Int) < 9 := by omega
      have hc := HW.out k hlt
      by_cases he : Ph.word (k : Nat) = t
      · have hts : ((Ph.word (k : Nat)).toList == t.toList) = true := by rw [same_text]; exact decide_eq_true he
        have EP : Hid (Ph.place t = k) := Ph.place_is t hlt he HJ.out
        clear he
        generalize Ph.word (k : Nat) = u at *
        go_wp2_with fail
        go_ret2
        refine ⟨?_, B.out⟩
        have h1 : Ph.of t = (k : Nat) := by unfold Ph.of; rw [EP.out, if_pos hlt]
        have h2 : Ph.isWord t = true := by unfold Ph.isWord; rw [EP.out]; exact decide_eq_true hlt
        rw [h1, h2]
        rfl
      · have hts : ((Ph.word (k : Nat)).toList == t.toList) = false := by rw [same_text]; exact decide_eq_false he
        have HE := Lib.hid he
        clear he
        generalize hu : Ph.word (k : Nat) = u at *
        have HU := Lib.hid hu
        clear hu
        go_wp2_with fail
        refine ⟨⟨k + 1, by omega, by go_num, fun j hj => ?_, trivial⟩, by simp [intOf]; omega⟩
        by_cases e : j = k
        · subst e; rw [HU.out]; exact HE.out
        · exact HJ.out j (by omega)
    · obtain rfl : k = 9 := by omega
      have EP : Hid (Ph.place t = 9) := Ph.place_none t HJ.out
      go_wp2_with fail
      go_ret2
      refine ⟨?_, B.out⟩
      have h1 : Ph.of t = 0 := by unfold Ph.of; rw [EP.out, if_neg (by omega)]
      have h2 : Ph.isWord t = false := by unfold Ph.isWord; rw [EP.out]; exact decide_eq_false (by omega)
      rw [h1, h2]
      rfl
set_option maxRecDepth 100000 in
theorem pwalk_any (p : Int) (n c : Nat) (A : Option Addr) (l : List Int) (hp : i64P p) (hl : ∀ x ∈ l, i64P x) (w : World) (h : SlI w A n c l) (hn : n ≤ 1000) (ht : PT w) : Calls Tryd.prog 14 #[.int .i64 p, .slice A n c] w (PhPost w (.int .i64 (Ph.walk p l)) (.int .i64 (Ph.walkN p l : Nat))) := by
  have HL := Lib.hid h.len
  have HS := Lib.hid h
  have HN := Lib.hid hn
  have HT := Lib.hid ht
  have HI := Lib.hid hl
  have HP := Lib.hid hp
  have hcap := h.cap
  clear h ht hl hp
  go_enter Tryd.func14, Tryd.ntmps14
  go_wp2_with fail
  go_loopw [0, 6, 13] (fun q m i wr => ∃ k : Nat, k ≤ n ∧ i = .int .i64 k ∧ q = .int .i64 (Ph.walk p (l.take k)) ∧ m = .int .i64 (Ph.walkN p (l.take k) : Nat) ∧ Below w.heap.size w wr) (fun _ _ i _ => n - (intOf i).toNat)
  case atStart => exact ⟨0, by omega, rfl, rfl, rfl, Below.refl _ _⟩
  case round =>
    obtain ⟨k, hk, rfl, rfl, rfl, hbr⟩ := hrel
    have B := Lib.hid hbr
    clear hbr
    by_cases hlt : k < n
    · have hkl : k < l.length := by rw [← HL.out]; exact hlt
      obtain ⟨b, o, rfl, _, hc⟩ := (HS.out.on B.out).rd (by omega)
      have hck := hc k hkl
      have NX := Lib.hid (Ph.walk_take p l hkl)
      have HM : Ph.walkN p (l.take k) ≤ 1000 := by have := Ph.walkN_le p (l.take k); rw [List.length_take] at this; have := HN.out; omega
      have IX : Hid (i64P (l.getD k 0)) := by rw [getD_at hkl]; exact HI.out _ (List.getElem_mem _)
      have IQ : Hid (i64P (Ph.walk p (l.take k))) := i64_walk HP.out _
      have CN := Lib.hid (pnext_any (Ph.walk p (l.take k)) (l.getD k 0) IQ.out IX.out wr (HT.out.on B.out))
      generalize l.getD k 0 = x at *
      generalize Ph.walk p (l.take k) = q at *
      generalize Ph.walkN p (l.take k) = m at *
      have i1 : (0 : Int) ≤ (k : Int) := by omega
      have i2 : (k : Int) < (n : Int) := by omega
      clear hc
      cases hd : Ph.did q x with
      | true =>
        rw [hd, if_pos rfl] at NX
        rw [hd] at CN
        clear hd
        go_wp2_with (go_at_call 9; (with_reducible refine CN.out.mono ?_); rintro e w1 ⟨rfl, hb⟩; have B2 := Lib.hid (B.out.trans (hb.mono B.out.size)); clear hb)
        exact ⟨⟨k + 1, by omega, by go_num, by rw [NX.out.1], by rw [NX.out.2]; go_num, B2.out⟩, by simp [intOf]; omega⟩
      | false =>
        rw [hd, if_neg (by simp)] at NX
        rw [hd] at CN
        clear hd
        go_wp2_with (go_at_call 9; (with_reducible refine CN.out.mono ?_); rintro e w1 ⟨rfl, hb⟩; have B2 := Lib.hid (B.out.trans (hb.mono B.out.size)); clear hb)
        exact ⟨⟨k + 1, by omega, by go_num, by rw [NX.out.1], by rw [NX.out.2]; rfl, B2.out⟩, by simp [intOf]; omega⟩
    · obtain rfl : k = n := by omega
      have E : Hid (l.take k = l) := List.take_of_length_le (by rw [← HL.out]; exact Nat.le_refl _)
      go_wp2_with fail
      go_ret2
      rw [E.out]
      exact ⟨rfl, B.out⟩
theorem popen_any (p : Int) (w : World) : Calls Tryd.prog 22 #[.int .i64 p] w (PhRet w (.bool (Ph.open_ p))) := by
  have B := Lib.hid (Below.refl w.heap.size w)
  by_cases h : p = 1 ∨ p = 2 ∨ p = 4
  · rcases h with rfl | rfl | rfl
    all_goals
      go_enter Tryd.func22, Tryd.ntmps22
      go_wp2_with fail
      go_ret
      exact ⟨rfl, B.out⟩
  · rw [show Ph.open_ p = false from by unfold Ph.open_; simp; omega]
    have q1 : (p == 1) = false := by rw [beq_eq_false_iff_ne]; omega
    have q2 : (p == 2) = false := by rw [beq_eq_false_iff_ne]; omega
    have q4 : (p == 4) = false := by rw [beq_eq_false_iff_ne]; omega
    clear h
    go_enter Tryd.func22, Tryd.ntmps22
    go_wp2_with fail
    go_ret
    exact ⟨rfl, B.out⟩
theorem pover_any (p : Int) (w : World) : Calls Tryd.prog 23 #[.int .i64 p] w (PhRet w (.bool (Ph.over p))) := by
  have B := Lib.hid (Below.refl w.heap.size w)
  by_cases h : p = 3 ∨ p = 5
  · rcases h with rfl | rfl
    all_goals
      go_enter Tryd.func23, Tryd.ntmps23
      go_wp2_with fail
      go_ret
      exact ⟨rfl, B.out⟩
  · rw [show Ph.over p = false from by unfold Ph.over; simp; omega]
    have q1 : (p == 3) = false := by rw [beq_eq_false_iff_ne]; omega
    have q2 : (p == 5) = false := by rw [beq_eq_false_iff_ne]; omega
    clear h
    go_enter Tryd.func23, Tryd.ntmps23
    go_wp2_with fail
    go_ret
    exact ⟨rfl, B.out⟩
set_option maxRecDepth 100000 in
theorem pbetween_any (p t : Int) (hp : i64P p) (w : World) (ht : PT w) : Calls Tryd.prog 12 #[.int .i64 p, .int .i64 t] w (PhList w (Ph.between p t)) := by
  have HT := Lib.hid ht
  have HP := Lib.hid hp
  clear ht hp
  go_enter Tryd.func12, Tryd.ntmps12
  go_wp2_with fail
  go_loopw [5, 9] (fun v i wr => ∃ k : Nat, k ≤ 9 ∧ i = .int .i64 k ∧ OwnI wr w.heap.size v ((Ph.evs k).filter (Ph.btw p t)) ∧ Below w.heap.size w wr) (fun _ i _ => 9 - (intOf i).toNat)
  case atStart => exact ⟨0, by omega, rfl, World.ownsRow_nil _ _ _ _, Below.refl _ _⟩
  case round =>
    obtain ⟨k, hk, rfl, ho, hbr⟩ := hrel
    have O := Lib.hid ho
    have B := Lib.hid hbr
    clear ho hbr
    by_cases hlt : k < 9
    · have hi : (k : Int) < 9 := by omega
      have NX := Lib.hid (Ph.evs_next p t k)
      have LW := Lib.hid (Ph.evs_len p t k)
      have CN := Lib.hid (pnext_any p (k : Nat) HP.out (i64_small (by omega)) wr (HT.out.on B.out))
      have EB : Hid (Ph.btw p t (k : Nat) = (Ph.did p (k : Nat) && decide (Ph.next p (k : Nat) = t))) := rfl
      generalize (Ph.evs k).filter (Ph.btw p t) = lk at *
      generalize Ph.did p (k : Nat) = dk at *
      generalize Ph.next p (k : Nat) = nk at *
      cases dk with
      | false =>
        rw [EB.out, Bool.false_and, if_neg (by simp), List.append_nil] at NX
        clear EB
        go_wp2_with (go_at_call 9; (with_reducible refine CN.out.mono ?_); rintro e w1 ⟨rfl, hb⟩; have O1 := Lib.hid (O.out.below hb); have B1 := Lib.hid (B.out.trans (hb.mono B.out.size)); clear hb)
        exact ⟨⟨k + 1, by omega, by go_num, by rw [NX.out]; exact O1.out, B1.out⟩, by simp [intOf]; omega⟩
      | true =>
        by_cases htt : nk = t
        · have hq : (nk == t) = true := by rw [beq_iff_eq]; exact htt
          rw [EB.out, decide_eq_true htt, Bool.and_self, if_pos rfl] at NX
          clear EB htt
          go_wp2_with (first
            | (go_at_call 9; (with_reducible refine CN.out.mono ?_); rintro e w1 ⟨rfl, hb⟩; have O1 := Lib.hid (O.out.below hb); have B1 := Lib.hid (B.out.trans (hb.mono B.out.size)); clear hb)
            | (at_builtin; refine wpList_append_num rfl (.tmp 24) (.tmp 26) rfl w.heap.size _ lk rfl O1.out _ rfl (by have := LW.out; omega) B1.out.size ?_; intro v3 w3 ho3 hg3; have O3 := Lib.hid ho3; have B3 := Lib.hid (B1.out.grown hg3 B1.out.size (own_base O1.out)); clear ho3 hg3))
          exact ⟨⟨k + 1, by omega, by go_num, by rw [NX.out]; exact O3.out, B3.out⟩, by simp [intOf]; omega⟩
        · have hq : (nk == t) = false := by rw [beq_eq_false_iff_ne]; exact htt
          rw [EB.out, decide_eq_false htt, Bool.and_false, if_neg (by simp), List.append_nil] at NX
          clear EB htt
          go_wp2_with (go_at_call 9; (with_reducible refine CN.out.mono ?_); rintro e w1 ⟨rfl, hb⟩; have O1 := Lib.hid (O.out.below hb); have B1 := Lib.hid (B.out.trans (hb.mono B.out.size)); clear hb)
          exact ⟨⟨k + 1, by omega, by go_num, by rw [NX.out]; exact O1.out, B1.out⟩, by simp [intOf]; omega⟩
    · obtain rfl : k = 9 := by omega
      go_wp2_with fail
      go_ret
      obtain ⟨A, c, hv, hs⟩ := O.out.sl
      refine ⟨A, c, by rw [hv]; rfl, hs, B.out⟩
/-- Package phase keeps the contracts. -/
theorem pc_any : PC PT := ⟨fun _ _ h hb => h.on hb, fun W p e h hp he => pnext_any p e hp he W h, fun W p A n c l h hp hl hs hn => pwalk_any p n c A l hp hl W hs hn h, fun W p h _ => pname_any p W h, fun W p h _ => pword_any p W h, fun W t h _ => pof_any t W h, fun W p _ _ => popen_any p W, fun W p _ _ => pover_any p W, fun W p t h hp _ => pbetween_any p t hp W h⟩
end Go.Proofs.YtbimacagfobdbaaDoor
