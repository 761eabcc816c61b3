/-
  The walks of PhaseNames, PhaseWays, PhaseOpen, over any package phase that keeps the contracts. Written by wip/tools/gen/ph1.py. No condition.
-/
import Derived.Test.YtbimacagfobdbaaDoorPhL0
namespace Go.Proofs.YtbimacagfobdbaaDoor
open Go.RowKit
set_option linter.unusedSimpArgs false
set_option linter.unusedVariables false

theorem empty_text (t : ByteArray) : t.toList.isEmpty = decide (t.size = 0) := by
  rw [ByteArray.toList_eq, Bool.eq_iff_iff, List.isEmpty_iff, decide_eq_true_eq]
  constructor
  · intro h
    have : t.data.toList.length = 0 := by rw [h]; rfl
    rw [Array.length_toList] at this
    exact this
  · intro h
    exact List.length_eq_zero_iff.1 (by rw [Array.length_toList]; exact h)
theorem word_size (e : Int) : (Ph.word e).size ≤ 10 ∧ ((Ph.word e).size = 0 ↔ ¬ (0 ≤ e ∧ e ≤ 8)) := by
  by_cases h : 0 ≤ e ∧ e ≤ 8
  · have hk : e = 0 ∨ e = 1 ∨ e = 2 ∨ e = 3 ∨ e = 4 ∨ e = 5 ∨ e = 6 ∨ e = 7 ∨ e = 8 := by omega
    rcases hk with rfl | rfl | rfl | rfl | rfl | rfl | rfl | rfl | rfl <;> decide
  · rw [Ph.word_none h]
    exact ⟨by decide, fun _ => h, fun _ => rfl⟩
set_option maxRecDepth 100000 in
set_option maxHeartbeats 3200000 in
theorem phnames_walk {T : World → Prop} (hC : PC T) (n : Int) (word : ByteArray) (hn : i64P n) (hw : word.size ≤ maxLen) (w : World) (hT : T w) : Calls Tryd.prog 5 #[.int .i64 n, .string word] w (PhRet w (.bool true)) := by
  have HC := Lib.hid hC
  have HT := Lib.hid hT
  have L1 := Lib.hid (fun W h => phlives_any hC W h)
  have hsz : (word.size : Int) ≤ 9223372036854775807 := by unfold maxLen at hw; omega
  have hm1 : min (word.size : Int) 20 = ((min word.size 20 : Nat) : Int) := by omega
  have hl1 : ((min word.size 20 : Nat) : Int) ≤ (word.size : Int) := by omega
  have HS : Hid ((word.extract 0 (min word.size 20)).size ≤ maxLen) := by
    show _ ≤ _
    rw [ByteArray.size_extract]
    omega
  generalize min word.size 20 = m at *
  have C1 := Lib.hid (fun W h => hC.of W (word.extract 0 m) h HS.out)
  have C2 := Lib.hid (fun W => rphof_any (word.extract 0 m) W)
  have C3 := Lib.hid (fun W h => hC.word W n h hn)
  have C4 := Lib.hid (fun W => rphword_any n W)
  have C5 := Lib.hid (fun W h => hC.name W n h hn)
  have C6 := Lib.hid (fun W => rphname_any n W)
  have WS := word_size n
  have C7 := Lib.hid (fun W h => hC.of W (Ph.word n) h (by have := WS.1; unfold maxLen; omega))
  have hwe := empty_text (Ph.word n)
  by_cases hr : 0 ≤ n ∧ n ≤ 8
  · have OW := Ph.of_word hr
    rw [OW.1, OW.2] at C7
    rw [decide_eq_false (fun h => WS.2.1 h hr)] at hwe
    clear hC hT hn hw WS OW hr
    go_enter Tryd.func5, Tryd.ntmps5
    go_upto_region 4 with (go_at_call 8; (with_reducible refine (L1.out _ HT.out).mono ?_); rintro e w1 ⟨rfl, hb⟩; have B := Lib.hid hb; clear hb)
    generalize word.extract 0 m = t at *
    generalize Ph.of t = a at *
    generalize Ph.isWord t = b at *
    generalize Ph.word n = u at *
    generalize Ph.name n = v at *
    go_wp2_with (first
      | (go_at_call 16; (with_reducible refine (C1.out _ (HC.out.on _ _ HT.out B.out)).mono ?_); rintro e w2 ⟨rfl, hb⟩; have B := Lib.hid (B.out.trans (hb.mono B.out.size)); clear hb)
      | (go_at_call 17; (with_reducible refine (C2.out _).mono ?_); rintro e w2 ⟨rfl, hb⟩; have B := Lib.hid (B.out.trans (hb.mono B.out.size)); clear hb)
      | (go_at_call 18; (with_reducible refine (C3.out _ (HC.out.on _ _ HT.out B.out)).mono ?_); rintro e w2 ⟨rfl, hb⟩; have B := Lib.hid (B.out.trans (hb.mono B.out.size)); clear hb)
      | (go_at_call 16; (with_reducible refine (C7.out _ (HC.out.on _ _ HT.out B.out)).mono ?_); rintro e w2 ⟨rfl, hb⟩; have B := Lib.hid (B.out.trans (hb.mono B.out.size)); clear hb)
      | (go_at_call 19; (with_reducible refine (C5.out _ (HC.out.on _ _ HT.out B.out)).mono ?_); rintro e w2 ⟨rfl, hb⟩; have B := Lib.hid (B.out.trans (hb.mono B.out.size)); clear hb)
      | (go_at_call 20; (with_reducible refine (C6.out _).mono ?_); rintro e w2 ⟨rfl, hb⟩; have B := Lib.hid (B.out.trans (hb.mono B.out.size)); clear hb)
      | (go_at_call 21; (with_reducible refine (C4.out _).mono ?_); rintro e w2 ⟨rfl, hb⟩; have B := Lib.hid (B.out.trans (hb.mono B.out.size)); clear hb))
    go_ret
    exact ⟨rfl, B.out⟩
  · rw [decide_eq_true (WS.2.2 hr)] at hwe
    clear hC hT hn hw WS hr
    go_enter Tryd.func5, Tryd.ntmps5
    go_upto_region 4 with (go_at_call 8; (with_reducible refine (L1.out _ HT.out).mono ?_); rintro e w1 ⟨rfl, hb⟩; have B := Lib.hid hb; clear hb)
    generalize word.extract 0 m = t at *
    generalize Ph.of t = a at *
    generalize Ph.isWord t = b at *
    generalize hpu : Ph.word n = u at *
    generalize Ph.name n = v at *
    generalize Ph.of u = a2 at *
    generalize Ph.isWord u = b2 at *
    clear hpu
    go_wp2_with (first
      | (go_at_call 16; (with_reducible refine (C1.out _ (HC.out.on _ _ HT.out B.out)).mono ?_); rintro e w2 ⟨rfl, hb⟩; have B := Lib.hid (B.out.trans (hb.mono B.out.size)); clear hb)
      | (go_at_call 17; (with_reducible refine (C2.out _).mono ?_); rintro e w2 ⟨rfl, hb⟩; have B := Lib.hid (B.out.trans (hb.mono B.out.size)); clear hb)
      | (go_at_call 18; (with_reducible refine (C3.out _ (HC.out.on _ _ HT.out B.out)).mono ?_); rintro e w2 ⟨rfl, hb⟩; have B := Lib.hid (B.out.trans (hb.mono B.out.size)); clear hb)
      | (go_at_call 16; (with_reducible refine (C7.out _ (HC.out.on _ _ HT.out B.out)).mono ?_); rintro e w2 ⟨rfl, hb⟩; have B := Lib.hid (B.out.trans (hb.mono B.out.size)); clear hb)
      | (go_at_call 19; (with_reducible refine (C5.out _ (HC.out.on _ _ HT.out B.out)).mono ?_); rintro e w2 ⟨rfl, hb⟩; have B := Lib.hid (B.out.trans (hb.mono B.out.size)); clear hb)
      | (go_at_call 20; (with_reducible refine (C6.out _).mono ?_); rintro e w2 ⟨rfl, hb⟩; have B := Lib.hid (B.out.trans (hb.mono B.out.size)); clear hb)
      | (go_at_call 21; (with_reducible refine (C4.out _).mono ?_); rintro e w2 ⟨rfl, hb⟩; have B := Lib.hid (B.out.trans (hb.mono B.out.size)); clear hb))
    go_ret
    exact ⟨rfl, B.out⟩
set_option maxRecDepth 100000 in
set_option maxHeartbeats 6400000 in
theorem phways_walk {T : World → Prop} (hC : PC T) (p ev : Int) (hp : i64P p) (he : i64P ev) (w : World) (hT : T w) : Calls Tryd.prog 6 #[.int .i64 p, .int .i64 ev] w (PhRet w (.bool true)) := by
  have HC := Lib.hid hC
  have HT := Lib.hid hT
  have L1 := Lib.hid (fun W h => phlives_any hC W h)
  have C1 := Lib.hid (fun W h => hC.next W p ev h hp he)
  have C2 := Lib.hid (fun W h => hC.opn W p h hp)
  by_cases hd : Ph.to_ p ev = -1
  · rw [(Ph.next_no hd).1, (Ph.next_no hd).2] at C1
    clear hC hT hp he hd
    go_enter Tryd.func6, Tryd.ntmps6
    go_wp2_with (first
      | (go_at_call 8; (with_reducible refine (L1.out _ HT.out).mono ?_); rintro e w1 ⟨rfl, hb⟩; have B := Lib.hid hb; clear hb)
      | (go_at_call 9; (with_reducible refine (C1.out _ (HC.out.on _ _ HT.out B.out)).mono ?_); rintro e w2 ⟨rfl, hb⟩; have B := Lib.hid (B.out.trans (hb.mono B.out.size)); clear hb))
    go_ret
    exact ⟨rfl, B.out⟩
  · have hpr := Ph.pairs hd
    clear hd
    rcases hpr with ⟨rfl, rfl⟩ | ⟨rfl, rfl⟩ | ⟨rfl, rfl⟩ | ⟨rfl, rfl⟩ | ⟨rfl, rfl⟩ | ⟨rfl, rfl⟩ | ⟨rfl, rfl⟩ | ⟨rfl, rfl⟩ | ⟨rfl, rfl⟩ | ⟨rfl, rfl⟩ | ⟨rfl, rfl⟩ | ⟨rfl, rfl⟩
    · rw [show Ph.next 0 0 = 1 from by decide, show Ph.did 0 0 = true from by decide] at C1
      rw [show Ph.open_ 0 = false from by decide] at C2
      clear hC hT hp he
      go_enter Tryd.func6, Tryd.ntmps6
      go_wp2_with (first
        | (go_at_call 8; (with_reducible refine (L1.out _ HT.out).mono ?_); rintro e w1 ⟨rfl, hb⟩; have B := Lib.hid hb; clear hb)
        | (go_at_call 9; (with_reducible refine (C1.out _ (HC.out.on _ _ HT.out B.out)).mono ?_); rintro e w2 ⟨rfl, hb⟩; have B := Lib.hid (B.out.trans (hb.mono B.out.size)); clear hb)
        | (go_at_call 22; (with_reducible refine (C2.out _ (HC.out.on _ _ HT.out B.out)).mono ?_); rintro e w2 ⟨rfl, hb⟩; have B := Lib.hid (B.out.trans (hb.mono B.out.size)); clear hb))
      go_ret
      exact ⟨rfl, B.out⟩
    · rw [show Ph.next 3 0 = 1 from by decide, show Ph.did 3 0 = true from by decide] at C1
      rw [show Ph.open_ 3 = false from by decide] at C2
      clear hC hT hp he
      go_enter Tryd.func6, Tryd.ntmps6
      go_wp2_with (first
        | (go_at_call 8; (with_reducible refine (L1.out _ HT.out).mono ?_); rintro e w1 ⟨rfl, hb⟩; have B := Lib.hid hb; clear hb)
        | (go_at_call 9; (with_reducible refine (C1.out _ (HC.out.on _ _ HT.out B.out)).mono ?_); rintro e w2 ⟨rfl, hb⟩; have B := Lib.hid (B.out.trans (hb.mono B.out.size)); clear hb)
        | (go_at_call 22; (with_reducible refine (C2.out _ (HC.out.on _ _ HT.out B.out)).mono ?_); rintro e w2 ⟨rfl, hb⟩; have B := Lib.hid (B.out.trans (hb.mono B.out.size)); clear hb))
      go_ret
      exact ⟨rfl, B.out⟩
    · rw [show Ph.next 5 0 = 1 from by decide, show Ph.did 5 0 = true from by decide] at C1
      rw [show Ph.open_ 5 = false from by decide] at C2
      clear hC hT hp he
      go_enter Tryd.func6, Tryd.ntmps6
      go_wp2_with (first
        | (go_at_call 8; (with_reducible refine (L1.out _ HT.out).mono ?_); rintro e w1 ⟨rfl, hb⟩; have B := Lib.hid hb; clear hb)
        | (go_at_call 9; (with_reducible refine (C1.out _ (HC.out.on _ _ HT.out B.out)).mono ?_); rintro e w2 ⟨rfl, hb⟩; have B := Lib.hid (B.out.trans (hb.mono B.out.size)); clear hb)
        | (go_at_call 22; (with_reducible refine (C2.out _ (HC.out.on _ _ HT.out B.out)).mono ?_); rintro e w2 ⟨rfl, hb⟩; have B := Lib.hid (B.out.trans (hb.mono B.out.size)); clear hb))
      go_ret
      exact ⟨rfl, B.out⟩
    · rw [show Ph.next 1 1 = 2 from by decide, show Ph.did 1 1 = true from by decide] at C1
      rw [show Ph.open_ 1 = true from by decide] at C2
      clear hC hT hp he
      go_enter Tryd.func6, Tryd.ntmps6
      go_wp2_with (first
        | (go_at_call 8; (with_reducible refine (L1.out _ HT.out).mono ?_); rintro e w1 ⟨rfl, hb⟩; have B := Lib.hid hb; clear hb)
        | (go_at_call 9; (with_reducible refine (C1.out _ (HC.out.on _ _ HT.out B.out)).mono ?_); rintro e w2 ⟨rfl, hb⟩; have B := Lib.hid (B.out.trans (hb.mono B.out.size)); clear hb)
        | (go_at_call 22; (with_reducible refine (C2.out _ (HC.out.on _ _ HT.out B.out)).mono ?_); rintro e w2 ⟨rfl, hb⟩; have B := Lib.hid (B.out.trans (hb.mono B.out.size)); clear hb))
      go_ret
      exact ⟨rfl, B.out⟩
    · rw [show Ph.next 2 2 = 1 from by decide, show Ph.did 2 2 = true from by decide] at C1
      rw [show Ph.open_ 2 = true from by decide] at C2
      clear hC hT hp he
      go_enter Tryd.func6, Tryd.ntmps6
      go_wp2_with (first
        | (go_at_call 8; (with_reducible refine (L1.out _ HT.out).mono ?_); rintro e w1 ⟨rfl, hb⟩; have B := Lib.hid hb; clear hb)
        | (go_at_call 9; (with_reducible refine (C1.out _ (HC.out.on _ _ HT.out B.out)).mono ?_); rintro e w2 ⟨rfl, hb⟩; have B := Lib.hid (B.out.trans (hb.mono B.out.size)); clear hb)
        | (go_at_call 22; (with_reducible refine (C2.out _ (HC.out.on _ _ HT.out B.out)).mono ?_); rintro e w2 ⟨rfl, hb⟩; have B := Lib.hid (B.out.trans (hb.mono B.out.size)); clear hb))
      go_ret
      exact ⟨rfl, B.out⟩
    · rw [show Ph.next 1 3 = 1 from by decide, show Ph.did 1 3 = true from by decide] at C1
      rw [show Ph.open_ 1 = true from by decide] at C2
      clear hC hT hp he
      go_enter Tryd.func6, Tryd.ntmps6
      go_wp2_with (first
        | (go_at_call 8; (with_reducible refine (L1.out _ HT.out).mono ?_); rintro e w1 ⟨rfl, hb⟩; have B := Lib.hid hb; clear hb)
        | (go_at_call 9; (with_reducible refine (C1.out _ (HC.out.on _ _ HT.out B.out)).mono ?_); rintro e w2 ⟨rfl, hb⟩; have B := Lib.hid (B.out.trans (hb.mono B.out.size)); clear hb)
        | (go_at_call 22; (with_reducible refine (C2.out _ (HC.out.on _ _ HT.out B.out)).mono ?_); rintro e w2 ⟨rfl, hb⟩; have B := Lib.hid (B.out.trans (hb.mono B.out.size)); clear hb))
      go_ret
      exact ⟨rfl, B.out⟩
    · rw [show Ph.next 1 4 = 4 from by decide, show Ph.did 1 4 = true from by decide] at C1
      rw [show Ph.open_ 1 = true from by decide] at C2
      clear hC hT hp he
      go_enter Tryd.func6, Tryd.ntmps6
      go_wp2_with (first
        | (go_at_call 8; (with_reducible refine (L1.out _ HT.out).mono ?_); rintro e w1 ⟨rfl, hb⟩; have B := Lib.hid hb; clear hb)
        | (go_at_call 9; (with_reducible refine (C1.out _ (HC.out.on _ _ HT.out B.out)).mono ?_); rintro e w2 ⟨rfl, hb⟩; have B := Lib.hid (B.out.trans (hb.mono B.out.size)); clear hb)
        | (go_at_call 22; (with_reducible refine (C2.out _ (HC.out.on _ _ HT.out B.out)).mono ?_); rintro e w2 ⟨rfl, hb⟩; have B := Lib.hid (B.out.trans (hb.mono B.out.size)); clear hb))
      go_ret
      exact ⟨rfl, B.out⟩
    · rw [show Ph.next 1 5 = 4 from by decide, show Ph.did 1 5 = true from by decide] at C1
      rw [show Ph.open_ 1 = true from by decide] at C2
      clear hC hT hp he
      go_enter Tryd.func6, Tryd.ntmps6
      go_wp2_with (first
        | (go_at_call 8; (with_reducible refine (L1.out _ HT.out).mono ?_); rintro e w1 ⟨rfl, hb⟩; have B := Lib.hid hb; clear hb)
        | (go_at_call 9; (with_reducible refine (C1.out _ (HC.out.on _ _ HT.out B.out)).mono ?_); rintro e w2 ⟨rfl, hb⟩; have B := Lib.hid (B.out.trans (hb.mono B.out.size)); clear hb)
        | (go_at_call 22; (with_reducible refine (C2.out _ (HC.out.on _ _ HT.out B.out)).mono ?_); rintro e w2 ⟨rfl, hb⟩; have B := Lib.hid (B.out.trans (hb.mono B.out.size)); clear hb))
      go_ret
      exact ⟨rfl, B.out⟩
    · rw [show Ph.next 1 6 = 4 from by decide, show Ph.did 1 6 = true from by decide] at C1
      rw [show Ph.open_ 1 = true from by decide] at C2
      clear hC hT hp he
      go_enter Tryd.func6, Tryd.ntmps6
      go_wp2_with (first
        | (go_at_call 8; (with_reducible refine (L1.out _ HT.out).mono ?_); rintro e w1 ⟨rfl, hb⟩; have B := Lib.hid hb; clear hb)
        | (go_at_call 9; (with_reducible refine (C1.out _ (HC.out.on _ _ HT.out B.out)).mono ?_); rintro e w2 ⟨rfl, hb⟩; have B := Lib.hid (B.out.trans (hb.mono B.out.size)); clear hb)
        | (go_at_call 22; (with_reducible refine (C2.out _ (HC.out.on _ _ HT.out B.out)).mono ?_); rintro e w2 ⟨rfl, hb⟩; have B := Lib.hid (B.out.trans (hb.mono B.out.size)); clear hb))
      go_ret
      exact ⟨rfl, B.out⟩
    · rw [show Ph.next 2 6 = 4 from by decide, show Ph.did 2 6 = true from by decide] at C1
      rw [show Ph.open_ 2 = true from by decide] at C2
      clear hC hT hp he
      go_enter Tryd.func6, Tryd.ntmps6
      go_wp2_with (first
        | (go_at_call 8; (with_reducible refine (L1.out _ HT.out).mono ?_); rintro e w1 ⟨rfl, hb⟩; have B := Lib.hid hb; clear hb)
        | (go_at_call 9; (with_reducible refine (C1.out _ (HC.out.on _ _ HT.out B.out)).mono ?_); rintro e w2 ⟨rfl, hb⟩; have B := Lib.hid (B.out.trans (hb.mono B.out.size)); clear hb)
        | (go_at_call 22; (with_reducible refine (C2.out _ (HC.out.on _ _ HT.out B.out)).mono ?_); rintro e w2 ⟨rfl, hb⟩; have B := Lib.hid (B.out.trans (hb.mono B.out.size)); clear hb))
      go_ret
      exact ⟨rfl, B.out⟩
    · rw [show Ph.next 1 7 = 3 from by decide, show Ph.did 1 7 = true from by decide] at C1
      rw [show Ph.open_ 1 = true from by decide] at C2
      clear hC hT hp he
      go_enter Tryd.func6, Tryd.ntmps6
      go_wp2_with (first
        | (go_at_call 8; (with_reducible refine (L1.out _ HT.out).mono ?_); rintro e w1 ⟨rfl, hb⟩; have B := Lib.hid hb; clear hb)
        | (go_at_call 9; (with_reducible refine (C1.out _ (HC.out.on _ _ HT.out B.out)).mono ?_); rintro e w2 ⟨rfl, hb⟩; have B := Lib.hid (B.out.trans (hb.mono B.out.size)); clear hb)
        | (go_at_call 22; (with_reducible refine (C2.out _ (HC.out.on _ _ HT.out B.out)).mono ?_); rintro e w2 ⟨rfl, hb⟩; have B := Lib.hid (B.out.trans (hb.mono B.out.size)); clear hb))
      go_ret
      exact ⟨rfl, B.out⟩
    · rw [show Ph.next 4 8 = 5 from by decide, show Ph.did 4 8 = true from by decide] at C1
      rw [show Ph.open_ 4 = true from by decide] at C2
      clear hC hT hp he
      go_enter Tryd.func6, Tryd.ntmps6
      go_wp2_with (first
        | (go_at_call 8; (with_reducible refine (L1.out _ HT.out).mono ?_); rintro e w1 ⟨rfl, hb⟩; have B := Lib.hid hb; clear hb)
        | (go_at_call 9; (with_reducible refine (C1.out _ (HC.out.on _ _ HT.out B.out)).mono ?_); rintro e w2 ⟨rfl, hb⟩; have B := Lib.hid (B.out.trans (hb.mono B.out.size)); clear hb)
        | (go_at_call 22; (with_reducible refine (C2.out _ (HC.out.on _ _ HT.out B.out)).mono ?_); rintro e w2 ⟨rfl, hb⟩; have B := Lib.hid (B.out.trans (hb.mono B.out.size)); clear hb))
      go_ret
      exact ⟨rfl, B.out⟩
set_option maxRecDepth 100000 in
set_option maxHeartbeats 6400000 in
theorem phopen_walk {T : World → Prop} (hC : PC T) (p ev : Int) (hp : i64P p) (he : i64P ev) (w : World) (hT : T w) : Calls Tryd.prog 7 #[.int .i64 p, .int .i64 ev] w (PhRet w (.bool true)) := by
  have HC := Lib.hid hC
  have HT := Lib.hid hT
  have L1 := Lib.hid (fun W h => phlives_any hC W h)
  have C1 := Lib.hid (fun W h => hC.next W p ev h hp he)
  have C2 := Lib.hid (fun W h => hC.opn W p h hp)
  have C3 := Lib.hid (fun W h => hC.over W p h hp)
  have C4 := Lib.hid (fun W h => hC.name W p h hp)
  have C5 := Lib.hid (fun W h => hC.opn W (Ph.next p ev) h (i64_next hp ev))
  by_cases hd : Ph.to_ p ev = -1
  · rw [(Ph.next_no hd).1, (Ph.next_no hd).2] at C1
    clear C5
    by_cases hr : 0 ≤ p ∧ p ≤ 5
    · have hk : p = 0 ∨ p = 1 ∨ p = 2 ∨ p = 3 ∨ p = 4 ∨ p = 5 := by omega
      clear hr hd
      rcases hk with rfl | rfl | rfl | rfl | rfl | rfl
      · rw [show Ph.open_ 0 = false from by decide] at C2
        rw [show Ph.over 0 = false from by decide] at C3
        rw [show Ph.name 0 = ⟨#[105, 100, 108, 101]⟩ from rfl] at C4
        clear hC hT hp he
        go_enter Tryd.func7, Tryd.ntmps7
        go_wp2_with (first
          | (go_at_call 8; (with_reducible refine (L1.out _ HT.out).mono ?_); rintro e w1 ⟨rfl, hb⟩; have B := Lib.hid hb; clear hb)
          | (go_at_call 9; (with_reducible refine (C1.out _ (HC.out.on _ _ HT.out B.out)).mono ?_); rintro e w2 ⟨rfl, hb⟩; have B := Lib.hid (B.out.trans (hb.mono B.out.size)); clear hb)
          | (go_at_call 22; (with_reducible refine (C2.out _ (HC.out.on _ _ HT.out B.out)).mono ?_); rintro e w2 ⟨rfl, hb⟩; have B := Lib.hid (B.out.trans (hb.mono B.out.size)); clear hb)
          | (go_at_call 23; (with_reducible refine (C3.out _ (HC.out.on _ _ HT.out B.out)).mono ?_); rintro e w2 ⟨rfl, hb⟩; have B := Lib.hid (B.out.trans (hb.mono B.out.size)); clear hb)
          | (go_at_call 19; (with_reducible refine (C4.out _ (HC.out.on _ _ HT.out B.out)).mono ?_); rintro e w2 ⟨rfl, hb⟩; have B := Lib.hid (B.out.trans (hb.mono B.out.size)); clear hb))
        all_goals
          go_ret
          exact ⟨rfl, B.out⟩
      · rw [show Ph.open_ 1 = true from by decide] at C2
        rw [show Ph.over 1 = false from by decide] at C3
        rw [show Ph.name 1 = ⟨#[114, 117, 110, 110, 105, 110, 103]⟩ from rfl] at C4
        clear hC hT hp he
        go_enter Tryd.func7, Tryd.ntmps7
        go_wp2_with (first
          | (go_at_call 8; (with_reducible refine (L1.out _ HT.out).mono ?_); rintro e w1 ⟨rfl, hb⟩; have B := Lib.hid hb; clear hb)
          | (go_at_call 9; (with_reducible refine (C1.out _ (HC.out.on _ _ HT.out B.out)).mono ?_); rintro e w2 ⟨rfl, hb⟩; have B := Lib.hid (B.out.trans (hb.mono B.out.size)); clear hb)
          | (go_at_call 22; (with_reducible refine (C2.out _ (HC.out.on _ _ HT.out B.out)).mono ?_); rintro e w2 ⟨rfl, hb⟩; have B := Lib.hid (B.out.trans (hb.mono B.out.size)); clear hb)
          | (go_at_call 23; (with_reducible refine (C3.out _ (HC.out.on _ _ HT.out B.out)).mono ?_); rintro e w2 ⟨rfl, hb⟩; have B := Lib.hid (B.out.trans (hb.mono B.out.size)); clear hb)
          | (go_at_call 19; (with_reducible refine (C4.out _ (HC.out.on _ _ HT.out B.out)).mono ?_); rintro e w2 ⟨rfl, hb⟩; have B := Lib.hid (B.out.trans (hb.mono B.out.size)); clear hb))
        all_goals
          go_ret
          exact ⟨rfl, B.out⟩
      · rw [show Ph.open_ 2 = true from by decide] at C2
        rw [show Ph.over 2 = false from by decide] at C3
        rw [show Ph.name 2 = ⟨#[112, 97, 117, 115, 101, 100]⟩ from rfl] at C4
        clear hC hT hp he
        go_enter Tryd.func7, Tryd.ntmps7
        go_wp2_with (first
          | (go_at_call 8; (with_reducible refine (L1.out _ HT.out).mono ?_); rintro e w1 ⟨rfl, hb⟩; have B := Lib.hid hb; clear hb)
          | (go_at_call 9; (with_reducible refine (C1.out _ (HC.out.on _ _ HT.out B.out)).mono ?_); rintro e w2 ⟨rfl, hb⟩; have B := Lib.hid (B.out.trans (hb.mono B.out.size)); clear hb)
          | (go_at_call 22; (with_reducible refine (C2.out _ (HC.out.on _ _ HT.out B.out)).mono ?_); rintro e w2 ⟨rfl, hb⟩; have B := Lib.hid (B.out.trans (hb.mono B.out.size)); clear hb)
          | (go_at_call 23; (with_reducible refine (C3.out _ (HC.out.on _ _ HT.out B.out)).mono ?_); rintro e w2 ⟨rfl, hb⟩; have B := Lib.hid (B.out.trans (hb.mono B.out.size)); clear hb)
          | (go_at_call 19; (with_reducible refine (C4.out _ (HC.out.on _ _ HT.out B.out)).mono ?_); rintro e w2 ⟨rfl, hb⟩; have B := Lib.hid (B.out.trans (hb.mono B.out.size)); clear hb))
        all_goals
          go_ret
          exact ⟨rfl, B.out⟩
      · rw [show Ph.open_ 3 = false from by decide] at C2
        rw [show Ph.over 3 = true from by decide] at C3
        rw [show Ph.name 3 = ⟨#[99, 111, 109, 112, 108, 101, 116, 101]⟩ from rfl] at C4
        clear hC hT hp he
        go_enter Tryd.func7, Tryd.ntmps7
        go_wp2_with (first
          | (go_at_call 8; (with_reducible refine (L1.out _ HT.out).mono ?_); rintro e w1 ⟨rfl, hb⟩; have B := Lib.hid hb; clear hb)
          | (go_at_call 9; (with_reducible refine (C1.out _ (HC.out.on _ _ HT.out B.out)).mono ?_); rintro e w2 ⟨rfl, hb⟩; have B := Lib.hid (B.out.trans (hb.mono B.out.size)); clear hb)
          | (go_at_call 22; (with_reducible refine (C2.out _ (HC.out.on _ _ HT.out B.out)).mono ?_); rintro e w2 ⟨rfl, hb⟩; have B := Lib.hid (B.out.trans (hb.mono B.out.size)); clear hb)
          | (go_at_call 23; (with_reducible refine (C3.out _ (HC.out.on _ _ HT.out B.out)).mono ?_); rintro e w2 ⟨rfl, hb⟩; have B := Lib.hid (B.out.trans (hb.mono B.out.size)); clear hb)
          | (go_at_call 19; (with_reducible refine (C4.out _ (HC.out.on _ _ HT.out B.out)).mono ?_); rintro e w2 ⟨rfl, hb⟩; have B := Lib.hid (B.out.trans (hb.mono B.out.size)); clear hb))
        all_goals
          go_ret
          exact ⟨rfl, B.out⟩
      · rw [show Ph.open_ 4 = true from by decide] at C2
        rw [show Ph.over 4 = false from by decide] at C3
        rw [show Ph.name 4 = ⟨#[114, 111, 108, 108, 105, 110, 103, 45, 98, 97, 99, 107]⟩ from rfl] at C4
        clear hC hT hp he
        go_enter Tryd.func7, Tryd.ntmps7
        go_wp2_with (first
          | (go_at_call 8; (with_reducible refine (L1.out _ HT.out).mono ?_); rintro e w1 ⟨rfl, hb⟩; have B := Lib.hid hb; clear hb)
          | (go_at_call 9; (with_reducible refine (C1.out _ (HC.out.on _ _ HT.out B.out)).mono ?_); rintro e w2 ⟨rfl, hb⟩; have B := Lib.hid (B.out.trans (hb.mono B.out.size)); clear hb)
          | (go_at_call 22; (with_reducible refine (C2.out _ (HC.out.on _ _ HT.out B.out)).mono ?_); rintro e w2 ⟨rfl, hb⟩; have B := Lib.hid (B.out.trans (hb.mono B.out.size)); clear hb)
          | (go_at_call 23; (with_reducible refine (C3.out _ (HC.out.on _ _ HT.out B.out)).mono ?_); rintro e w2 ⟨rfl, hb⟩; have B := Lib.hid (B.out.trans (hb.mono B.out.size)); clear hb)
          | (go_at_call 19; (with_reducible refine (C4.out _ (HC.out.on _ _ HT.out B.out)).mono ?_); rintro e w2 ⟨rfl, hb⟩; have B := Lib.hid (B.out.trans (hb.mono B.out.size)); clear hb))
        all_goals
          go_ret
          exact ⟨rfl, B.out⟩
      · rw [show Ph.open_ 5 = false from by decide] at C2
        rw [show Ph.over 5 = true from by decide] at C3
        rw [show Ph.name 5 = ⟨#[114, 111, 108, 108, 101, 100, 45, 98, 97, 99, 107]⟩ from rfl] at C4
        clear hC hT hp he
        go_enter Tryd.func7, Tryd.ntmps7
        go_wp2_with (first
          | (go_at_call 8; (with_reducible refine (L1.out _ HT.out).mono ?_); rintro e w1 ⟨rfl, hb⟩; have B := Lib.hid hb; clear hb)
          | (go_at_call 9; (with_reducible refine (C1.out _ (HC.out.on _ _ HT.out B.out)).mono ?_); rintro e w2 ⟨rfl, hb⟩; have B := Lib.hid (B.out.trans (hb.mono B.out.size)); clear hb)
          | (go_at_call 22; (with_reducible refine (C2.out _ (HC.out.on _ _ HT.out B.out)).mono ?_); rintro e w2 ⟨rfl, hb⟩; have B := Lib.hid (B.out.trans (hb.mono B.out.size)); clear hb)
          | (go_at_call 23; (with_reducible refine (C3.out _ (HC.out.on _ _ HT.out B.out)).mono ?_); rintro e w2 ⟨rfl, hb⟩; have B := Lib.hid (B.out.trans (hb.mono B.out.size)); clear hb)
          | (go_at_call 19; (with_reducible refine (C4.out _ (HC.out.on _ _ HT.out B.out)).mono ?_); rintro e w2 ⟨rfl, hb⟩; have B := Lib.hid (B.out.trans (hb.mono B.out.size)); clear hb))
        all_goals
          go_ret
          exact ⟨rfl, B.out⟩
    · rw [Ph.name_none hr] at C4
      rw [show Ph.open_ p = false from by unfold Ph.open_; simp; omega] at C2
      rw [show Ph.over p = false from by unfold Ph.over; simp; omega] at C3
      have q0 : (p == 0) = false := by rw [beq_eq_false_iff_ne]; omega
      by_cases h0 : 0 ≤ p
      · have h5 : ¬ p ≤ 5 := by omega
        clear hr hd
        clear hC hT hp he
        go_enter Tryd.func7, Tryd.ntmps7
        go_wp2_with (first
          | (go_at_call 8; (with_reducible refine (L1.out _ HT.out).mono ?_); rintro e w1 ⟨rfl, hb⟩; have B := Lib.hid hb; clear hb)
          | (go_at_call 9; (with_reducible refine (C1.out _ (HC.out.on _ _ HT.out B.out)).mono ?_); rintro e w2 ⟨rfl, hb⟩; have B := Lib.hid (B.out.trans (hb.mono B.out.size)); clear hb)
          | (go_at_call 22; (with_reducible refine (C2.out _ (HC.out.on _ _ HT.out B.out)).mono ?_); rintro e w2 ⟨rfl, hb⟩; have B := Lib.hid (B.out.trans (hb.mono B.out.size)); clear hb)
          | (go_at_call 23; (with_reducible refine (C3.out _ (HC.out.on _ _ HT.out B.out)).mono ?_); rintro e w2 ⟨rfl, hb⟩; have B := Lib.hid (B.out.trans (hb.mono B.out.size)); clear hb)
          | (go_at_call 19; (with_reducible refine (C4.out _ (HC.out.on _ _ HT.out B.out)).mono ?_); rintro e w2 ⟨rfl, hb⟩; have B := Lib.hid (B.out.trans (hb.mono B.out.size)); clear hb))
        all_goals
          go_ret
          exact ⟨rfl, B.out⟩
      · clear hr hd
        clear hC hT hp he
        go_enter Tryd.func7, Tryd.ntmps7
        go_wp2_with (first
          | (go_at_call 8; (with_reducible refine (L1.out _ HT.out).mono ?_); rintro e w1 ⟨rfl, hb⟩; have B := Lib.hid hb; clear hb)
          | (go_at_call 9; (with_reducible refine (C1.out _ (HC.out.on _ _ HT.out B.out)).mono ?_); rintro e w2 ⟨rfl, hb⟩; have B := Lib.hid (B.out.trans (hb.mono B.out.size)); clear hb)
          | (go_at_call 22; (with_reducible refine (C2.out _ (HC.out.on _ _ HT.out B.out)).mono ?_); rintro e w2 ⟨rfl, hb⟩; have B := Lib.hid (B.out.trans (hb.mono B.out.size)); clear hb)
          | (go_at_call 23; (with_reducible refine (C3.out _ (HC.out.on _ _ HT.out B.out)).mono ?_); rintro e w2 ⟨rfl, hb⟩; have B := Lib.hid (B.out.trans (hb.mono B.out.size)); clear hb)
          | (go_at_call 19; (with_reducible refine (C4.out _ (HC.out.on _ _ HT.out B.out)).mono ?_); rintro e w2 ⟨rfl, hb⟩; have B := Lib.hid (B.out.trans (hb.mono B.out.size)); clear hb))
        all_goals
          go_ret
          exact ⟨rfl, B.out⟩
  · have hpr := Ph.pairs hd
    clear hd
    rcases hpr with ⟨rfl, rfl⟩ | ⟨rfl, rfl⟩ | ⟨rfl, rfl⟩ | ⟨rfl, rfl⟩ | ⟨rfl, rfl⟩ | ⟨rfl, rfl⟩ | ⟨rfl, rfl⟩ | ⟨rfl, rfl⟩ | ⟨rfl, rfl⟩ | ⟨rfl, rfl⟩ | ⟨rfl, rfl⟩ | ⟨rfl, rfl⟩
    · rw [show Ph.next 0 0 = 1 from by decide, show Ph.did 0 0 = true from by decide] at C1
      rw [show Ph.next 0 0 = 1 from by decide, show Ph.open_ 1 = true from by decide] at C5
      rw [show Ph.open_ 0 = false from by decide] at C2
      rw [show Ph.over 0 = false from by decide] at C3
      rw [show Ph.name 0 = ⟨#[105, 100, 108, 101]⟩ from rfl] at C4
      clear hC hT hp he
      go_enter Tryd.func7, Tryd.ntmps7
      go_wp2_with (first
        | (go_at_call 8; (with_reducible refine (L1.out _ HT.out).mono ?_); rintro e w1 ⟨rfl, hb⟩; have B := Lib.hid hb; clear hb)
        | (go_at_call 9; (with_reducible refine (C1.out _ (HC.out.on _ _ HT.out B.out)).mono ?_); rintro e w2 ⟨rfl, hb⟩; have B := Lib.hid (B.out.trans (hb.mono B.out.size)); clear hb)
        | (go_at_call 22; (with_reducible refine (C2.out _ (HC.out.on _ _ HT.out B.out)).mono ?_); rintro e w2 ⟨rfl, hb⟩; have B := Lib.hid (B.out.trans (hb.mono B.out.size)); clear hb)
        | (go_at_call 23; (with_reducible refine (C3.out _ (HC.out.on _ _ HT.out B.out)).mono ?_); rintro e w2 ⟨rfl, hb⟩; have B := Lib.hid (B.out.trans (hb.mono B.out.size)); clear hb)
        | (go_at_call 19; (with_reducible refine (C4.out _ (HC.out.on _ _ HT.out B.out)).mono ?_); rintro e w2 ⟨rfl, hb⟩; have B := Lib.hid (B.out.trans (hb.mono B.out.size)); clear hb)
        | (go_at_call 22; (with_reducible refine (C5.out _ (HC.out.on _ _ HT.out B.out)).mono ?_); rintro e w2 ⟨rfl, hb⟩; have B := Lib.hid (B.out.trans (hb.mono B.out.size)); clear hb))
      all_goals
        go_ret
        exact ⟨rfl, B.out⟩
    · rw [show Ph.next 3 0 = 1 from by decide, show Ph.did 3 0 = true from by decide] at C1
      rw [show Ph.next 3 0 = 1 from by decide, show Ph.open_ 1 = true from by decide] at C5
      rw [show Ph.open_ 3 = false from by decide] at C2
      rw [show Ph.over 3 = true from by decide] at C3
      rw [show Ph.name 3 = ⟨#[99, 111, 109, 112, 108, 101, 116, 101]⟩ from rfl] at C4
      clear hC hT hp he
      go_enter Tryd.func7, Tryd.ntmps7
      go_wp2_with (first
        | (go_at_call 8; (with_reducible refine (L1.out _ HT.out).mono ?_); rintro e w1 ⟨rfl, hb⟩; have B := Lib.hid hb; clear hb)
        | (go_at_call 9; (with_reducible refine (C1.out _ (HC.out.on _ _ HT.out B.out)).mono ?_); rintro e w2 ⟨rfl, hb⟩; have B := Lib.hid (B.out.trans (hb.mono B.out.size)); clear hb)
        | (go_at_call 22; (with_reducible refine (C2.out _ (HC.out.on _ _ HT.out B.out)).mono ?_); rintro e w2 ⟨rfl, hb⟩; have B := Lib.hid (B.out.trans (hb.mono B.out.size)); clear hb)
        | (go_at_call 23; (with_reducible refine (C3.out _ (HC.out.on _ _ HT.out B.out)).mono ?_); rintro e w2 ⟨rfl, hb⟩; have B := Lib.hid (B.out.trans (hb.mono B.out.size)); clear hb)
        | (go_at_call 19; (with_reducible refine (C4.out _ (HC.out.on _ _ HT.out B.out)).mono ?_); rintro e w2 ⟨rfl, hb⟩; have B := Lib.hid (B.out.trans (hb.mono B.out.size)); clear hb)
        | (go_at_call 22; (with_reducible refine (C5.out _ (HC.out.on _ _ HT.out B.out)).mono ?_); rintro e w2 ⟨rfl, hb⟩; have B := Lib.hid (B.out.trans (hb.mono B.out.size)); clear hb))
      all_goals
        go_ret
        exact ⟨rfl, B.out⟩
    · rw [show Ph.next 5 0 = 1 from by decide, show Ph.did 5 0 = true from by decide] at C1
      rw [show Ph.next 5 0 = 1 from by decide, show Ph.open_ 1 = true from by decide] at C5
      rw [show Ph.open_ 5 = false from by decide] at C2
      rw [show Ph.over 5 = true from by decide] at C3
      rw [show Ph.name 5 = ⟨#[114, 111, 108, 108, 101, 100, 45, 98, 97, 99, 107]⟩ from rfl] at C4
      clear hC hT hp he
      go_enter Tryd.func7, Tryd.ntmps7
      go_wp2_with (first
        | (go_at_call 8; (with_reducible refine (L1.out _ HT.out).mono ?_); rintro e w1 ⟨rfl, hb⟩; have B := Lib.hid hb; clear hb)
        | (go_at_call 9; (with_reducible refine (C1.out _ (HC.out.on _ _ HT.out B.out)).mono ?_); rintro e w2 ⟨rfl, hb⟩; have B := Lib.hid (B.out.trans (hb.mono B.out.size)); clear hb)
        | (go_at_call 22; (with_reducible refine (C2.out _ (HC.out.on _ _ HT.out B.out)).mono ?_); rintro e w2 ⟨rfl, hb⟩; have B := Lib.hid (B.out.trans (hb.mono B.out.size)); clear hb)
        | (go_at_call 23; (with_reducible refine (C3.out _ (HC.out.on _ _ HT.out B.out)).mono ?_); rintro e w2 ⟨rfl, hb⟩; have B := Lib.hid (B.out.trans (hb.mono B.out.size)); clear hb)
        | (go_at_call 19; (with_reducible refine (C4.out _ (HC.out.on _ _ HT.out B.out)).mono ?_); rintro e w2 ⟨rfl, hb⟩; have B := Lib.hid (B.out.trans (hb.mono B.out.size)); clear hb)
        | (go_at_call 22; (with_reducible refine (C5.out _ (HC.out.on _ _ HT.out B.out)).mono ?_); rintro e w2 ⟨rfl, hb⟩; have B := Lib.hid (B.out.trans (hb.mono B.out.size)); clear hb))
      all_goals
        go_ret
        exact ⟨rfl, B.out⟩
    · rw [show Ph.next 1 1 = 2 from by decide, show Ph.did 1 1 = true from by decide] at C1
      rw [show Ph.next 1 1 = 2 from by decide, show Ph.open_ 2 = true from by decide] at C5
      rw [show Ph.open_ 1 = true from by decide] at C2
      rw [show Ph.over 1 = false from by decide] at C3
      rw [show Ph.name 1 = ⟨#[114, 117, 110, 110, 105, 110, 103]⟩ from rfl] at C4
      clear hC hT hp he
      go_enter Tryd.func7, Tryd.ntmps7
      go_wp2_with (first
        | (go_at_call 8; (with_reducible refine (L1.out _ HT.out).mono ?_); rintro e w1 ⟨rfl, hb⟩; have B := Lib.hid hb; clear hb)
        | (go_at_call 9; (with_reducible refine (C1.out _ (HC.out.on _ _ HT.out B.out)).mono ?_); rintro e w2 ⟨rfl, hb⟩; have B := Lib.hid (B.out.trans (hb.mono B.out.size)); clear hb)
        | (go_at_call 22; (with_reducible refine (C2.out _ (HC.out.on _ _ HT.out B.out)).mono ?_); rintro e w2 ⟨rfl, hb⟩; have B := Lib.hid (B.out.trans (hb.mono B.out.size)); clear hb)
        | (go_at_call 23; (with_reducible refine (C3.out _ (HC.out.on _ _ HT.out B.out)).mono ?_); rintro e w2 ⟨rfl, hb⟩; have B := Lib.hid (B.out.trans (hb.mono B.out.size)); clear hb)
        | (go_at_call 19; (with_reducible refine (C4.out _ (HC.out.on _ _ HT.out B.out)).mono ?_); rintro e w2 ⟨rfl, hb⟩; have B := Lib.hid (B.out.trans (hb.mono B.out.size)); clear hb)
        | (go_at_call 22; (with_reducible refine (C5.out _ (HC.out.on _ _ HT.out B.out)).mono ?_); rintro e w2 ⟨rfl, hb⟩; have B := Lib.hid (B.out.trans (hb.mono B.out.size)); clear hb))
      all_goals
        go_ret
        exact ⟨rfl, B.out⟩
    · rw [show Ph.next 2 2 = 1 from by decide, show Ph.did 2 2 = true from by decide] at C1
      rw [show Ph.next 2 2 = 1 from by decide, show Ph.open_ 1 = true from by decide] at C5
      rw [show Ph.open_ 2 = true from by decide] at C2
      rw [show Ph.over 2 = false from by decide] at C3
      rw [show Ph.name 2 = ⟨#[112, 97, 117, 115, 101, 100]⟩ from rfl] at C4
      clear hC hT hp he
      go_enter Tryd.func7, Tryd.ntmps7
      go_wp2_with (first
        | (go_at_call 8; (with_reducible refine (L1.out _ HT.out).mono ?_); rintro e w1 ⟨rfl, hb⟩; have B := Lib.hid hb; clear hb)
        | (go_at_call 9; (with_reducible refine (C1.out _ (HC.out.on _ _ HT.out B.out)).mono ?_); rintro e w2 ⟨rfl, hb⟩; have B := Lib.hid (B.out.trans (hb.mono B.out.size)); clear hb)
        | (go_at_call 22; (with_reducible refine (C2.out _ (HC.out.on _ _ HT.out B.out)).mono ?_); rintro e w2 ⟨rfl, hb⟩; have B := Lib.hid (B.out.trans (hb.mono B.out.size)); clear hb)
        | (go_at_call 23; (with_reducible refine (C3.out _ (HC.out.on _ _ HT.out B.out)).mono ?_); rintro e w2 ⟨rfl, hb⟩; have B := Lib.hid (B.out.trans (hb.mono B.out.size)); clear hb)
        | (go_at_call 19; (with_reducible refine (C4.out _ (HC.out.on _ _ HT.out B.out)).mono ?_); rintro e w2 ⟨rfl, hb⟩; have B := Lib.hid (B.out.trans (hb.mono B.out.size)); clear hb)
        | (go_at_call 22; (with_reducible refine (C5.out _ (HC.out.on _ _ HT.out B.out)).mono ?_); rintro e w2 ⟨rfl, hb⟩; have B := Lib.hid (B.out.trans (hb.mono B.out.size)); clear hb))
      all_goals
        go_ret
        exact ⟨rfl, B.out⟩
    · rw [show Ph.next 1 3 = 1 from by decide, show Ph.did 1 3 = true from by decide] at C1
      rw [show Ph.next 1 3 = 1 from by decide, show Ph.open_ 1 = true from by decide] at C5
      rw [show Ph.open_ 1 = true from by decide] at C2
      rw [show Ph.over 1 = false from by decide] at C3
      rw [show Ph.name 1 = ⟨#[114, 117, 110, 110, 105, 110, 103]⟩ from rfl] at C4
      clear hC hT hp he
      go_enter Tryd.func7, Tryd.ntmps7
      go_wp2_with (first
        | (go_at_call 8; (with_reducible refine (L1.out _ HT.out).mono ?_); rintro e w1 ⟨rfl, hb⟩; have B := Lib.hid hb; clear hb)
        | (go_at_call 9; (with_reducible refine (C1.out _ (HC.out.on _ _ HT.out B.out)).mono ?_); rintro e w2 ⟨rfl, hb⟩; have B := Lib.hid (B.out.trans (hb.mono B.out.size)); clear hb)
        | (go_at_call 22; (with_reducible refine (C2.out _ (HC.out.on _ _ HT.out B.out)).mono ?_); rintro e w2 ⟨rfl, hb⟩; have B := Lib.hid (B.out.trans (hb.mono B.out.size)); clear hb)
        | (go_at_call 23; (with_reducible refine (C3.out _ (HC.out.on _ _ HT.out B.out)).mono ?_); rintro e w2 ⟨rfl, hb⟩; have B := Lib.hid (B.out.trans (hb.mono B.out.size)); clear hb)
        | (go_at_call 19; (with_reducible refine (C4.out _ (HC.out.on _ _ HT.out B.out)).mono ?_); rintro e w2 ⟨rfl, hb⟩; have B := Lib.hid (B.out.trans (hb.mono B.out.size)); clear hb)
        | (go_at_call 22; (with_reducible refine (C5.out _ (HC.out.on _ _ HT.out B.out)).mono ?_); rintro e w2 ⟨rfl, hb⟩; have B := Lib.hid (B.out.trans (hb.mono B.out.size)); clear hb))
      all_goals
        go_ret
        exact ⟨rfl, B.out⟩
    · rw [show Ph.next 1 4 = 4 from by decide, show Ph.did 1 4 = true from by decide] at C1
      rw [show Ph.next 1 4 = 4 from by decide, show Ph.open_ 4 = true from by decide] at C5
      rw [show Ph.open_ 1 = true from by decide] at C2
      rw [show Ph.over 1 = false from by decide] at C3
      rw [show Ph.name 1 = ⟨#[114, 117, 110, 110, 105, 110, 103]⟩ from rfl] at C4
      clear hC hT hp he
      go_enter Tryd.func7, Tryd.ntmps7
      go_wp2_with (first
        | (go_at_call 8; (with_reducible refine (L1.out _ HT.out).mono ?_); rintro e w1 ⟨rfl, hb⟩; have B := Lib.hid hb; clear hb)
        | (go_at_call 9; (with_reducible refine (C1.out _ (HC.out.on _ _ HT.out B.out)).mono ?_); rintro e w2 ⟨rfl, hb⟩; have B := Lib.hid (B.out.trans (hb.mono B.out.size)); clear hb)
        | (go_at_call 22; (with_reducible refine (C2.out _ (HC.out.on _ _ HT.out B.out)).mono ?_); rintro e w2 ⟨rfl, hb⟩; have B := Lib.hid (B.out.trans (hb.mono B.out.size)); clear hb)
        | (go_at_call 23; (with_reducible refine (C3.out _ (HC.out.on _ _ HT.out B.out)).mono ?_); rintro e w2 ⟨rfl, hb⟩; have B := Lib.hid (B.out.trans (hb.mono B.out.size)); clear hb)
        | (go_at_call 19; (with_reducible refine (C4.out _ (HC.out.on _ _ HT.out B.out)).mono ?_); rintro e w2 ⟨rfl, hb⟩; have B := Lib.hid (B.out.trans (hb.mono B.out.size)); clear hb)
        | (go_at_call 22; (with_reducible refine (C5.out _ (HC.out.on _ _ HT.out B.out)).mono ?_); rintro e w2 ⟨rfl, hb⟩; have B := Lib.hid (B.out.trans (hb.mono B.out.size)); clear hb))
      all_goals
        go_ret
        exact ⟨rfl, B.out⟩
    · rw [show Ph.next 1 5 = 4 from by decide, show Ph.did 1 5 = true from by decide] at C1
      rw [show Ph.next 1 5 = 4 from by decide, show Ph.open_ 4 = true from by decide] at C5
      rw [show Ph.open_ 1 = true from by decide] at C2
      rw [show Ph.over 1 = false from by decide] at C3
      rw [show Ph.name 1 = ⟨#[114, 117, 110, 110, 105, 110, 103]⟩ from rfl] at C4
      clear hC hT hp he
      go_enter Tryd.func7, Tryd.ntmps7
      go_wp2_with (first
        | (go_at_call 8; (with_reducible refine (L1.out _ HT.out).mono ?_); rintro e w1 ⟨rfl, hb⟩; have B := Lib.hid hb; clear hb)
        | (go_at_call 9; (with_reducible refine (C1.out _ (HC.out.on _ _ HT.out B.out)).mono ?_); rintro e w2 ⟨rfl, hb⟩; have B := Lib.hid (B.out.trans (hb.mono B.out.size)); clear hb)
        | (go_at_call 22; (with_reducible refine (C2.out _ (HC.out.on _ _ HT.out B.out)).mono ?_); rintro e w2 ⟨rfl, hb⟩; have B := Lib.hid (B.out.trans (hb.mono B.out.size)); clear hb)
        | (go_at_call 23; (with_reducible refine (C3.out _ (HC.out.on _ _ HT.out B.out)).mono ?_); rintro e w2 ⟨rfl, hb⟩; have B := Lib.hid (B.out.trans (hb.mono B.out.size)); clear hb)
        | (go_at_call 19; (with_reducible refine (C4.out _ (HC.out.on _ _ HT.out B.out)).mono ?_); rintro e w2 ⟨rfl, hb⟩; have B := Lib.hid (B.out.trans (hb.mono B.out.size)); clear hb)
        | (go_at_call 22; (with_reducible refine (C5.out _ (HC.out.on _ _ HT.out B.out)).mono ?_); rintro e w2 ⟨rfl, hb⟩; have B := Lib.hid (B.out.trans (hb.mono B.out.size)); clear hb))
      all_goals
        go_ret
        exact ⟨rfl, B.out⟩
    · rw [show Ph.next 1 6 = 4 from by decide, show Ph.did 1 6 = true from by decide] at C1
      rw [show Ph.next 1 6 = 4 from by decide, show Ph.open_ 4 = true from by decide] at C5
      rw [show Ph.open_ 1 = true from by decide] at C2
      rw [show Ph.over 1 = false from by decide] at C3
      rw [show Ph.name 1 = ⟨#[114, 117, 110, 110, 105, 110, 103]⟩ from rfl] at C4
      clear hC hT hp he
      go_enter Tryd.func7, Tryd.ntmps7
      go_wp2_with (first
        | (go_at_call 8; (with_reducible refine (L1.out _ HT.out).mono ?_); rintro e w1 ⟨rfl, hb⟩; have B := Lib.hid hb; clear hb)
        | (go_at_call 9; (with_reducible refine (C1.out _ (HC.out.on _ _ HT.out B.out)).mono ?_); rintro e w2 ⟨rfl, hb⟩; have B := Lib.hid (B.out.trans (hb.mono B.out.size)); clear hb)
        | (go_at_call 22; (with_reducible refine (C2.out _ (HC.out.on _ _ HT.out B.out)).mono ?_); rintro e w2 ⟨rfl, hb⟩; have B := Lib.hid (B.out.trans (hb.mono B.out.size)); clear hb)
        | (go_at_call 23; (with_reducible refine (C3.out _ (HC.out.on _ _ HT.out B.out)).mono ?_); rintro e w2 ⟨rfl, hb⟩; have B := Lib.hid (B.out.trans (hb.mono B.out.size)); clear hb)
        | (go_at_call 19; (with_reducible refine (C4.out _ (HC.out.on _ _ HT.out B.out)).mono ?_); rintro e w2 ⟨rfl, hb⟩; have B := Lib.hid (B.out.trans (hb.mono B.out.size)); clear hb)
        | (go_at_call 22; (with_reducible refine (C5.out _ (HC.out.on _ _ HT.out B.out)).mono ?_); rintro e w2 ⟨rfl, hb⟩; have B := Lib.hid (B.out.trans (hb.mono B.out.size)); clear hb))
      all_goals
        go_ret
        exact ⟨rfl, B.out⟩
    · rw [show Ph.next 2 6 = 4 from by decide, show Ph.did 2 6 = true from by decide] at C1
      rw [show Ph.next 2 6 = 4 from by decide, show Ph.open_ 4 = true from by decide] at C5
      rw [show Ph.open_ 2 = true from by decide] at C2
      rw [show Ph.over 2 = false from by decide] at C3
      rw [show Ph.name 2 = ⟨#[112, 97, 117, 115, 101, 100]⟩ from rfl] at C4
      clear hC hT hp he
      go_enter Tryd.func7, Tryd.ntmps7
      go_wp2_with (first
        | (go_at_call 8; (with_reducible refine (L1.out _ HT.out).mono ?_); rintro e w1 ⟨rfl, hb⟩; have B := Lib.hid hb; clear hb)
        | (go_at_call 9; (with_reducible refine (C1.out _ (HC.out.on _ _ HT.out B.out)).mono ?_); rintro e w2 ⟨rfl, hb⟩; have B := Lib.hid (B.out.trans (hb.mono B.out.size)); clear hb)
        | (go_at_call 22; (with_reducible refine (C2.out _ (HC.out.on _ _ HT.out B.out)).mono ?_); rintro e w2 ⟨rfl, hb⟩; have B := Lib.hid (B.out.trans (hb.mono B.out.size)); clear hb)
        | (go_at_call 23; (with_reducible refine (C3.out _ (HC.out.on _ _ HT.out B.out)).mono ?_); rintro e w2 ⟨rfl, hb⟩; have B := Lib.hid (B.out.trans (hb.mono B.out.size)); clear hb)
        | (go_at_call 19; (with_reducible refine (C4.out _ (HC.out.on _ _ HT.out B.out)).mono ?_); rintro e w2 ⟨rfl, hb⟩; have B := Lib.hid (B.out.trans (hb.mono B.out.size)); clear hb)
        | (go_at_call 22; (with_reducible refine (C5.out _ (HC.out.on _ _ HT.out B.out)).mono ?_); rintro e w2 ⟨rfl, hb⟩; have B := Lib.hid (B.out.trans (hb.mono B.out.size)); clear hb))
      all_goals
        go_ret
        exact ⟨rfl, B.out⟩
    · rw [show Ph.next 1 7 = 3 from by decide, show Ph.did 1 7 = true from by decide] at C1
      rw [show Ph.next 1 7 = 3 from by decide, show Ph.open_ 3 = false from by decide] at C5
      rw [show Ph.open_ 1 = true from by decide] at C2
      rw [show Ph.over 1 = false from by decide] at C3
      rw [show Ph.name 1 = ⟨#[114, 117, 110, 110, 105, 110, 103]⟩ from rfl] at C4
      clear hC hT hp he
      go_enter Tryd.func7, Tryd.ntmps7
      go_wp2_with (first
        | (go_at_call 8; (with_reducible refine (L1.out _ HT.out).mono ?_); rintro e w1 ⟨rfl, hb⟩; have B := Lib.hid hb; clear hb)
        | (go_at_call 9; (with_reducible refine (C1.out _ (HC.out.on _ _ HT.out B.out)).mono ?_); rintro e w2 ⟨rfl, hb⟩; have B := Lib.hid (B.out.trans (hb.mono B.out.size)); clear hb)
        | (go_at_call 22; (with_reducible refine (C2.out _ (HC.out.on _ _ HT.out B.out)).mono ?_); rintro e w2 ⟨rfl, hb⟩; have B := Lib.hid (B.out.trans (hb.mono B.out.size)); clear hb)
        | (go_at_call 23; (with_reducible refine (C3.out _ (HC.out.on _ _ HT.out B.out)).mono ?_); rintro e w2 ⟨rfl, hb⟩; have B := Lib.hid (B.out.trans (hb.mono B.out.size)); clear hb)
        | (go_at_call 19; (with_reducible refine (C4.out _ (HC.out.on _ _ HT.out B.out)).mono ?_); rintro e w2 ⟨rfl, hb⟩; have B := Lib.hid (B.out.trans (hb.mono B.out.size)); clear hb)
        | (go_at_call 22; (with_reducible refine (C5.out _ (HC.out.on _ _ HT.out B.out)).mono ?_); rintro e w2 ⟨rfl, hb⟩; have B := Lib.hid (B.out.trans (hb.mono B.out.size)); clear hb))
      all_goals
        go_ret
        exact ⟨rfl, B.out⟩
    · rw [show Ph.next 4 8 = 5 from by decide, show Ph.did 4 8 = true from by decide] at C1
      rw [show Ph.next 4 8 = 5 from by decide, show Ph.open_ 5 = false from by decide] at C5
      rw [show Ph.open_ 4 = true from by decide] at C2
      rw [show Ph.over 4 = false from by decide] at C3
      rw [show Ph.name 4 = ⟨#[114, 111, 108, 108, 105, 110, 103, 45, 98, 97, 99, 107]⟩ from rfl] at C4
      clear hC hT hp he
      go_enter Tryd.func7, Tryd.ntmps7
      go_wp2_with (first
        | (go_at_call 8; (with_reducible refine (L1.out _ HT.out).mono ?_); rintro e w1 ⟨rfl, hb⟩; have B := Lib.hid hb; clear hb)
        | (go_at_call 9; (with_reducible refine (C1.out _ (HC.out.on _ _ HT.out B.out)).mono ?_); rintro e w2 ⟨rfl, hb⟩; have B := Lib.hid (B.out.trans (hb.mono B.out.size)); clear hb)
        | (go_at_call 22; (with_reducible refine (C2.out _ (HC.out.on _ _ HT.out B.out)).mono ?_); rintro e w2 ⟨rfl, hb⟩; have B := Lib.hid (B.out.trans (hb.mono B.out.size)); clear hb)
        | (go_at_call 23; (with_reducible refine (C3.out _ (HC.out.on _ _ HT.out B.out)).mono ?_); rintro e w2 ⟨rfl, hb⟩; have B := Lib.hid (B.out.trans (hb.mono B.out.size)); clear hb)
        | (go_at_call 19; (with_reducible refine (C4.out _ (HC.out.on _ _ HT.out B.out)).mono ?_); rintro e w2 ⟨rfl, hb⟩; have B := Lib.hid (B.out.trans (hb.mono B.out.size)); clear hb)
        | (go_at_call 22; (with_reducible refine (C5.out _ (HC.out.on _ _ HT.out B.out)).mono ?_); rintro e w2 ⟨rfl, hb⟩; have B := Lib.hid (B.out.trans (hb.mono B.out.size)); clear hb))
      all_goals
        go_ret
        exact ⟨rfl, B.out⟩
end Go.Proofs.YtbimacagfobdbaaDoor
