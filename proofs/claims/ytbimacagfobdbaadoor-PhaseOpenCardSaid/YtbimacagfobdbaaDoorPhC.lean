/-
  What is asked of package phase: the list of its calls' contracts, told of worlds in which its tables lie; the document's example. No condition.
-/
import Derived.Test.YtbimacagfobdbaaDoorPhRef1
namespace Go.Proofs.YtbimacagfobdbaaDoor
open Go.RowKit
set_option linter.unusedSimpArgs false
set_option linter.unusedVariables false

structure PC (T : World → Prop) : Prop where
  on : ∀ w w', T w → Below w.heap.size w w' → T w'
  next : ∀ W p e, T W → i64P p → i64P e → Calls Tryd.prog 9 #[.int .i64 p, .int .i64 e] W (PhPost W (.int .i64 (Ph.next p e)) (.bool (Ph.did p e)))
  walk : ∀ W p A n c l, T W → i64P p → (∀ x ∈ l, i64P x) → SlI W A n c l → n ≤ 1000 → Calls Tryd.prog 14 #[.int .i64 p, .slice A n c] W (PhPost W (.int .i64 (Ph.walk p l)) (.int .i64 (Ph.walkN p l : Nat)))
  name : ∀ W p, T W → i64P p → Calls Tryd.prog 19 #[.int .i64 p] W (PhRet W (.string (Ph.name p)))
  word : ∀ W e, T W → i64P e → Calls Tryd.prog 18 #[.int .i64 e] W (PhRet W (.string (Ph.word e)))
  of : ∀ W t, T W → t.size ≤ maxLen → Calls Tryd.prog 16 #[.string t] W (PhPost W (.int .i64 (Ph.of t)) (.bool (Ph.isWord t)))
  opn : ∀ W p, T W → i64P p → Calls Tryd.prog 22 #[.int .i64 p] W (PhRet W (.bool (Ph.open_ p)))
  over : ∀ W p, T W → i64P p → Calls Tryd.prog 23 #[.int .i64 p] W (PhRet W (.bool (Ph.over p)))
  between : ∀ W p t, T W → i64P p → i64P t → Calls Tryd.prog 12 #[.int .i64 p, .int .i64 t] W (PhList W (Ph.between p t))
theorem i64_small {n : Int} (h : -1000 ≤ n ∧ n ≤ 1000) : i64P n := by unfold i64P; omega
theorem phlives_any {T : World → Prop} (hC : PC T) (w : World) (ht : T w) : Calls Tryd.prog 8 #[] w (PhRet w (.bool true)) := by
  have S1 : Hid (SlI (w.alloc (.cells #[.int .i64 0, .int .i64 6, .int .i64 8] 3)) (some ⟨w.heap.size, 0, none⟩) 3 3 [0, 6, 8]) := by
    refine ⟨fun _ => ⟨w.heap.size, 0, rfl, by simp, fun j hj => ?_⟩, rfl, Nat.le_refl _, by unfold maxLen; omega⟩
    rw [cell_of_row _ w.heap.size (0 + j) _ _ _ (heap_alloc_new w _)]
    rcases j with _ | _ | _ | j
    all_goals first | rfl | (simp at hj; omega)
  have B1 := Lib.hid ((Below.refl w.heap.size w).alloc (Nat.le_refl _) (.cells #[.int .i64 0, .int .i64 6, .int .i64 8] 3))
  have CW := Lib.hid (hC.walk _ 0 _ _ _ _ (hC.on _ _ ht B1.out) (i64_small (by omega)) (fun x hx => i64_small (by simp at hx; omega)) S1.out (by omega))
  have e1 : Ph.walk 0 [0, 6, 8] = 5 := by decide
  have e2 : Ph.walkN 0 [0, 6, 8] = 3 := by decide
  rw [e1, e2] at CW
  have CN := Lib.hid (fun W h => hC.name W 5 h (i64_small (by omega)))
  have CE := Lib.hid (fun W h => hC.word W 4 h (i64_small (by omega)))
  have e3 : Ph.name 5 = ⟨#[114, 111, 108, 108, 101, 100, 45, 98, 97, 99, 107]⟩ := rfl
  have e4 : Ph.word 4 = ⟨#[104, 101, 97, 108, 116, 104]⟩ := rfl
  rw [e3] at CN
  rw [e4] at CE
  have HC := Lib.hid hC
  have HT := Lib.hid ht
  clear e1 e2 e3 e4 hC ht
  go_enter Tryd.func8, Tryd.ntmps8
  go_wp2_with (first
    | (go_at_call 14; (with_reducible refine CW.out.mono ?_); rintro e w1 ⟨rfl, hb⟩; have B2 := Lib.hid (B1.out.trans (hb.mono B1.out.size)); clear hb)
    | (go_at_call 19; (with_reducible refine (CN.out _ (HC.out.on _ _ HT.out B2.out)).mono ?_); rintro e w2 ⟨rfl, hb⟩; have B3 := Lib.hid (B2.out.trans (hb.mono B2.out.size)); clear hb)
    | (go_at_call 18; (with_reducible refine (CE.out _ (HC.out.on _ _ HT.out B3.out)).mono ?_); rintro e w3 ⟨rfl, hb⟩; have B4 := Lib.hid (B3.out.trans (hb.mono B3.out.size)); clear hb))
  go_ret
  exact ⟨rfl, B4.out⟩
end Go.Proofs.YtbimacagfobdbaaDoor
