/-
  The walks of layer 11's laws, over any package phase that keeps the contracts. Written by wip/tools/gen/ph.py. No condition.
-/
import Derived.Test.YtbimacagfobdbaaDoorPhC
import Derived.Test.YtbimacagfobdbaaDoorPhRef2
import Derived.Deep.Cut
namespace Go.Proofs.YtbimacagfobdbaaDoor
open Go.RowKit
set_option linter.unusedSimpArgs false
set_option linter.unusedVariables false

theorem to_in (p e : Int) : -1 ≤ Ph.to_ p e ∧ Ph.to_ p e ≤ 5 := by
  unfold Ph.to_
  repeat' split
  all_goals omega
theorem SlI.drop {w : World} {A : Option Addr} {n c : Nat} {l : List Int} (h : SlI w A n c l) {k : Nat} (hk : k ≤ n) : SlI w (A.map (fun x => x.add k)) (n - k) (c - k) (l.drop k) :=
  ⟨fun hl => by
    rw [List.length_drop] at hl
    obtain ⟨b, o, rfl, h1, h2⟩ := h.rd (by omega)
    refine ⟨b, o + k, by simp [Addr.add], h1, fun j hj => ?_⟩
    rw [List.length_drop] at hj
    rw [show o + k + j = o + (k + j) from by omega, h2 (k + j) (by omega), getD_at (by omega), getD_at (by rw [List.length_drop]; omega), List.getElem_drop], by rw [List.length_drop, ← h.len], by have := h.cap; omega, by have := h.max; omega⟩
theorem SlI.dropAll {w : World} {A : Option Addr} {n c : Nat} {l : List Int} (h : SlI w A n c l) {k : Nat} (hk : k ≤ n) (hc : c = k) : SlI w A (n - k) (c - k) (l.drop k) :=
  ⟨fun hl => by rw [List.length_drop, ← h.len] at hl; have := h.cap; omega, by rw [List.length_drop, ← h.len], by have := h.cap; omega, by have := h.max; omega⟩
theorem i64_next {p : Int} (h : i64P p) (e : Int) : i64P (Ph.next p e) := by
  unfold Ph.next
  split
  · have := to_in p e; unfold i64P; omega
  · exact h
theorem i64_walk {p : Int} (h : i64P p) (l : List Int) : i64P (Ph.walk p l) := by
  induction l generalizing p with
  | nil => exact h
  | cons x l ih => exact ih (i64_next h x)
set_option maxRecDepth 100000 in
set_option maxHeartbeats 3200000 in
theorem phnext_walk {T : World → Prop} (hC : PC T) (p ev to : Int) (hp : i64P p) (he : i64P ev) (ht : i64P to) (w : World) (hT : T w) : Calls Tryd.prog 3 #[.int .i64 p, .int .i64 ev, .int .i64 to] w (PhRet w (.bool true)) := by
  have HC := Lib.hid hC
  have HT := Lib.hid hT
  have L1 := Lib.hid (fun W h => phlives_any hC W h)
  have C1 := Lib.hid (fun W h => hC.next W p ev h hp he)
  have C2 := Lib.hid (fun W => rphnext_any p ev W)
  have C3 := Lib.hid (fun W h => hC.between W p to h hp ht)
  have C4 := Lib.hid (fun W => rphbetween_any p to W)
  have LB : Hid ((Ph.between p to).length ≤ 1000000) := by have := Ph.evs_len p to 9; rw [Ph.between_evs]; show _ ≤ _; omega
  clear hC hT hp he ht
  generalize Ph.next p ev = nx at *
  generalize Ph.did p ev = dd at *
  generalize Ph.between p to = lb at *
  go_enter Tryd.func3, Tryd.ntmps3
  go_wp2_with (first
    | (go_at_call 8; (with_reducible refine (L1.out _ HT.out).mono ?_); rintro e w1 ⟨rfl, hb⟩; have B1 := Lib.hid hb; clear hb)
    | (go_at_call 9; (with_reducible refine (C1.out _ (HC.out.on _ _ HT.out B1.out)).mono ?_); rintro e w2 ⟨rfl, hb⟩; have B2 := Lib.hid (B1.out.trans (hb.mono B1.out.size)); clear hb)
    | (go_at_call 10; (with_reducible refine (C2.out _).mono ?_); rintro e w3 ⟨rfl, rfl⟩)
    | (go_at_call 12; (with_reducible refine (C3.out _ (HC.out.on _ _ HT.out B2.out)).mono ?_); rintro e w4 ⟨A4, c4, rfl, hs, hb⟩; have S4 := Lib.hid hs; have B4 := Lib.hid (B2.out.trans (hb.mono B2.out.size)); clear hs hb)
    | (go_at_call 13; (with_reducible refine (C4.out _).mono ?_); rintro e w5 ⟨A5, c5, rfl, hs, hb⟩; have S5 := Lib.hid hs; have S4 := Lib.hid (S4.out.on hb); have B5 := Lib.hid (B4.out.trans (hb.mono B4.out.size)); clear hs hb)
    | (go_at_call 11; (with_reducible refine (same_any lb.length c4 c5 A4 A5 lb _ S4.out S5.out LB.out).mono ?_); rintro e w6 ⟨rfl, d, rfl⟩; have B6 := Lib.hid (below_drewN B5.out d)))
  go_ret
  exact ⟨rfl, B6.out⟩
set_option maxRecDepth 100000 in
set_option maxHeartbeats 3200000 in
theorem phwalks_walk {T : World → Prop} (hC : PC T) (p : Int) (n c : Nat) (A : Option Addr) (l : List Int) (at_ : Int) (hp : i64P p) (hl : ∀ x ∈ l, i64P x) (w : World) (hT : T w) (h : SlI w A n c l) : Calls Tryd.prog 4 #[.int .i64 p, .slice A n c, .int .i64 at_] w (PhRet w (.bool true)) := by
  have HC := Lib.hid hC
  have HT := Lib.hid hT
  have HP := Lib.hid hp
  have L1 := Lib.hid (fun W h => phlives_any hC W h)
  have SL := Lib.hid (h.take 60)
  have hcp := h.cap
  have hmx := h.max
  unfold maxLen at hmx
  have hm1 : min (n : Int) 60 = ((min n 60 : Nat) : Int) := by omega
  have hl1 : ((min n 60 : Nat) : Int) ≤ (c : Int) := by omega
  have M60 : Hid (min n 60 ≤ 60) := Nat.min_le_right _ _
  have ML : Hid (min n 60 = (l.take 60).length) := SL.out.len
  have HI : Hid (∀ x ∈ l.take 60, i64P x) := fun x hx => hl x (List.mem_of_mem_take hx)
  generalize min n 60 = m at *
  generalize l.take 60 = lt at *
  have C1 := Lib.hid (fun W hb h => hC.walk W p A m c lt h hp HI.out (SL.out.on (w' := W) hb) (by have := M60.out; omega))
  have C2 := Lib.hid (fun W hb => rphwalk_any p m c A lt W (SL.out.on (w' := W) hb) (by have := M60.out; omega))
  obtain ⟨k, hk, hkm⟩ := mod_at at_ (m + 1) (by have := M60.out; omega) (by omega)
  have HKM := Lib.hid hkm
  have hw1 : (IntKind.u64.wrap ((m : Int) + 1)) = ((m + 1 : Nat) : Int) := by rw [IntKind.wrap_u64]; have := M60.out; omega
  have EA := Lib.hid (Ph.walk_append p (lt.take k) (lt.drop k))
  have EN := Lib.hid (Ph.walkN_append p (lt.take k) (lt.drop k))
  rw [List.take_append_drop] at EA EN
  have ZN : Hid (Ph.walkN p (lt.take k) ≤ 60 ∧ Ph.walkN (Ph.walk p (lt.take k)) (lt.drop k) ≤ 60) := by
    have h1 := Ph.walkN_le p (lt.take k)
    have h2 := Ph.walkN_le (Ph.walk p (lt.take k)) (lt.drop k)
    rw [List.length_take] at h1
    rw [List.length_drop] at h2
    have := ML.out
    have := M60.out
    exact ⟨by omega, by omega⟩
  have IQ : Hid (i64P (Ph.walk p (lt.take k))) := i64_walk hp _
  have HMX := Lib.hid hmx
  have HK := Lib.hid hk
  clear hC hT hp hl h hmx hkm hk
  go_enter Tryd.func4, Tryd.ntmps4
  go_upto_region 7 with (first
    | (go_at_call 8; (with_reducible refine (L1.out _ HT.out).mono ?_); rintro e w1 ⟨rfl, hb⟩; have B1 := Lib.hid hb; clear hb)
    | (go_at_call 14; (with_reducible refine (C1.out _ B1.out (HC.out.on _ _ HT.out B1.out)).mono ?_); rintro e w2 ⟨rfl, hb⟩; have B2 := Lib.hid (B1.out.trans (hb.mono B1.out.size)); clear hb)
    | (go_at_call 15; (with_reducible refine (C2.out _ B2.out).mono ?_); rintro e w3 ⟨rfl, rfl⟩))
  have hk2 : wrap64 ((IntKind.u64.wrap at_).tmod ((m : Int) + 1)) = (k : Int) := by have := HK.out; simpa using this
  rw [hk2]
  have hkm := HKM.out
  have hkc : ((k : Nat) : Int) ≤ (c : Int) := by omega
  have SK := Lib.hid (SL.out.take k)
  have hmk : min m k = k := by omega
  rw [hmk] at SK
  have C3 := Lib.hid (fun W hb h => HC.out.walk W p A k c (lt.take k) h HP.out (fun x hx => HI.out x (List.mem_of_mem_take hx)) (SK.out.on (w' := W) hb) (by have := M60.out; omega))
  by_cases hck : c = k
  · subst hck
    have DK := Lib.hid (SL.out.dropAll (k := c) (by omega) rfl)
    rw [Nat.sub_self] at DK
    have C4 := Lib.hid (fun W hb h => HC.out.walk W (Ph.walk p (lt.take c)) A (m - c) 0 (lt.drop c) h IQ.out (fun x hx => HI.out x (List.mem_of_mem_drop hx)) (DK.out.on (w' := W) hb) (by have := M60.out; omega))
    go_upto_region 9 with (first
      | (go_at_call 14; (with_reducible refine (C3.out _ B2.out (HC.out.on _ _ HT.out B2.out)).mono ?_); rintro e w4 ⟨rfl, hb⟩; have B4 := Lib.hid (B2.out.trans (hb.mono B2.out.size)); clear hb)
      | (go_at_call 14; (with_reducible refine (C4.out _ B4.out (HC.out.on _ _ HT.out B4.out)).mono ?_); rintro e w5 ⟨rfl, hb⟩; have B5 := Lib.hid (B4.out.trans (hb.mono B4.out.size)); clear hb))
    have ea := EA.out
    have en := EN.out
    have zn := ZN.out
    generalize Ph.walk p (lt.take c) = q1 at *
    generalize Ph.walkN p (lt.take c) = m1 at *
    generalize Ph.walk q1 (lt.drop c) = q2 at *
    generalize Ph.walkN q1 (lt.drop c) = m2 at *
    rw [ea, en]
    clear ea en EA EN
    have hz1 := zn.1
    have hz2 := zn.2
    have hcast : ((m1 + m2 : Nat) : Int) = (m1 : Int) + (m2 : Int) := by omega
    clear zn
    go_wp2_with fail
    go_ret
    exact ⟨rfl, B5.out⟩
  · have DK := Lib.hid (SL.out.drop (k := k) (by omega))
    have C4 := Lib.hid (fun W hb h => HC.out.walk W (Ph.walk p (lt.take k)) (A.map (fun x => x.add k)) (m - k) (c - k) (lt.drop k) h IQ.out (fun x hx => HI.out x (List.mem_of_mem_drop hx)) (DK.out.on (w' := W) hb) (by have := M60.out; omega))
    go_upto_region 9 with (first
      | (go_at_call 14; (with_reducible refine (C3.out _ B2.out (HC.out.on _ _ HT.out B2.out)).mono ?_); rintro e w4 ⟨rfl, hb⟩; have B4 := Lib.hid (B2.out.trans (hb.mono B2.out.size)); clear hb)
      | (go_at_call 14; (with_reducible refine (C4.out _ B4.out (HC.out.on _ _ HT.out B4.out)).mono ?_); rintro e w5 ⟨rfl, hb⟩; have B5 := Lib.hid (B4.out.trans (hb.mono B4.out.size)); clear hb))
    have ea := EA.out
    have en := EN.out
    have zn := ZN.out
    generalize Ph.walk p (lt.take k) = q1 at *
    generalize Ph.walkN p (lt.take k) = m1 at *
    generalize Ph.walk q1 (lt.drop k) = q2 at *
    generalize Ph.walkN q1 (lt.drop k) = m2 at *
    rw [ea, en]
    clear ea en EA EN
    have hz1 := zn.1
    have hz2 := zn.2
    have hcast : ((m1 + m2 : Nat) : Int) = (m1 : Int) + (m2 : Int) := by omega
    clear zn
    go_wp2_with fail
    go_ret
    exact ⟨rfl, B5.out⟩
end Go.Proofs.YtbimacagfobdbaaDoor
