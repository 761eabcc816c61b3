/-
  Package kv: Since and Keys. No condition.
-/
import Derived.Test.YtmkfiiheeplmgaaKd1
import Derived.Test.YtmkfiiheeplmgaaKvSort
import Derived.Test.YtmkfiiheeplmgaaKvRef2
import Derived.Test.YtmkfiiheeplmgaaShelf
import Derived.Laws.IdiomRangeMap
namespace Go.Proofs.Ytmkfiiheeplmgaa
open Go.RowKit Go.Deep Go.Maps

theorem sort_laid : SortC Try.prog 31 := ⟨Try.slices_Sort_string, Try.slices_Sort_string_none none 0⟩
theorem Z_own {w w0 : World} {B : Nat} {v : Value} {l : List ByteArray} (h : OwnR 1 ETx 9 w0 w B v l) : w.ownsRow B 9 1 v l.length (h.choose) := h.choose_spec.1
theorem grown_below_none {w w' : World} (h : w.grownBy w' none) : Below w.heap.size w w' := (Below.refl w.heap.size w).grown h (Nat.le_refl _) (fun k hk => by cases hk)
def mkK (x : ByteArray) : Value := .string x
def mkV (c : ByteArray × Int) : Value := .agg #[.string c.1, .int .i64 c.2]
theorem invK (key : Value) (z : Lit) (h : keyOf Try.prog 9 key = some z) : ∃ x, key = mkK x := by
  obtain ⟨x, rfl, _⟩ := Maps.keyOf_str Try.underlying9 h
  exact ⟨ofL x, rfl⟩
theorem key_is {x : ByteArray} {z : Lit} (h : keyOf Try.prog 9 (.string x) = some z) : z = kl x ∧ x.size ≤ maxLen := by
  obtain ⟨y, hy, rfl, hl⟩ := Maps.keyOf_str Try.underlying9 h
  have : x = ofL y := by
    have h1 : Value.string x = Value.string (ofL y) := hy
    injection h1
  subst this
  refine ⟨by unfold kl ofL; simp, ?_⟩
  show (ofL y).data.size ≤ _
  unfold ofL
  simpa using hl
theorem invV (v : Value) (y : DataW Unit × List MemPlace) (h : eR v = some y) : ∃ c, v = mkV c := by
  obtain ⟨s, r, rfl, _⟩ := eR_inv h
  exact ⟨(s, r), rfl⟩
set_option maxHeartbeats 1600000 in
theorem kvsince_some (W : World) (p : Value) (m : Nat) (s : Kv.St) (r : Int) (h : EAt W p (some m) s) : Calls Try.prog 19 #[p, .int .i64 r] W (KTx (Kv.since s r) W) := by
  have G := Lib.hid h.good
  have CE := Lib.hid (kventries_any W p (some m) s h)
  obtain ⟨D, hD, hI⟩ := show MapIs Try.prog 9 W m s.l from h.map
  have HD := Lib.hid hD
  have HI := Lib.hid hI
  have HML : Hid (m < W.heap.size) := h.map.lt
  clear h hD hI
  go_enter Try.func19, Try.ntmps19
  go_wp2_with (first | (go_at_call 30; (with_reducible refine CE.out.mono ?_); rintro e w1 ⟨rfl, hw⟩; subst hw) | (at_range; refine wpList_range_own _ rfl _ _ rfl _ _ (string_keyed Try.underlying9) Try.underlying56 eR m _ D rfl HD.out ?_; intro w0 hrg0 hg0 hs0; have RG0 := Lib.hid hrg0; have G0 := Lib.hid hg0; have S0 := Lib.hid hs0; clear hrg0 hg0 hs0; go_frame))
  have B0 := Lib.hid (grown_below_none G0.out)
  obtain ⟨it, hit⟩ : ∃ it, it = w1.heap.size := ⟨_, rfl⟩
  rw [← hit] at RG0 ⊢
  have HIT := Lib.hid hit
  have MS := Lib.hid HI.out.size
  clear hit
  go_loopw [5] (fun v wr => ∃ left cnt ks, wr.ranges Try.prog 9 eR m it s.l.length D left cnt ∧ OwnTx wr w0.heap.size v ks ∧ Coll s.l r left ks ∧ ks.length + cnt ≤ s.l.length ∧ Below w1.heap.size w1 wr ∧ w0.heap.size ≤ wr.heap.size) (fun _ wr => wr.rangeLeft m it)
  case atStart => exact ⟨_, _, [], RG0.out, OwnR.none_ _ _ _ _, Coll.start HI.out r, by rw [MS.out]; simp, B0.out, Nat.le_refl _⟩
  case round =>
    obtain ⟨left, cnt, ks, hrg, hown, hcoll, hlen, hbr, hsz⟩ := hrel
    have RG := Lib.hid hrg
    have O := Lib.hid hown
    have CO := Lib.hid hcoll
    have LE := Lib.hid hlen
    have B := Lib.hid hbr
    have SZ := Lib.hid hsz
    clear hrg hown hcoll hlen hbr hsz
    go_wp2_with (at_next; refine wpList_next_ranges _ rfl _ rfl 9 (string_keyed Try.underlying9) eR mkK mkV invK invV m it _ D left cnt rfl RG.out ?_ ?_)
    · intro _ hl0
      have ES := Lib.hid (CO.out.all hl0 G.out.rise s.rev)
      have LN : Hid (ks.length ≤ 1000000) := by have := LE.out; have := G.out.len; show _ ≤ _; omega
      have CS := Lib.hid (sort_own sort_laid O.out LN.out)
      go_wp2_with (go_at_call 31; (with_reducible refine CS.out.mono ?_); rintro en w9 ⟨rfl, ho9, hg9⟩; have O9 := Lib.hid ho9; have G9 := Lib.hid hg9; clear ho9 hg9)
      go_ret
      rw [ES.out] at O9
      have B9 : Below w1.heap.size w1 w9 := B.out.grown G9.out B.out.size (fun k hk => by have := (O.out.lt k hk).1; have := S0.out; omega)
      exact ⟨_, rfl, OwnR.lower O9.out (by have := S0.out; omega), B9⟩
    · intro x c1 c2 z y1 y2 wx cnt1 hk hl hv hat hrg1 hlt hg1 hs1 hen
      obtain ⟨rfl, hkx⟩ := key_is hk
      obtain ⟨rfl, rfl⟩ : y1 = eD c1 c2 ∧ y2 = [] := by
        have h1 := (Option.some.inj hv).symm
        exact ⟨congrArg Prod.fst h1, congrArg Prod.snd h1⟩
      obtain ⟨e, he, e3, e4⟩ := HI.out.entry hat
      subst e3 e4
      have RG1 := Lib.hid hrg1
      have HS1 := Lib.hid hs1
      have B1 := Lib.hid (B.out.grown hg1 B.out.size (fun k hk => by injection hk with hk; have := HIT.out; omega))
      have HLT := Lib.hid hlt
      have HL := Lib.hid hl
      have hen2 : (Instr.entry (.pointer (some ⟨it, 0, none⟩))).run Try.prog wx = .ok (.tuple #[.string x, .agg #[.string e.val, .int .i64 e.rev]]) wx := hen
      have CO1 := Lib.hid (CO.out.step hl he)
      have hne : some it ≠ u5.ownBlock := row_ne_iter (Z_own O.out) RG.out
      have O1 := Lib.hid (OwnTx.any (w1 := wx) (O.out.kept hg1 (fun e => hne e.symm)))
      have S1 : Hid (w0.heap.size ≤ wx.heap.size) := by have := SZ.out; show _ ≤ _; omega
      have BN := Lib.hid ((Below.refl wx.heap.size wx).alloc (Nat.le_refl _) (.cells #[.string e.val, .int .i64 e.rev] 67))
      have RN := Lib.hid (heap_alloc_new wx (.cells #[.string e.val, .int .i64 e.rev] 67))
      have RG2 := Lib.hid (hrg1.alloc (.cells #[.string e.val, .int .i64 e.rev] 67))
      have hw : wr.rangeLeft m it = cnt := RG.out.left_eq
      have HW := Lib.hid hw
      have LN : Hid (ks.length ≤ 1000000) := by have := LE.out; have := G.out.len; show _ ≤ _; omega
      clear hk hv hl hat hrg1 hlt hg1 hs1 hen hne hw
      simp only [mkK, mkV]
      go_upto_region 5 with fail
      obtain ⟨gn, hgn⟩ : ∃ gn, gn = wx.heap.size := ⟨_, rfl⟩
      rw [← hgn] at RN ⊢
      have O2 := Lib.hid (OwnTx.any (w1 := wx.alloc (.cells #[.string e.val, .int .i64 e.rev] 67)) (O1.out.below BN.out))
      have B2 := Lib.hid (B1.out.trans (BN.out.mono B1.out.size))
      have S2 := Lib.hid (Nat.le_trans S1.out BN.out.size)
      have en1 : (wx.alloc (.cells #[.string e.val, .int .i64 e.rev] 67)).cell? ⟨gn, 1, none⟩ = some (.int .i64 e.rev) := by rw [cell_of_row _ gn 1 _ _ _ RN.out]; rfl
      clear hgn BN RN hen2
      generalize wx.alloc (.cells #[.string e.val, .int .i64 e.rev] 67) = wy at *
      by_cases hr : r < e.rev
      · rw [if_pos hr] at CO1
        go_wp2_with (at_builtin; refine wpList_append_tx rfl (.tmp 20) (.tmp 22) rfl w0.heap.size _ _ rfl O2.out x rfl LN.out S2.out ?_; intro v3 w3 ho3 hb3 hg3; have O3 := Lib.hid ho3; have B3 := Lib.hid hb3; have G3 := Lib.hid hg3; clear ho3 hb3 hg3)
        have RG3 := RG2.out.kept G3.out (fun e => by have := (O2.out.lt m e.symm).1; have := HML.out; have := S0.out; omega) (row_ne_iter (Z_own O2.out) RG2.out)
        exact ⟨⟨_, _, _, RG3, O3.out, CO1.out, by have := LE.out; have := HLT.out; simp only [List.length_append, List.length_singleton]; omega, B2.out.trans (B3.out.mono (by have := S0.out; omega)), Nat.le_trans S2.out (G3.out.size)⟩, by rw [RG3.left_eq, HW.out]; exact HLT.out⟩
      · rw [if_neg hr] at CO1
        go_wp2_with fail
        exact ⟨⟨_, _, _, RG2.out, O2.out, CO1.out, by have := LE.out; have := HLT.out; omega, B2.out, S2.out⟩, by rw [RG2.out.left_eq, HW.out]; exact HLT.out⟩
theorem kvsince_none (W : World) (p : Value) (s : Kv.St) (r : Int) (h : EAt W p none s) : Calls Try.prog 19 #[p, .int .i64 r] W (KTx [] W) := by
  have CE := Lib.hid (kventries_any W p none s h)
  have hrg := run_range_nilMap (P := Try.prog) W _ _ _ Try.underlying56
  have hnx := fun ty => run_next_nilMap (P := Try.prog) W ty 0 0 #[]
  have B1 := Lib.hid ((Below.refl W.heap.size W).alloc (Nat.le_refl _) (.mapIter none 0 #[] 0))
  have CS := Lib.hid (sort_laid.none_ (W.alloc (.mapIter none 0 #[] 0)))
  clear h
  go_enter Try.func19, Try.ntmps19
  go_wp2_with (go_at_call 30; (with_reducible refine CE.out.mono ?_); rintro e w1 ⟨rfl, hw⟩; subst hw)
  go_loopw [5] (fun v wr => v = .slice none 0 0 ∧ wr = w1.alloc (.mapIter none 0 #[] 0)) (fun _ _ => 0)
  case atStart => exact ⟨rfl, rfl⟩
  case round =>
    obtain ⟨rfl, rfl⟩ := hrel
    go_wp2_with (go_at_call 31; (with_reducible refine CS.out.mono ?_); rintro en w9 ⟨rfl, hw⟩; have HW := Lib.hid hw; clear hw)
    go_ret
    exact ⟨_, rfl, OwnR.none_ _ _ _ _, by rw [HW.out]; exact B1.out⟩
theorem kvsince_ask (W : World) (p : Value) (mo : Option Nat) (s : Kv.St) (r : Int) (h : EAt W p mo s) : Calls Try.prog 19 #[p, .int .i64 r] W (KTx (Kv.since s r) W) := by
  cases mo with
  | some m => exact kvsince_some W p m s r h
  | none =>
    have e : s.l = [] := h.map
    have : Kv.since s r = [] := by unfold Kv.since; rw [e]; rfl
    rw [this]
    exact kvsince_none W p s r h
theorem kvkeys_ask (W : World) (p : Value) (mo : Option Nat) (s : Kv.St) (h : EAt W p mo s) : Calls Try.prog 22 #[p] W (KTx (Kv.keysOf s.l) W) := by
  have C := Lib.hid (kvsince_ask W p mo s 0 h)
  have E := Lib.hid (Kv.since_zero h.good)
  rw [E.out] at C
  clear h
  go_enter Try.func22, Try.ntmps22
  go_wp2_with (go_at_call 19; (with_reducible refine C.out.mono ?_); rintro e w1 ⟨v, rfl, ho, hb⟩; have O := Lib.hid ho; have B := Lib.hid hb; clear ho hb)
  go_ret
  exact ⟨_, rfl, O.out, B.out⟩
end Go.Proofs.Ytmkfiiheeplmgaa
