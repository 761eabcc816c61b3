import Derived.Test.YtnacjhnfkkddcaaGreatDoorSe29
import Derived.Sort.OwnSorted
import Derived.Sort.KeysCollected
import Derived.Laws.IdiomRangeMap
import Derived.Sort.OwnSortedInts
import Derived.Test.YtnacjhnfkkddcaaGreatDoorRows
import Derived.Stop.LaidErr
import Derived.Shelf.Vars
import Derived.MakeChecks
import Derived.Lay
import Derived.Test.YtnacjhnfkkddcaaGreatDoorTie
import Derived.Test.YtnacjhnfkkddcaaGreatDoorCards
import Derived.WalkKit
import Derived.ProofKit
import Derived.OpenShut
import Derived.ShutString
import Derived.ChangeOld
import Derived.Below
import Derived.LaidMore
import Derived.SevenTiedAt
import Derived.Deep.Matrix
namespace Go.Proofs.YtnacjhnfkkddcaaGreatDoor
open Go.RowKit Go.Maps Go.Proofs
def toL (k : ByteArray) : List UInt8 := k.data.toList
theorem toL_inj {a b : ByteArray} (h : toL a = toL b) : a = b := ByteArray.ext (Array.ext' h)
theorem toL_eq (k : ByteArray) : k.toList = toL k := ByteArray.toList_eq k
def ofL (x : List UInt8) : ByteArray := ⟨x.toArray⟩
theorem ofL_toL (k : ByteArray) : ofL (toL k) = k := by unfold ofL toL; simp
theorem enc_toL (k : ByteArray) : encStr (toL k) = .string k := by show Value.string (ofL (toL k)) = _; rw [ofL_toL]
theorem map_enc (ks : List ByteArray) : (ks.map toL).map encStr = ks.map Value.string := by
 rw [List.map_map]
 exact List.map_congr_left fun k _ => enc_toL k
theorem bl_lt : ∀ x y : List UInt8, Op.bytesLess x y = decide (x < y)
 | [], [] => rfl
 | [], _ :: _ => by simp [Op.bytesLess]
 | _ :: _, [] => by simp [Op.bytesLess]
 | a :: x, b :: y => by
  simp only [Op.bytesLess, bl_lt x y, List.cons_lt_cons_iff]
  by_cases h : a < b <;> by_cases h2 : a = b <;> simp [h, h2]
theorem lt_iff {a b : ByteArray} : Kv.lt a b ↔ toL a < toL b := by
 unfold Kv.lt
 rw [toL_eq, toL_eq, bl_lt, decide_eq_true_eq]
/-- Texts sorted. -/
def sortT (ks : List ByteArray) : List ByteArray := ((ks.map toL).mergeSort leB).map ofL
theorem sortT_toL (ks : List ByteArray) : (sortT ks).map toL = (ks.map toL).mergeSort leB := by
 unfold sortT
 rw [List.map_map]
 conv => rhs; rw [← List.map_id ((ks.map toL).mergeSort leB)]
 refine List.map_congr_left fun x _ => ?_
 show toL (ofL x) = x
 unfold toL ofL
 simp
theorem sortT_length (ks : List ByteArray) : (sortT ks).length = ks.length := by unfold sortT; simp
/-- Sorted, they are the one rising list that has the same. -/
theorem sortT_eq {ks ts : List ByteArray} (hn : ks.Nodup) (hr : ts.Pairwise Kv.lt) (hm : ∀ k, k ∈ ks ↔ k ∈ ts) : sortT ks = ts := by
 have hnt : ts.Nodup := hr.imp fun h => Kv.lt_ne h
 have hp : ks.Perm ts := (List.perm_ext_iff_of_nodup hn hnt).2 hm
 have tr : ∀ a b c : List UInt8, leB a b = true → leB b c = true → leB a c = true := fun a b c h1 h2 => by simp only [leB, decide_eq_true_eq] at *; exact List.le_trans h1 h2
 have tot : ∀ a b : List UInt8, (leB a b || leB b a) = true := fun a b => by simp only [leB, Bool.or_eq_true, decide_eq_true_eq]; exact List.le_total a b
 have e : (ks.map toL).mergeSort leB = ts.map toL := by
  refine List.Perm.eq_of_pairwise (le := fun a b => leB a b = true) (fun a b _ _ h1 h2 => ?_) (List.pairwise_mergeSort tr tot _) (List.pairwise_map.2 (hr.imp fun {a b} h => ?_)) ((List.mergeSort_perm _ leB).trans (hp.map toL))
  ·simp only [leB, decide_eq_true_eq] at h1 h2
   exact List.le_antisymm h1 h2
  ·simp only [leB, decide_eq_true_eq]
   exact List.le_of_lt (lt_iff.1 h)
 have h2 := sortT_toL ks
 rw [e] at h2
 refine List.ext_getElem? fun i => ?_
 have h3 := congrArg (fun l => l[i]?) h2
 simp only [List.getElem?_map] at h3
 cases h4 : (sortT ks)[i]? with
 | none => rw [h4] at h3; cases h5 : ts[i]? with
  | none => rfl
  | some y => rw [h5] at h3; cases h3
 | some x =>
  rw [h4] at h3
  cases h5 : ts[i]? with
  | none => rw [h5] at h3; cases h3
  | some y => rw [h5] at h3; exact congrArg some (toL_inj (Option.some.inj h3))
theorem since_rise {l : List Kv.En} (h : Kv.Rise l) (s r : Int) : (Kv.since ⟨l, s⟩ r).Pairwise Kv.lt := by
 unfold Kv.since
 exact List.pairwise_map.2 (List.Pairwise.filter _ h)
theorem mem_since {l : List Kv.En} (h : Kv.Rise l) {s r : Int} {k : ByteArray} : k ∈ Kv.since ⟨l, s⟩ r ↔ ∃ e, Kv.find l k = some e ∧ r < e.rev := by
 unfold Kv.since
 rw [List.mem_map]
 constructor
 ·rintro ⟨e, he, rfl⟩
  rw [List.mem_filter, decide_eq_true_eq] at he
  exact ⟨e, Kv.find_mem h he.1, he.2⟩
 ·rintro ⟨e, he, hr⟩
  have := Kv.find_some he
  exact ⟨e, List.mem_filter.2 ⟨this.1, by simpa using hr⟩, this.2⟩
/-- What was gathered: no key twice; those that are there, put behind r, and no longer to come. -/
def Coll (l : List Kv.En) (r : Int) (left : Lit → Bool) (ks : List ByteArray) : Prop := ks.Nodup ∧ ∀ k, k ∈ ks ↔ (∃ e, Kv.find l k = some e ∧ r < e.rev) ∧ left (kl k) = false
theorem Coll.start {D : DataW Unit} {l : List Kv.En} (h : DIs D l) (r : Int) : Coll l r (Maps.has D) [] := by
 refine ⟨List.nodup_nil, fun k => ?_⟩
 simp only [List.not_mem_nil, false_iff, not_and]
 rintro ⟨e, he, _⟩ h2
 have := h.has k
 rw [he, h2] at this
 cases this
theorem same_kl {k x : ByteArray} : (kl k).sameKey (kl x) = decide (k = x) := by
 by_cases h : k = x
 ·subst h; rw [WideAt.sameKey_self (kl_isKey k)]; simp
 ·rw [Maps.sameKey_ne (fun e => h (kl_inj e))]; simp [h]
theorem Coll.step {l : List Kv.En} {r : Int} {left : Lit → Bool} {ks : List ByteArray} (h : Coll l r left ks) {x : ByteArray} {e : Kv.En} (hx : left (kl x) = true) (he : Kv.find l x = some e) :
  Coll l r (fun z => left z && !z.sameKey (kl x)) (if r < e.rev then ks ++ [x] else ks) := by
 have hnew : x ∉ ks := fun hm => by have := ((h.2 x).1 hm).2; rw [hx] at this; cases this
 by_cases hr : r < e.rev
 ·rw [if_pos hr]
  refine ⟨List.nodup_append.2 ⟨h.1, by simp, fun a ha b hb => by simp at hb; subst hb; exact fun e => hnew (e ▸ ha)⟩, fun k => ?_⟩
  rw [List.mem_append, h.2 k]
  show _ ↔ _ ∧ (left (kl k) && !(kl k).sameKey (kl x)) = false
  rw [same_kl]
  by_cases hk : k = x
  ·subst hk; simp [he, hr]
  ·simp [hk]
 ·rw [if_neg hr]
  refine ⟨h.1, fun k => ?_⟩
  rw [h.2 k]
  show _ ↔ _ ∧ (left (kl k) && !(kl k).sameKey (kl x)) = false
  rw [same_kl]
  by_cases hk : k = x
  ·subst hk; simp [he, hr]
  ·simp [hk]
theorem Coll.all {l : List Kv.En} {r : Int} {left : Lit → Bool} {ks : List ByteArray} (h : Coll l r left ks) (hl : ∀ z, left z = false) (hr : Kv.Rise l) (s : Int) : sortT ks = Kv.since ⟨l, s⟩ r :=
 sortT_eq h.1 (since_rise hr s r) fun k => by rw [h.2 k, mem_since hr]; simp [hl]
/-- What an entry of the map holds, whose key is still to come. -/
theorem DIs.entry {D : DataW Unit} {l : List Kv.En} (h : DIs D l) {x v : ByteArray} {r : Int} (hat : ∀ z, D.atKey (kl x) z = eD v r) : ∃ e, Kv.find l x = some e ∧ e.val = v ∧ e.rev = r := by
 have h1 := h.has x
 rw [Maps.has_true_of_atKey hat] at h1
 cases hf : Kv.find l x with
 | none => rw [hf] at h1; cases h1
 | some e =>
  obtain ⟨e1, e2⟩ := eD_inj ((h.at_ x e hf (eD v r)).symm.trans (hat _))
  exact ⟨e, rfl, e1, e2⟩
/-- The library's sort of texts, asked of a function. -/
structure SortC (P : Program) (f : FuncId) : Prop where
 row : ∀ (blk off cap : Nat) (ss : List (List UInt8)) (w : World), Sort.Holds encStr w blk off ss.toArray → blk < w.heap.size → ss.length < 4611686018427387904 → Calls P f #[.slice (some ⟨blk, off, none⟩) ss.length cap] w fun e w' =>
  e = .returned (.tuple #[]) ∧ ∃ n os, w' = Sort.grow (Sort.putRow encStr (Sort.ahead w n) blk off (ss.mergeSort fun x y => decide (x ≤ y)).toArray) os
 none_ : ∀ w, Calls P f #[.slice none 0 0] w fun e w' => e = .returned (.tuple #[]) ∧ w' = w
theorem sort_own {P : Program} {f : FuncId} (hS : SortC P f) {e : TypeId} {w : World} {B : Nat} {v : Value} {ks : List ByteArray} (h : OwnR 1 (fun _ cs (s : ByteArray) => cs = [.string s]) e w w B v ks) (hz : ks.length ≤ 1000000) :
  Calls P f #[v] w fun en w' => en = .returned (.tuple #[]) ∧ OwnR 1 (fun _ cs (s : ByteArray) => cs = [.string s]) e w' w' B v (sortT ks) ∧ w.grownBy w' v.ownBlock := by
 obtain ⟨xs, h1, h2⟩ := h
 have hxs : xs = ks.map Value.string := by
  have hl := h1.1
  refine List.ext_getElem? fun i => ?_
  by_cases hi : i < ks.length
  ·obtain ⟨cs, _, hc, he⟩ := h2 i ks[i] (List.getElem?_eq_getElem hi)
   have := hc 0 (by omega)
   rw [Nat.mul_one, Nat.add_zero, he] at this
   rw [this]
   simp [hi]
  ·rw [List.getElem?_eq_none (by omega), List.getElem?_eq_none (by simpa using Nat.le_of_not_lt hi)]
 have own_of : ∀ (w' : World) (ts : List ByteArray), ts.length = ks.length → w'.ownsRow B e 1 v ks.length (ts.map Value.string) → OwnR 1 (fun _ cs (s : ByteArray) => cs = [.string s]) e w' w' B v ts := fun w' ts hl ho => by
  refine ⟨_, by rw [hl]; exact ho, fun j t hj => ⟨[.string t], rfl, fun i hi => ?_, rfl⟩⟩
  obtain rfl : i = 0 := by omega
  rw [Nat.mul_one, Nat.add_zero, List.getElem?_map, hj]
  rfl
 rcases h1.2 with ⟨rfl, h0⟩ | ⟨g, cap, cur, rfl, hbase, hb, c1, c2, c3, c4⟩
 ·obtain rfl : ks = [] := List.eq_nil_of_length_eq_zero h0
  refine (hS.none_ w).mono fun en w' ⟨he, hw⟩ => ⟨he, ?_, ?_⟩
  ·have : sortT [] = [] := List.eq_nil_of_length_eq_zero (sortT_length [])
   rw [this]
   exact OwnR.none_ _ _ _ _
  ·subst hw
   exact ⟨rfl, rfl, rfl, Nat.le_refl _, fun i hi _ => rfl⟩
 ·rw [Nat.mul_one] at c4
  have hk : (ks.map toL).map encStr = xs := by rw [map_enc, hxs]
  have h5 := hS.row g 0 cap (ks.map toL) w (holds_of_block hb (by rw [List.length_map, hk]; exact c4)) (Array.getElem?_eq_some_iff.1 hb).1 (by rw [List.length_map]; omega)
  rw [List.length_map] at h5
  refine h5.mono fun en w' ⟨he, n, os, hw⟩ => ⟨he, ?_, ?_⟩
  ·subst hw
   have h6 := ownsRow_sorted (base := B) (g := g) (cap := cap) (n := n) (os := os) (ss := ks.map toL) (ts := (ks.map toL).mergeSort leB) (by simp) hbase hb (by rw [List.length_map]; exact c1) c2 c3
   rw [List.length_map] at h6
   refine own_of _ _ (sortT_length ks) ?_
   rw [← map_enc, sortT_toL]
   exact h6
  ·subst hw
   exact grownBy_sorted _
end Go.Proofs.YtnacjhnfkkddcaaGreatDoor
namespace Go.Proofs.YtnacjhnfkkddcaaGreatDoor
open Go.RowKit Go.Deep Go.Maps
set_option maxRecDepth 100000
theorem sort_laid : SortC Tryz.prog 114 := ⟨Tryz.slices_Sort_string, Tryz.slices_Sort_string_none none 0⟩
theorem Z_own {w w0 : World} {B : Nat} {v : Value} {l : List ByteArray} (h : OwnR 1 ETx 9 w0 w B v l) : w.ownsRow B 9 1 v l.length (h.choose) := h.choose_spec.1
theorem grown_below_none {w w' : World} (h : w.grownBy w' none) : Below w.heap.size w w' := (Below.refl w.heap.size w).grown h (Nat.le_refl _) (fun k hk => by cases hk)
def mkK (x : ByteArray) : Value := .string x
def mkV (c : ByteArray × Int) : Value := .agg #[.string c.1, .int .i64 c.2]
theorem invK (key : Value) (z : Lit) (h : keyOf Tryz.prog 9 key = some z) : ∃ x, key = mkK x := by
 obtain ⟨x, rfl, _⟩ := Maps.keyOf_str Tryz.underlying9 h
 exact ⟨ofL x, rfl⟩
theorem key_is {x : ByteArray} {z : Lit} (h : keyOf Tryz.prog 9 (.string x) = some z) : z = kl x ∧ x.size ≤ maxLen := by
 obtain ⟨y, hy, rfl, hl⟩ := Maps.keyOf_str Tryz.underlying9 h
 have : x = ofL y := by
  have h1 : Value.string x = Value.string (ofL y) := hy
  injection h1
 subst this
 refine ⟨by unfold kl ofL; simp, ?_⟩
 show (ofL y).data.size ≤ _
 unfold ofL
 simpa using hl
theorem invV (v : Value) (y : DataW Unit × List MemPlace) (h : eR v = some y) : ∃ c, v = mkV c := by
 obtain ⟨s, r, rfl, _⟩ := eR_inv h
 exact ⟨(s, r), rfl⟩
set_option maxHeartbeats 1600000 in
theorem kvsince_some (W : World) (p : Value) (m : Nat) (s : Kv.St) (r : Int) (h : EAt W p (some m) s) : Calls Tryz.prog 77 #[p, .int .i64 r] W (KTx (Kv.since s r) W) := by
 have G := Lib.hid h.good
 have CE := Lib.hid (kventries_any W p (some m) s h)
 obtain ⟨D, hD, hI⟩ := show MapIs Tryz.prog 9 W m s.l from h.map
 have HD := Lib.hid hD
 have HI := Lib.hid hI
 have HML : Hid (m < W.heap.size) := h.map.lt
 clear h hD hI
 go_enter Tryz.func77, Tryz.ntmps77
 go_wp2_with (first | (go_at_call 75; (with_reducible refine CE.out.mono ?_); rintro e w1 ⟨rfl, hw⟩; subst hw) | (at_range; refine wpList_range_own _ rfl _ _ rfl _ _ (string_keyed Tryz.underlying9) Tryz.underlying81 eR m _ D rfl HD.out ?_; intro w0 hrg0 hg0 hs0; have RG0 := Lib.hid hrg0; have G0 := Lib.hid hg0; have S0 := Lib.hid hs0; clear hrg0 hg0 hs0; go_frame))
 have B0 := Lib.hid (grown_below_none G0.out)
 obtain ⟨it, hit⟩ : ∃ it, it = w1.heap.size := ⟨_, rfl⟩
 rw [← hit] at RG0 ⊢
 have HIT := Lib.hid hit
 have MS := Lib.hid HI.out.size
 clear hit
 go_loopw [5] (fun v wr => ∃ left cnt ks, wr.ranges Tryz.prog 9 eR m it s.l.length D left cnt ∧ OwnTx wr w0.heap.size v ks ∧ Coll s.l r left ks ∧ ks.length + cnt ≤ s.l.length ∧ Below w1.heap.size w1 wr ∧ w0.heap.size ≤ wr.heap.size) (fun _ wr => wr.rangeLeft m it)
 case atStart => exact ⟨_, _, [], RG0.out, OwnR.none_ _ _ _ _, Coll.start HI.out r, by rw [MS.out]; simp, B0.out, Nat.le_refl _⟩
 case round =>
  obtain ⟨left, cnt, ks, hrg, hown, hcoll, hlen, hbr, hsz⟩ := hrel
  have RG := Lib.hid hrg
  have O := Lib.hid hown
  have CO := Lib.hid hcoll
  have LE := Lib.hid hlen
  have B := Lib.hid hbr
  have SZ := Lib.hid hsz
  clear hrg hown hcoll hlen hbr hsz
  go_wp2_with (at_next; refine wpList_next_ranges _ rfl _ rfl 9 (string_keyed Tryz.underlying9) eR mkK mkV invK invV m it _ D left cnt rfl RG.out ?_ ?_)
  ·intro _ hl0
   have ES := Lib.hid (CO.out.all hl0 G.out.rise s.rev)
   have LN : Hid (ks.length ≤ 1000000) := by have := LE.out; have := G.out.len; show _ ≤ _; omega
   have CS := Lib.hid (sort_own sort_laid O.out LN.out)
   go_wp2_with (go_at_call 114; (with_reducible refine CS.out.mono ?_); rintro en w9 ⟨rfl, ho9, hg9⟩; have O9 := Lib.hid ho9; have G9 := Lib.hid hg9; clear ho9 hg9)
   go_ret
   rw [ES.out] at O9
   have B9 : Below w1.heap.size w1 w9 := B.out.grown G9.out B.out.size (fun k hk => by have := (O.out.lt k hk).1; have := S0.out; omega)
   exact ⟨_, rfl, OwnR.lower O9.out (by have := S0.out; omega), B9⟩
  ·intro x c1 c2 z y1 y2 wx cnt1 hk hl hv hat hrg1 hlt hg1 hs1 hen
   obtain ⟨rfl, hkx⟩ := key_is hk
   obtain ⟨rfl, rfl⟩ : y1 = eD c1 c2 ∧ y2 = [] := by
    have h1 := (Option.some.inj hv).symm
    exact ⟨congrArg Prod.fst h1, congrArg Prod.snd h1⟩
   obtain ⟨e, he, e3, e4⟩ := HI.out.entry hat
   subst e3 e4
   have RG1 := Lib.hid hrg1
   have HS1 := Lib.hid hs1
   have B1 := Lib.hid (B.out.grown hg1 B.out.size (fun k hk => by injection hk with hk; have := HIT.out; omega))
   have HLT := Lib.hid hlt
   have HL := Lib.hid hl
   have hen2 : (Instr.entry (.pointer (some ⟨it, 0, none⟩))).run Tryz.prog wx = .ok (.tuple #[.string x, .agg #[.string e.val, .int .i64 e.rev]]) wx := hen
   have CO1 := Lib.hid (CO.out.step hl he)
   have hne : some it ≠ u5.ownBlock := row_ne_iter (Z_own O.out) RG.out
   have O1 := Lib.hid (OwnTx.any (w1 := wx) (O.out.kept hg1 (fun e => hne e.symm)))
   have S1 : Hid (w0.heap.size ≤ wx.heap.size) := by have := SZ.out; show _ ≤ _; omega
   have BN := Lib.hid ((Below.refl wx.heap.size wx).alloc (Nat.le_refl _) (.cells #[.string e.val, .int .i64 e.rev] 123))
   have RN := Lib.hid (heap_alloc_new wx (.cells #[.string e.val, .int .i64 e.rev] 123))
   have RG2 := Lib.hid (hrg1.alloc (.cells #[.string e.val, .int .i64 e.rev] 123))
   have hw : wr.rangeLeft m it = cnt := RG.out.left_eq
   have HW := Lib.hid hw
   have LN : Hid (ks.length ≤ 1000000) := by have := LE.out; have := G.out.len; show _ ≤ _; omega
   clear hk hv hl hat hrg1 hlt hg1 hs1 hen hne hw
   simp only [mkK, mkV]
   go_upto_region 5 with fail
   obtain ⟨gn, hgn⟩ : ∃ gn, gn = wx.heap.size := ⟨_, rfl⟩
   rw [← hgn] at RN ⊢
   have O2 := Lib.hid (OwnTx.any (w1 := wx.alloc (.cells #[.string e.val, .int .i64 e.rev] 123)) (O1.out.below BN.out))
   have B2 := Lib.hid (B1.out.trans (BN.out.mono B1.out.size))
   have S2 := Lib.hid (Nat.le_trans S1.out BN.out.size)
   have en1 : (wx.alloc (.cells #[.string e.val, .int .i64 e.rev] 123)).cell? ⟨gn, 1, none⟩ = some (.int .i64 e.rev) := by rw [cell_of_row _ gn 1 _ _ _ RN.out]; rfl
   clear hgn BN RN hen2
   generalize wx.alloc (.cells #[.string e.val, .int .i64 e.rev] 123) = wy at *
   by_cases hr : r < e.rev
   ·rw [if_pos hr] at CO1
    go_wp2_with (at_builtin; refine wpList_append_tx rfl (.tmp 20) (.tmp 22) rfl w0.heap.size _ _ rfl O2.out x rfl LN.out S2.out ?_; intro v3 w3 ho3 hb3 hg3; have O3 := Lib.hid ho3; have B3 := Lib.hid hb3; have G3 := Lib.hid hg3; clear ho3 hb3 hg3)
    have RG3 := RG2.out.kept G3.out (fun e => by have := (O2.out.lt m e.symm).1; have := HML.out; have := S0.out; omega) (row_ne_iter (Z_own O2.out) RG2.out)
    exact ⟨⟨_, _, _, RG3, O3.out, CO1.out, by have := LE.out; have := HLT.out; simp only [List.length_append, List.length_singleton]; omega, B2.out.trans (B3.out.mono (by have := S0.out; omega)), Nat.le_trans S2.out (G3.out.size)⟩, by rw [RG3.left_eq, HW.out]; exact HLT.out⟩
   ·rw [if_neg hr] at CO1
    go_wp2_with fail
    exact ⟨⟨_, _, _, RG2.out, O2.out, CO1.out, by have := LE.out; have := HLT.out; omega, B2.out, S2.out⟩, by rw [RG2.out.left_eq, HW.out]; exact HLT.out⟩
theorem kvsince_none (W : World) (p : Value) (s : Kv.St) (r : Int) (h : EAt W p none s) : Calls Tryz.prog 77 #[p, .int .i64 r] W (KTx [] W) := by
 have CE := Lib.hid (kventries_any W p none s h)
 have hrg := run_range_nilMap (P := Tryz.prog) W _ _ _ Tryz.underlying81
 have hnx := fun ty => run_next_nilMap (P := Tryz.prog) W ty 0 0 #[]
 have B1 := Lib.hid ((Below.refl W.heap.size W).alloc (Nat.le_refl _) (.mapIter none 0 #[] 0))
 have CS := Lib.hid (sort_laid.none_ (W.alloc (.mapIter none 0 #[] 0)))
 clear h
 go_enter Tryz.func77, Tryz.ntmps77
 go_wp2_with (go_at_call 75; (with_reducible refine CE.out.mono ?_); rintro e w1 ⟨rfl, hw⟩; subst hw)
 go_loopw [5] (fun v wr => v = .slice none 0 0 ∧ wr = w1.alloc (.mapIter none 0 #[] 0)) (fun _ _ => 0)
 case atStart => exact ⟨rfl, rfl⟩
 case round =>
  obtain ⟨rfl, rfl⟩ := hrel
  go_wp2_with (go_at_call 114; (with_reducible refine CS.out.mono ?_); rintro en w9 ⟨rfl, hw⟩; have HW := Lib.hid hw; clear hw)
  go_ret
  exact ⟨_, rfl, OwnR.none_ _ _ _ _, by rw [HW.out]; exact B1.out⟩
theorem kvsince_ask (W : World) (p : Value) (mo : Option Nat) (s : Kv.St) (r : Int) (h : EAt W p mo s) : Calls Tryz.prog 77 #[p, .int .i64 r] W (KTx (Kv.since s r) W) := by
 cases mo with
 | some m => exact kvsince_some W p m s r h
 | none =>
  have e : s.l = [] := h.map
  have : Kv.since s r = [] := by unfold Kv.since; rw [e]; rfl
  rw [this]
  exact kvsince_none W p s r h
theorem kvkeys_ask (W : World) (p : Value) (mo : Option Nat) (s : Kv.St) (h : EAt W p mo s) : Calls Tryz.prog 41 #[p] W (KTx (Kv.keysOf s.l) W) := by
 have C := Lib.hid (kvsince_ask W p mo s 0 h)
 have E := Lib.hid (Kv.since_zero h.good)
 rw [E.out] at C
 clear h
 go_enter Tryz.func41, Tryz.ntmps41
 go_wp2_with (go_at_call 77; (with_reducible refine C.out.mono ?_); rintro e w1 ⟨v, rfl, ho, hb⟩; have O := Lib.hid ho; have B := Lib.hid hb; clear ho hb)
 go_ret
 exact ⟨_, rfl, O.out, B.out⟩
end Go.Proofs.YtnacjhnfkkddcaaGreatDoor
namespace Go.Proofs.YtnacjhnfkkddcaaGreatDoor
open Go.RowKit Go.Deep Go.Maps
set_option maxRecDepth 100000
set_option linter.unusedSimpArgs false
set_option linter.unusedVariables false
def inC (n : Int) : List Value := [.int .i64 n]
theorem inC_len (n : Int) : (inC n).length = 1 := rfl
theorem inC_one (n : Int) : ∀ u ∈ inC n, u.oneCell' = true := by intro u hu; rw [List.mem_singleton.1 hu]; rfl
theorem inC_map (l : List Int) : l.flatMap inC = l.map (Value.int .i64) := by
 induction l with
 | nil => rfl
 | cons x l ih => rw [List.flatMap_cons, ih]; rfl
theorem in_info : (Tryz.prog.info? 3).map (fun i => (i.zero, i.size, i.bytes)) = some (some (.int .i64 0), 1, 8) := by kernel_rfl
def sortI (l : List Int) : List Int := l.mergeSort fun x y => decide (x ≤ y)
theorem sortI_length (l : List Int) : (sortI l).length = l.length := List.length_mergeSort l
theorem sortI_rise {l L : List Int} (h : l.Perm L) (hr : L.Pairwise fun a b => a < b) : sortI l = L := by
 unfold sortI
 refine List.Perm.eq_of_pairwise (le := fun a b => decide (a ≤ b) = true) (fun a b _ _ h1 h2 => ?_) (List.pairwise_mergeSort (fun a b c h1 h2 => ?_) (fun a b => ?_) _) (hr.imp fun {a b} h => ?_) ((List.mergeSort_perm l _).trans h)
 ·rw [decide_eq_true_eq] at h1 h2; omega
 ·rw [decide_eq_true_eq] at *; omega
 ·rw [Bool.or_eq_true, decide_eq_true_eq, decide_eq_true_eq]; omega
 ·rw [decide_eq_true_eq]; omega
theorem sorti_own {w : World} {B : Nat} {v : Value} {ns : List Int} (h : OwF inC 1 3 w B v ns) (hz : ns.length ≤ 1000000) :
  Calls Tryz.prog 43 #[v] w fun en w' => en = .returned (.tuple #[]) ∧ OwF inC 1 3 w' B v (sortI ns) ∧ w.grownBy w' v.ownBlock := by
 rcases h.2 with ⟨rfl, h0⟩ | ⟨g, cap, cur, rfl, hbase, hb, c1, c2, c3, c4⟩
 ·obtain rfl : ns = [] := List.eq_nil_of_length_eq_zero h0
  refine (Tryz.slices_Sort_int_none none 0 w).mono fun en w' ⟨he, hw⟩ => ⟨he, ?_, ?_⟩
  ·rw [show sortI [] = [] from List.eq_nil_of_length_eq_zero (sortI_length [])]
   exact OwF.none_ _ _ _
  ·subst hw
   exact ⟨rfl, rfl, rfl, Nat.le_refl _, fun i hi _ => rfl⟩
 ·rw [Nat.mul_one, inC_map] at c4
  refine (Tryz.slices_Sort_int g 0 cap ns w (holds_of_blockI hb c4) (Array.getElem?_eq_some_iff.1 hb).1 (by omega)).mono fun en w' ⟨he, n, os, hw⟩ => ⟨he, ?_, ?_⟩
  ·subst hw
   have h6 := ownsRow_sortedI (base := B) (g := g) (cap := cap) (n := n) (os := os) (ss := ns) (ts := sortI ns) (sortI_length ns) hbase hb c1 c2 c3
   unfold OwF
   rw [sortI_length, inC_map]
   exact h6
  ·subst hw
   exact grownBy_sortedI _
/-- The number that a key tells. -/
def unkey (t : ByteArray) : Int := (Lib.atoi t.data.toList).getD 0
theorem unkey_key (n : Int) : Lib.atoi (Bd.key n).data.toList = some n := by
 unfold Bd.key
 rw [Spc.txt_bts, ← Spc.itoa_is, Spc.atoi_itoa]
/-- A store's keys, as numbers. -/
structure Nums (K : Kv.St) (vs : List Bk.Vn) : Prop where
 perm : ((Kv.keysOf K.l).map unkey).Perm (vs.map (·.n))
 key : ∀ k ∈ Kv.keysOf K.l, k.size ≤ 18 ∧ Lib.atoi k.data.toList = some (unkey k)
theorem nums_of {K : Kv.St} {vs : List Bk.Vn} (h : Bd.Digs K vs) (hv : ∀ v ∈ vs, 1 ≤ v.n ∧ v.n ≤ 1048576 ∧ v.t.size ≤ 64) : Nums K vs := by
 refine ⟨?_, fun k hk => ?_⟩
 ·refine (h.keys.map unkey).trans ?_
  rw [List.map_map]
  have : (unkey ∘ fun v : Bk.Vn => Bd.key v.n) = fun v => v.n := by funext v; show unkey (Bd.key v.n) = v.n; unfold unkey; rw [unkey_key]; rfl
  rw [this]
 ·obtain ⟨v, hm, rfl⟩ := List.mem_map.1 (h.keys.mem_iff.1 hk)
  have h1 := hv v hm
  refine ⟨?_, ?_⟩
  ·have := Bd.key_ten (n := v.n) (by omega) (by omega)
   unfold Bd.key
   rw [txt_size]
   omega
  ·unfold unkey
   rw [unkey_key]
   rfl
theorem atoi_key {k : ByteArray} (h : k.size ≤ 18 ∧ Lib.atoi k.data.toList = some (unkey k)) (w : World) : Calls Tryz.prog 42 #[.string k] w (BRet (.tuple #[.int .i64 (unkey k), .nilIface]) w) := by
 refine (Tryz.strconv_Atoi k (unkey k) h.1 h.2 w).mono ?_
 rintro e w' ⟨rfl, t, rfl⟩
 exact ⟨rfl, Joins.below_bytesWorld _ _ _ _ (Nat.le_refl _)⟩
set_option maxHeartbeats 3200000 in
theorem bvers_any (q : Nat) (s : Bk.St) (ru : Nat → Bk.Un) (rv : Int) (lo ko : Option Nat) (H : Value) (K : Kv.St) (w : World) (h : BdIs w q s ru rv lo ko H K) : Calls Tryz.prog 24 #[.pointer (some ⟨q, 0, none⟩)] w (BList (fun n : Int => [.int .i64 n]) (s.vs.map (·.n)) w) := by
 have CK := Lib.hid (kvkeys_ask w _ ko K h.kvIs.ask)
 have NP := Lib.hid (nums_of h.dg h.lok.ok.vs).perm
 have NK := Lib.hid (nums_of h.dg h.lok.ok.vs).key
 have RI := Lib.hid h.lok.ok.rise
 have HL : Hid ((Kv.keysOf K.l).length ≤ 64) := by show _ ≤ _; unfold Kv.keysOf; rw [List.length_map]; exact h.kg.len
 have H0 := Lib.hid h
 have lq := h.lt.1
 clear h
 unfold KTx at CK
 generalize Kv.keysOf K.l = ks at *
 go_enter Tryz.func24, Tryz.ntmps24
 go_upto_region 4 with fail
 generalize hv0 : Value.slice none 0 0 = v0
 have HV := Lib.hid hv0
 clear hv0
 go_wp2_with (go_at_call 41; (with_reducible refine CK.out.mono ?_); rintro e w1 hp; obtain ⟨v1, rfl, ho, hb⟩ := hp; obtain ⟨A9, c9, rfl, s9⟩ := (OwnTx.any (w1 := w1) ho).slr ETx.on (Below.refl _ _); have SK := Lib.hid s9; have B1 := Lib.hid hb; clear ho hb s9)
 go_loopw [3, 15] (fun v i wr => ∃ j : Nat, j ≤ ks.length ∧ i = .int .i64 j ∧ OwF inC 1 3 wr w1.heap.size v ((ks.take j).map unkey) ∧ Below w1.heap.size w1 wr) (fun v i wr => ks.length - (intOf i).toNat)
 case atStart => exact ⟨0, Nat.zero_le _, rfl, by rw [← HV.out]; exact OwF.none_ _ _ _, Below.refl _ _⟩
 case round =>
  obtain ⟨j, hj, rfl, ho, hbr⟩ := hrel
  have O := Lib.hid ho
  have B := Lib.hid hbr
  clear ho hbr
  have i1 : (0 : Int) ≤ (j : Int) := by omega
  by_cases hlt : j < ks.length
  ·have hx : ks[j]? = some ks[j] := List.getElem?_eq_getElem hlt
   have NX : Hid (((ks.take (j + 1)).map unkey) = (ks.take j).map unkey ++ [unkey ks[j]]) := by show _ = _; rw [List.take_add_one, hx, List.map_append]; rfl
   obtain ⟨b, o, rfl⟩ := (SK.out).addr (by omega)
   have S2 := Lib.hid (SlR.on ETx.on SK.out B.out)
   obtain ⟨hbl, cs, hcl, hce, hE⟩ := S2.out.cell hlt
   have hE2 : cs = [.string ks[j]] := hE
   subst hE2
   have e0 := hce 0 (by omega)
   simp only [Nat.mul_one, Nat.add_zero, List.getElem?_cons_zero] at e0
   have CA := Lib.hid (fun W => atoi_key (NK.out ks[j] (List.getElem_mem hlt)) W)
   generalize ks[j] = x at *
   have q1 : ((j : Nat) : Int) < (ks.length : Nat) := by omega
   have q2 : ((ks.length : Nat) : Int) ≤ 64 := by have := HL.out; omega
   have LT := Lib.hid hlt
   clear hx hce hE hcl hlt
   go_upto_region 8 with (go_at_call 42; (with_reducible refine (CA.out _).mono ?_); rintro e w2 ⟨rfl, hb2⟩; have B2 := Lib.hid hb2; clear hb2)
   have O2 := Lib.hid (O.out.below B2.out)
   have B3 := Lib.hid (B.out.trans (B2.out.mono B.out.size))
   generalize unkey x = n at *
   clear CA e0
   go_wp2_with (first
    | ((with_reducible show wpList _ _ _ ({ dst := some 26, op := .buildSlice _ _ _, type := _, pos := _, after := _, guard := _ } :: _) _ _); refine wpList_build_one Tryz.underlying57 in_info (by omega) (by omega) rfl (.tmp 25) rfl #[.int .i64 n] rfl rfl ?_)
    | (at_builtin; refine wpList_append_one inC_len inC_one Tryz.underlying57 in_info rfl (by omega) rfl (.tmp 24) (.tmp 26) rfl w1.heap.size _ _ rfl O2.out n rfl (by have := HL.out; have := LT.out; rw [List.length_map, List.length_take]; unfold maxLen; omega) (by have := HL.out; have := LT.out; rw [List.length_map, List.length_take]; omega) B3.out.size ?_; intro v9 w9 ho9 hb9 _ _; have O9 := Lib.hid ho9; have B9 := Lib.hid (B3.out.trans hb9); clear ho9 hb9))
   have hq := LT.out
   have hq2 := HL.out
   refine ⟨⟨j + 1, by omega, by go_num, ?_, B9.out⟩, by simp [intOf]; omega⟩
   rw [NX.out]
   exact O9.out
  ·have q1 : ((ks.length : Nat) : Int) ≤ (j : Nat) := by omega
   obtain rfl : j = ks.length := by omega
   have O1 := O.out
   rw [List.take_length] at O1
   have O2 := Lib.hid O1
   clear O1
   have CS := Lib.hid (sorti_own O2.out (by rw [List.length_map]; have := HL.out; omega))
   go_wp2_with (go_at_call 43; (with_reducible refine CS.out.mono ?_); rintro e w3 ⟨rfl, ho3, hg3⟩; have O3 := Lib.hid ho3; have G3 := Lib.hid hg3; clear ho3 hg3)
   go_ret
   rw [sortI_rise NP.out (List.pairwise_map.2 RI.out)] at O3
   have BW : Below w1.heap.size wr w3 := (Below.refl wr.heap.size wr |>.mono B.out.size).grown G3.out B.out.size (fun k hk => (O2.out.lt k hk).1)
   have BZ := B1.out.trans ((B.out.trans BW).mono B1.out.size)
   obtain ⟨AF, cF, rfl⟩ := O3.out.form
   refine ⟨AF, cF, rfl, O3.out.sl, BZ, fun b o e => ?_⟩
   subst e
   have := (O3.out.lt b rfl).1
   have := B1.out.size
   omega
end Go.Proofs.YtnacjhnfkkddcaaGreatDoor
namespace Go.Proofs.YtnacjhnfkkddcaaGreatDoor
open Go.RowKit Go.Deep Go.Maps
theorem bp_vers {w0 W : World} {F : Nat → Prop} {q : Nat} {s : Bk.St} (h : BP w0 F q s W) : Calls Tryz.prog 24 #[.pointer (some ⟨q, 0, none⟩)] W (BList (fun n : Int => [.int .i64 n]) (s.vs.map (·.n)) W) := by
 obtain ⟨X, ⟨ru, rv, lo, ko, H, K, h1, _⟩, _⟩ := h
 exact bvers_any q s ru rv lo ko H K W h1
end Go.Proofs.YtnacjhnfkkddcaaGreatDoor
namespace Go.Proofs.YtnacjhnfkkddcaaGreatDoor
open Go Go.RowKit
theorem tb_ofE {W : World} (hL : laidMetH Tryz.prog Rows.bookNilRow.laid W) (_ : W.ShapedOpen Tryz.prog) : BT W := by
 rw [MakeChecks.laidMetH_plain _ _ _ (by kernel_rfl)] at hL
 refine ⟨⟨?_⟩, ?_, ?_⟩
 ·have h3 := hL.tail.tail
  exact Lib.tabIs_of_head (n := 20) (t := 245) (e := 178) g_pow (by kernel_rfl) (by kernel_rfl) Tryz.underlying178 (by kernel_rfl) (by kernel_rfl) (pow_data ▸ h3)
 ·have := varIs_of (name := "pacesetter/phase.leads") (d := Rows.laid_pacesetter_phase_leads) (L := leaf3) (t := 196) hL (by simp [Rows.bookNilRow]) g_leads (by kernel_rfl)
   (fun _ _ _ _ => tells_arr (fun _ => rfl) (tells_arr (n := 9) (e := 3) (L := leaf1) (fun _ => rfl) (tells_int Tryz.underlying3) Tryz.underlying195 (by kernel_rfl)) Tryz.underlying196 (by kernel_rfl))
  rw [leads_data] at this
  exact this
 ·have := varIs_of (name := "pacesetter/phase.words") (d := Rows.laid_pacesetter_phase_words) (L := leaf2) (t := 194) hL (by simp [Rows.bookNilRow]) g_words (by kernel_rfl)
   (fun _ _ _ _ => tells_arr (fun _ => rfl) (tells_str Tryz.underlying9) Tryz.underlying194 (by kernel_rfl))
  rw [words_data] at this
  exact this
end Go.Proofs.YtnacjhnfkkddcaaGreatDoor
namespace Go.Proofs.YtnacjhnfkkddcaaGreatDoor
open Go.RowKit
set_option maxRecDepth 100000
set_option linter.unusedSimpArgs false
set_option linter.unusedVariables false
def txC (t : ByteArray) : List Value := [.string t]
theorem txC_len (t : ByteArray) : (txC t).length = 1 := rfl
theorem txC_one (t : ByteArray) : ∀ u ∈ txC t, u.oneCell' = true := by intro u hu; rw [List.mem_singleton.1 hu]; rfl
theorem btx_info : (Tryz.prog.info? 9).map (fun i => (i.zero, i.size, i.bytes)) = some (some (.string ⟨#[]⟩), 1, 16) := by kernel_rfl
/-- A row of the law's own grows beside the book, and beside what else is read. -/
theorem bp_push2 {T : Type} {enc : T → List Value} {K : Nat} {e : TypeId} {B : Nat} {F : Nat → Prop} {w0 W W' : World} {q : Nat} {s : Bk.St} {v v2 : Value} {l2 : List T} (h : BP w0 (fun b => F b ∨ v.ownBlock = some b) q s W) (hg : W.grownBy W' v.ownBlock) (ho : OwF enc K e W' B v2 l2) (hv : v2.ownBlock = v.ownBlock ∨ ∃ k, v2.ownBlock = some k ∧ W.heap.size ≤ k) (hl : ∀ k, v.ownBlock = some k → w0.heap.size ≤ k) : BP w0 (fun b => F b ∨ v2.ownBlock = some b) q s W' := by
 obtain ⟨X, h1, h2, h3, h4⟩ := h
 refine ⟨X, bdp_keep h1 hg.size fun i hi => hg.block i (bdp_lt h1 i hi) fun e => (h3 i (.inr e.symm)).1 hi, h2, fun b hb => ?_, h4.grown hg h4.size hl⟩
 rcases hb with hb | hb
 ·exact ⟨(h3 b (.inl hb)).1, Nat.lt_of_lt_of_le (h3 b (.inl hb)).2 hg.size⟩
 ·refine ⟨fun hx => ?_, (ho.lt b hb).2⟩
  rcases hv with e | ⟨k, e, hk⟩
  ·exact (h3 b (.inr (e ▸ hb))).1 hx
  ·rw [e] at hb
   injection hb with hb
   subst hb
   have := bdp_lt h1 _ hx
   omega
theorem dig_text {vs : List Bk.Vn} {n : Int} {t : ByteArray} (h : Bk.dig vs n = some t) : Bk.text vs n = t ∧ Bk.has vs n = true := by
 unfold Bk.text Bk.has
 rw [h]
 exact ⟨rfl, rfl⟩
set_option maxHeartbeats 6400000 in
theorem bookdigests_walk (m : Int) (A : Option Addr) (k c : Nat) (l : List Rc.R) (hin : ∀ r ∈ l, Rc.In r) (W : World) (hs : SlF Bk.rcC W A k c l) (ht : BT W) : Calls Tryz.prog 6 #[.int .i64 m, .slice A k c] W (BRet (.bool true) W) := by
 have T0 := Lib.hid ht
 have S0 := Lib.hid hs
 have CLV := Lib.hid (lives_any W ht)
 have CSH : Hid (∀ w, SlF Bk.rcC w A k c l → Calls Tryz.prog 12 #[.slice A k c, .int .i64 60] w (SomeRecs w 60)) := fun w h => bkshort_any A k c 60 l hin w h (by omega)
 have CON : Hid (∀ w A k c l, SlF Bk.rcC w A k c l → (∀ r ∈ l, Rc.In r) → k ≤ 1000 → Calls Tryz.prog 13 #[.int .i64 m, .slice A k c] w (SomeRecs w k)) := fun w A k c l h1 h2 h3 => bkon_any m A k c l h2 w h1 h3
 have CNW := Lib.hid (fun w => bp_new w m)
 clear ht hs hin
 go_enter Tryz.func6, Tryz.ntmps6
 go_upto_region 5 with (first
  | (go_at_call 11; (with_reducible refine CLV.out.mono ?_); rintro e w1 ⟨rfl, hb⟩; have B1 := Lib.hid hb; have S1 := Lib.hid (S0.out.on hb); clear hb)
  | (go_at_call 12; (with_reducible refine (CSH.out _ S1.out).mono ?_); rintro e w2 ⟨A2, c2, l2, rfl, h1, h2, h3, h4⟩; have S2 := Lib.hid h1; have I2 := Lib.hid h2; have N2 := Lib.hid h3; have B2 := Lib.hid (B1.out.trans (h4.mono B1.out.size)); clear h1 h2 h3 h4)
  | (go_at_call 13; (with_reducible refine (CON.out _ _ _ _ _ S2.out I2.out (by have := N2.out; omega)).mono ?_); rintro e w3 ⟨A3, c3, l3, rfl, h1, h2, h3, h4⟩; have S3 := Lib.hid h1; have I3 := Lib.hid h2; have N3 := Lib.hid (Nat.le_trans h3 N2.out); have B3 := Lib.hid (B2.out.trans (h4.mono B2.out.size)); clear h1 h2 h3 h4)
  | (go_at_call 20; (with_reducible refine (CNW.out _).mono ?_); rintro e w4 ⟨q, rfl, hd⟩; have D4 := Lib.hid hd; clear hd))
 clear S0 S1 S2 I2 N2 B1 B2 CLV CSH CON CNW
 have T3 := Lib.hid (T0.out.on B3.out)
 clear T0
 have SZ := Lib.hid S3.out.len
 have hcap := S3.out.cap
 have n60 : ((l3.length : Nat) : Int) ≤ 60 := by have := N3.out; omega
 go_wp2_with fail
 go_loopw [6] (fun i wr => ∃ j : Nat, j ≤ l3.length ∧ i = .int .i64 j ∧ BP w3 (fun _ => False) q (Bk.run (Bk.new m) (l3.take j)) wr) (fun i _ => l3.length - (intOf i).toNat)
 case atStart => exact ⟨0, Nat.zero_le _, rfl, D4.out⟩
 case round =>
  clear D4
  obtain ⟨j, hj, rfl, hd⟩ := hrel
  have D := Lib.hid hd
  clear hd
  have i1 : (0 : Int) ≤ (j : Int) := by omega
  by_cases hlt : j < l3.length
  ·have hx : l3[j]? = some (l3[j]'hlt) := List.getElem?_eq_getElem _
   have HT := Lib.hid (Bk.take_run (Bk.new m) l3 (k := j) hlt).1
   generalize l3[j]'hlt = r at hx HT
   have HR : Hid (Rc.In r) := I3.out r (List.mem_of_getElem? hx)
   obtain ⟨b, o, rfl, hbl, hrg⟩ := rc_range S3.out hx
   have RG := Lib.hid hrg
   have HB := Lib.hid hbl
   have HLT := Lib.hid hlt
   have i2 : (j : Int) < (l3.length : Nat) := by omega
   clear hx hrg hbl hlt
   have OK : Hid (Bk.Ok (Bk.run (Bk.new m) (l3.take j))) := bp_ok D.out
   generalize Bk.run (Bk.new m) (l3.take j) = s at *
   have HV := Lib.hid (Bk.versions (s := s) (r := r))
   have CP := Lib.hid (fun F w (h : BP w3 F q s w) => bp_apply h (T3.out.on (bp_below h)) HR.out)
   have VI : Hid (∀ v ∈ s.vs, b64In v.n ∧ Bk.dig s.vs v.n = some v.t) := fun v hv => ⟨⟨by have := OK.out.vs v hv; omega, by have := OK.out.vs v hv; omega⟩, Bd.dig_mem OK.out.rise hv⟩
   obtain ⟨s2, hs2⟩ : ∃ s2, s2 = Bk.app s r := ⟨_, rfl⟩
   rw [← hs2] at HV CP HT
   clear hs2
   have VL : Hid (s.vs.length ≤ 64) := OK.out.vl
   have LM : Hid ((s.vs.map (·.n)).length = s.vs.length) := List.length_map _
   go_upto_region 9 with (go_at_call 24; (with_reducible refine (bp_vers D.out).mono ?_); rintro e w5 ⟨A5, c5, rfl, h1, h2, h3⟩; rw [LM.out] at h1 ⊢; have D1 := Lib.hid (bp_more D.out h2); have V5 := Lib.hid h1; have P5 := Lib.hid h3; clear h1 h2 h3 D)
   obtain ⟨N, hN⟩ : ∃ N, N = s.vs.length := ⟨_, rfl⟩
   have HN := Lib.hid hN
   rw [← hN] at V5 ⊢
   have q64 : (N : Int) ≤ 64 := by have := VL.out; have := HN.out; omega
   clear hN
   obtain ⟨F5, hF5⟩ : ∃ F5 : Nat → Prop, F5 = fun b => False ∨ (wr.heap.size ≤ b ∧ b < w5.heap.size) := ⟨_, rfl⟩
   rw [← hF5] at D1
   have FL : Hid (∀ b, F5 b → b < w5.heap.size) := fun b hb => by rw [hF5] at hb; rcases hb with h | h; exact h.elim; exact h.2
   have FA : Hid (∀ b o, A5 = some ⟨b, o, none⟩ → 0 < (s.vs.map (·.n)).length → F5 b) := fun b o e hl => by
    obtain ⟨b', o', e', hb', _⟩ := V5.out.rd hl
    rw [e] at e'; injection e' with e'; injection e' with e' _
    rw [hF5]
    exact .inr ⟨P5.out b o e, e' ▸ hb'⟩
   clear hF5 P5
   go_upto_region 10 with fail
   generalize hv0 : Value.slice none 0 0 = v0
   have HV0 := Lib.hid hv0
   clear hv0
   have BB5 := Lib.hid (bp_below D1.out)
   have hc5 := V5.out.cap
   go_wp2_with fail
   go_loopw [8, 9] (fun v k wt => ∃ p : Nat, p ≤ N ∧ k = .int .i64 p ∧ BP w3 (fun b => F5 b ∨ v.ownBlock = some b) q s wt ∧ OwF txC 1 9 wt w5.heap.size v ((s.vs.map (·.t)).take p) ∧ Below w5.heap.size w5 wt) (fun _ k _ => N - (intOf k).toNat)
   case atStart => exact ⟨0, Nat.zero_le _, rfl, bp_less D1.out (fun b hb => hb.elim id fun e => by rw [← HV0.out] at e; cases e), HV0.out ▸ OwF.none_ _ _ _, Below.refl _ _⟩
   case round =>
    clear D1
    obtain ⟨p, hp, rfl, hd, ho, hbe⟩ := hrel
    have D2 := Lib.hid hd
    have O2 := Lib.hid ho
    have B5 := Lib.hid hbe
    clear hd ho hbe
    have k1 : (0 : Int) ≤ (p : Int) := by omega
    by_cases hlp : p < N
    ·have hlp2 : p < s.vs.length := by have := HN.out; omega
     have hxp : s.vs[p]? = some (s.vs[p]'hlp2) := List.getElem?_eq_getElem _
     have VP := Lib.hid (VI.out _ (List.getElem_mem hlp2))
     have NX : Hid ((s.vs.map (·.t)).take (p + 1) = (s.vs.map (·.t)).take p ++ [(s.vs[p]'hlp2).t]) := by
      show _ = _
      rw [List.take_add_one, List.getElem?_map, hxp]
      rfl
     generalize s.vs[p]'hlp2 = x at *
     obtain ⟨bv, ov, rfl, hbv, hcv⟩ := (V5.out.on B5.out).at_ (K := 1) (t := x.n) (fun _ => rfl) (by rw [List.getElem?_map, hxp]; rfl)
     have e0 := hcv 0 _ rfl
     rw [Nat.mul_one, Nat.add_zero] at e0
     have k2 : (p : Int) < (N : Int) := by omega
     have HLP := Lib.hid hlp
     have CD := Lib.hid (bp_digest D2.out (T3.out.on (bp_below D2.out)) x.n VP.out.1)
     rw [(dig_text VP.out.2).1, (dig_text VP.out.2).2] at CD
     generalize x.t = tx at *
     generalize x.n = xn at *
     clear hxp hcv hlp hlp2 VP
     go_upto_region 14 with (go_at_call 23; (with_reducible refine CD.out.mono ?_); rintro e w6 ⟨rfl, hb⟩; have D6 := Lib.hid (bp_on D2.out hb); have O6 := Lib.hid (O2.out.below hb); have B6 := Lib.hid (B5.out.trans (hb.mono B5.out.size)); clear hb D2 O2 B5 CD)
     clear e0 hbv
     go_wp2_with (at_builtin; refine wpList_append_one txC_len txC_one Tryz.underlying59 btx_info rfl (by omega) rfl (.tmp 46) (.tmp 48) rfl w5.heap.size _ _ rfl O6.out tx rfl (by rw [List.length_take]; unfold maxLen; omega) (by rw [List.length_take]; omega) B6.out.size ?_; intro v9 w9 ho9 hb9 hg9 hv9; have O7 := Lib.hid ho9; have D7 := Lib.hid (bp_push2 D6.out hg9 ho9 hv9 (fun k e => Nat.le_trans BB5.out.size (O6.out.lt k e).1)); have B7 := Lib.hid (B6.out.trans hb9); clear ho9 hb9 hg9 hv9 D6 O6 B6)
     have h2 := HLP.out
     refine ⟨⟨p + 1, by omega, by go_num, D7.out, ?_, B7.out⟩, by simp [intOf]; omega⟩
     rw [NX.out]
     exact O7.out
    ·obtain rfl : p = N := by omega
     have ET : Hid ((s.vs.map (·.t)).take p = s.vs.map (·.t)) := List.take_of_length_le (by rw [List.length_map, HN.out]; exact Nat.le_refl _)
     rw [ET.out] at O2
     have VT := Lib.hid (V5.out.on B5.out)
     have k2 : (p : Int) ≤ (p : Int) := Int.le_refl _
     obtain ⟨AF, cF, rfl⟩ := O2.out.form
     rw [List.length_map, ← HN.out] at O2 D2 ⊢
     have RG6 := Lib.hid (range_on RG.out ((bp_below D2.out).block b HB.out))
     have KA : Hid (∀ w' : World, (∀ b, F5 b ∨ (Value.slice AF p cF).ownBlock = some b → w'.heap[b]? = wr.heap[b]?) → SlF (fun n : Int => [Value.int .i64 n]) w' A5 p c5 (s.vs.map (·.n)) ∧ OwF txC 1 9 w' w5.heap.size (.slice AF p cF) (s.vs.map (·.t))) := fun w' hk => ⟨VT.out.keep2 fun b o e hl => hk b (.inl (FA.out b o e hl)), O2.out.keep fun b hb => hk b (.inr hb)⟩
     clear hlp
     go_upto_region 16 with (first
      | ((with_reducible show wpList _ _ _ ({ dst := some 54, op := .load _ _, type := _, pos := _, after := _, guard := _ } :: _) _ _); refine wpList_load_rcm rfl (.tmp 53) rfl b (o + j * 18) (by simp [Act.eval, go_sem]) r RG6.out ?_)
      | (go_at_call 22; (with_reducible refine (CP.out _ _ D2.out).mono ?_); rintro e w7 hp; obtain ⟨rfl, hd2, hkk⟩ := hp; obtain ⟨h1, h2⟩ := KA.out _ hkk; have V7 := Lib.hid h1; have O7 := Lib.hid h2; have D3 := Lib.hid hd2; clear hd2 hkk h1 h2 D2 KA))
     clear RG6
     have HM := Lib.hid HV.out.1
     have LM2 : Hid ((s2.vs.map (·.n)).length = s2.vs.length) := List.length_map _
     obtain ⟨M, hM⟩ : ∃ M, M = s2.vs.length := ⟨_, rfl⟩
     rw [← hM] at HM LM2
     have m1 : (M : Int) ≤ (p : Int) + 1 := by have := HM.out; have := HN.out; omega
     have m2 : (p : Int) ≤ (M : Int) := by have := HM.out; have := HN.out; omega
     have d1 : decide ((p : Int) + 1 < (M : Int)) = false := by simp; omega
     have d2 : decide (M < p) = false := by simp; omega
     clear hM
     go_upto_region 17 with (first
      | (go_at_call 24; (with_reducible refine (bp_vers D3.out).mono ?_); rintro e w8 ⟨A8, c8, rfl, h1, h2, h3⟩; rw [LM2.out]; have D8 := Lib.hid (bp_on D3.out h2); have V8 := Lib.hid (V7.out.on h2); have O8 := Lib.hid (O7.out.below h2); clear h1 h2 h3 D3 V7 O7)
      | (go_at_call 24; (with_reducible refine (bp_vers D8.out).mono ?_); rintro e w9 ⟨A9, c9, rfl, h1, h2, h3⟩; rw [LM2.out]; have D9 := Lib.hid (bp_on D8.out h2); have V9 := Lib.hid (V8.out.on h2); have O9 := Lib.hid (O8.out.below h2); clear h1 h2 h3 D8 V8 O8))
     go_upto_region 18 with fail
     have B9r := Lib.hid (bp_below D9.out)
     go_wp2_with fail
     go_loopw [12] (fun k wt => ∃ i : Nat, i ≤ p ∧ k = .int .i64 i ∧ BP w3 (fun b => F5 b ∨ (Value.slice AF p cF).ownBlock = some b) q s2 wt ∧ Below w9.heap.size w9 wt) (fun k _ => p - (intOf k).toNat)
     case atStart => exact ⟨0, Nat.zero_le _, rfl, D9.out, Below.refl _ _⟩
     case round =>
      clear D9
      obtain ⟨i, hi, rfl, hd, hbe⟩ := hrel
      have D2 := Lib.hid hd
      have B5 := Lib.hid hbe
      clear hd hbe
      have k3 : (0 : Int) ≤ (i : Int) := by omega
      by_cases hli : i < p
      ·have hlp2 : i < s.vs.length := by have := HN.out; omega
       have hxp : s.vs[i]? = some (s.vs[i]'hlp2) := List.getElem?_eq_getElem _
       have VP := Lib.hid (VI.out _ (List.getElem_mem hlp2))
       generalize s.vs[i]'hlp2 = x at *
       obtain ⟨bv, ov, rfl, hbv, hcv⟩ := (V9.out.on B5.out).at_ (K := 1) (t := x.n) (fun _ => rfl) (by rw [List.getElem?_map, hxp]; rfl)
       have e0 := hcv 0 _ rfl
       rw [Nat.mul_one, Nat.add_zero] at e0
       obtain ⟨bt, ot, rfl, hbt, hct⟩ := (O9.out.sl.on B5.out).at_ txC_len (t := x.t) (by rw [List.getElem?_map, hxp]; rfl)
       have t0 := hct 0 _ rfl
       rw [Nat.mul_one, Nat.add_zero] at t0
       have T0 := Lib.hid t0
       have HBT := Lib.hid hbt
       have k4 : (i : Int) < (p : Int) := by omega
       have HLI := Lib.hid hli
       have CD := Lib.hid (bp_digest D2.out (T3.out.on (bp_below D2.out)) x.n VP.out.1)
       have DX := dig_text (HV.out.2 _ _ VP.out.2)
       rw [DX.1, DX.2] at CD
       generalize x.t = tx at *
       generalize x.n = xn at *
       clear hxp hcv hct hli hlp2 VP DX t0 hbt
       go_upto_region 22 with (go_at_call 23; (with_reducible refine CD.out.mono ?_); rintro e w10 ⟨rfl, hb⟩; have D6 := Lib.hid (bp_on D2.out hb); have B6 := Lib.hid (B5.out.trans (hb.mono B5.out.size)); have T1 := Lib.hid ((hb.cell (p := ⟨bt, ot + i, none⟩) HBT.out).trans T0.out); have HB2 := Lib.hid (Nat.lt_of_lt_of_le HBT.out hb.size); clear hb D2 B5 CD)
       have t0 := T1.out
       have hbt := HB2.out
       go_wp2_with fail
       exact ⟨⟨i + 1, by have := HLI.out; omega, by go_num, D6.out, B6.out⟩, by simp [intOf]; have := HLI.out; omega⟩
      ·obtain rfl : i = p := by omega
       have k4 : (i : Int) ≤ (i : Int) := Int.le_refl _
       clear hli
       go_wp2_with fail
       exact ⟨⟨j + 1, by have := HLT.out; omega, by go_num, by rw [HT.out]; exact bp_less D2.out (fun _ h => h.elim)⟩, by simp [intOf]; have := HLT.out; omega⟩
  ·obtain rfl : j = l3.length := by omega
   have B9 := Lib.hid (B3.out.trans ((bp_below D.out).mono B3.out.size))
   have i2 : ((l3.length : Nat) : Int) ≤ ((l3.length : Nat) : Int) := Int.le_refl _
   clear hlt
   go_wp2_with fail
   go_ret
   exact ⟨rfl, B9.out⟩
end Go.Proofs.YtnacjhnfkkddcaaGreatDoor
namespace Go.Proofs.YtnacjhnfkkddcaaGreatDoor.bookDigests
open Go.ChangeShapes Go.WideShapes Go.ChangeAt Go.RowKit Go.Deep
open Go.ChangeMaps (open_string shut_string)
set_option linter.unusedVariables false
theorem own : ownKnob Tryz.prog.godebug = none := by kernel_rfl
theorem laidOut : laidOutB Tryz.prog = true := by kernel_rfl
set_option maxRecDepth 100000 in
theorem lifted (os : Os) (started : os.Started) (H : Type) (enc : TypeId × Value → H) :
  ReturnsInHanded {} Tryz.checked os 6 .any (fun w args => (Rows.bookDigestsSpec.pre enc Tryz.prog Tryz.f6 Rows.bookDigestsRow.domain false w args ∧ laidMetH Tryz.prog Rows.bookDigestsRow.laid w) ∧ sizedMet enc Tryz.prog Tryz.f6 (OpenSpec.ofChange Rows.bookDigestsSpec) false w args)
   (Rows.bookDigestsSpec.post enc Tryz.prog Tryz.f6 false true false false) := by
 refine returns_laid_shaped (C := Tryz.checked) (X := fun w _ => laidMetH Tryz.prog Rows.bookDigestsRow.laid w) (fun _ _ _ hh h => h.of_heap hh) own started (by kernel_rfl) Tryz.func6
  (ChangeSpec.witness_shaped (enc := enc) (C := Tryz.checked) (os := os) (X := fun w _ => laidMetH Tryz.prog Rows.bookDigestsRow.laid w) false (World.laidAll Tryz.prog os Rows.bookDigestsRow.laid) #[.int .i64 0, .slice none 0 0] 8 (World.laidAll_os _ _ _)
   (World.shaped_of_ZipB (by kernel_rfl) (by kernel_rfl)) (by kernel_rfl) (by kernel_rfl) (by kernel_rfl)
   (by rw [MakeChecks.laidMetH_plain _ _ _ (by kernel_rfl)]; exact laidMet_laidAll _ (by kernel_rfl) (by kernel_rfl))) ?_
 intro W base args ds gs before hval0 hW hL hsh
 have TB : BT W := tb_ofE hL hsh
 have hval : ∀ (j : Nat) t v, Tryz.f6.params[j]? = some t → args[j]? = some v → Value.okWide Tryz.prog W .any base t v := hval0
 have hW' := hW
 obtain ⟨p, q, hA0, hV, rfl, hfz, hnd⟩ := hW
 have hA : DataW.TrodAll enc Tryz.prog W 0 (fun _ => true) true Tryz.f6.params.toList args.toList ds p := hA0
 rw [Tryz.params6] at hA hval
 obtain ⟨v0, vs0, d0, ds0, p0, q0, hargs, rfl, rfl, h0, r0⟩ := trodAll_cons hA
 obtain ⟨v1, vs1, d1, ds1, p1, q1, rfl, rfl, rfl, h1, r1⟩ := trodAll_cons r0
 obtain ⟨rfl, rfl, rfl⟩ := trodAll_nil r1
 obtain rfl : args = #[v0, v1] := by cases args; simp_all
 obtain ⟨rfl, rfl⟩ := trodVars_none hV
 obtain ⟨a0, rfl, rfl, rfl, w0⟩ := open_int Tryz.underlying3 (hval 0 3 v0 rfl rfl) h0
 obtain ⟨a1, len1, cap1, rfl⟩ := okWide_slice Tryz.underlying22 (hval 1 22 v1 rfl rfl)
 have k1 := h1
 have lt1 : ∀ x ∈ p1, x.block < W.heap.size := by obtain ⟨m, hm⟩ := k1; exact DataW.trod_lt m _ _ _ hm
 obtain ⟨l1, s1⟩ : ∃ ts, SlF Bk.rcC W a1 len1 cap1 ts ∧ ∀ r ∈ ts, Rc.In r := by
  obtain ⟨fuel, hf⟩ := h1
  exact recs_of hf
 clear hA0 hval0
 refine (bookdigests_walk a0 a1 len1 cap1 l1 s1.2 W s1.1 TB).mono fun e W' ⟨he, bel⟩ => ?_
 subst he
 exact ⟨_, rfl, _, _, _, [], _, [], hW', trodAll_mk1 (shut_bool Tryz.underlying4 _), (trodAll_cons_mk (shut_int Tryz.underlying3 w0) (trodAll_cons_mk (Below.trod laidOut (by kernel_rfl) (of_decide_eq_true (by kernel_rfl)) k1 bel lt1) trodAll_mk0)), rfl, bel.frame _, fun h => by cases h⟩
theorem over : Rows.bookDigestsRow.holds Tryz.pinned (OpenSpec.ofChange Rows.bookDigestsSpec) :=
 OpenClaim.holds_of_wide 6 Tryz.f6 rfl rfl rfl rfl rfl rfl rfl ⟨rfl, rfl, rfl, rfl, rfl⟩ rfl rfl rfl rfl rfl (by kernel_rfl) Tryz.func6 (by kernel_rfl)
  (of_decide_eq_true (by kernel_rfl)) (by unfold Func.isWrapper; first | (rw [if_pos (by decide +kernel)]; kernel_rfl) | (rw [if_neg (by decide +kernel)]; exact ⟨rfl, rfl⟩))
  (fun os started H enc _ => lifted os started H enc)
theorem proved : Rows.BookDigestsCardSaid :=
 Claim7.holds_tied_plain_at .later [] [.data, .data, .data, .data, .data, .sentinel, .sentinel] true (true, "c5c1848f9e642c3994f925240c50aea25b5ca66c5be079995ae028e73a4b7396") true over (fun _ h => by cases h) (by kernel_rfl) (fun _ h => by cases h) bookDigests_row_tie rfl ⟨rfl, rfl⟩ (by kernel_rfl) rfl
  (fun f fn hf hfn => by
   obtain rfl : f = 6 := Option.some.inj ((show Tryz.prog.funcNamed Rows.bookDigestsRow.func = some 6 by kernel_rfl).symm.trans hf) |>.symm
   obtain rfl : fn = Tryz.f6 := (Option.some.inj (Tryz.func6.symm.trans hfn)).symm
   exact ⟨by kernel_rfl, fun j t ht => by
    rw [Tryz.params6] at ht
    have hm : t ∈ [3, 22] := by simpa using Array.mem_of_getElem? ht
    have hall : ([3, 22].all fun u => !Tryz.prog.wantsStandIn u) = true := by kernel_rfl
    exact (show Tryz.prog.wantsStandIn t = false by simpa using List.all_eq_true.1 hall t hm)⟩)
  (by kernel_rfl)
end Go.Proofs.YtnacjhnfkkddcaaGreatDoor.bookDigests
