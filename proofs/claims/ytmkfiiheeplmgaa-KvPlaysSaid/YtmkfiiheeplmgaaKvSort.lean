/-
  Keys that are gathered from a map and sorted: what comes of it. No program is named. No condition.
-/
import Derived.Test.YtmkfiiheeplmgaaKvMap
import Derived.Test.YtmkfiiheeplmgaaRowsG
import Derived.Sort.OwnSorted
import Derived.Sort.KeysCollected
namespace Go.Proofs.Ytmkfiiheeplmgaa
open Go.RowKit Go.Maps Go.Proofs

def toL (k : ByteArray) : List UInt8 := k.data.toList
theorem toL_inj {a b : ByteArray} (h : toL a = toL b) : a = b := ByteArray.ext (Array.ext' h)
theorem toL_eq (k : ByteArray) : k.toList = toL k := ByteArray.toList_eq k
def ofL (x : List UInt8) : ByteArray := ⟨x.toArray⟩
theorem ofL_toL (k : ByteArray) : ofL (toL k) = k := by unfold ofL toL; simp
theorem enc_toL (k : ByteArray) : encStr (toL k) = .string k := by show Value.string (ofL (toL k)) = _; rw [ofL_toL]
theorem map_enc (ks : List ByteArray) : (ks.map toL).map encStr = ks.map Value.string := by
  rw [List.map_map]
  exact List.map_congr_left fun k _ => enc_toL k
theorem bl_lt : ∀ x y : List UInt8, Op.bytesLess x y = decide (x < y)
  | [], [] => rfl
  | [], _ :: _ => by simp [Op.bytesLess]
  | _ :: _, [] => by simp [Op.bytesLess]
  | a :: x, b :: y => by
    simp only [Op.bytesLess, bl_lt x y, List.cons_lt_cons_iff]
    by_cases h : a < b <;> by_cases h2 : a = b <;> simp [h, h2]
theorem lt_iff {a b : ByteArray} : Kv.lt a b ↔ toL a < toL b := by
  unfold Kv.lt
  rw [toL_eq, toL_eq, bl_lt, decide_eq_true_eq]
/-- Texts sorted. -/
def sortT (ks : List ByteArray) : List ByteArray := ((ks.map toL).mergeSort leB).map ofL
theorem sortT_toL (ks : List ByteArray) : (sortT ks).map toL = (ks.map toL).mergeSort leB := by
  unfold sortT
  rw [List.map_map]
  conv => rhs; rw [← List.map_id ((ks.map toL).mergeSort leB)]
  refine List.map_congr_left fun x _ => ?_
  show toL (ofL x) = x
  unfold toL ofL
  simp
theorem sortT_length (ks : List ByteArray) : (sortT ks).length = ks.length := by unfold sortT; simp
/-- Sorted, they are the one rising list that has the same. -/
theorem sortT_eq {ks ts : List ByteArray} (hn : ks.Nodup) (hr : ts.Pairwise Kv.lt) (hm : ∀ k, k ∈ ks ↔ k ∈ ts) : sortT ks = ts := by
  have hnt : ts.Nodup := hr.imp fun h => Kv.lt_ne h
  have hp : ks.Perm ts := (List.perm_ext_iff_of_nodup hn hnt).2 hm
  have tr : ∀ a b c : List UInt8, leB a b = true → leB b c = true → leB a c = true := fun a b c h1 h2 => by simp only [leB, decide_eq_true_eq] at *; exact List.le_trans h1 h2
  have to : ∀ a b : List UInt8, (leB a b || leB b a) = true := fun a b => by simp only [leB, Bool.or_eq_true, decide_eq_true_eq]; exact List.le_total a b
  have e : (ks.map toL).mergeSort leB = ts.map toL := by
    refine List.Perm.eq_of_pairwise (le := fun a b => leB a b = true) (fun a b _ _ h1 h2 => ?_) (List.pairwise_mergeSort tr to _) (List.pairwise_map.2 (hr.imp fun {a b} h => ?_)) ((List.mergeSort_perm _ leB).trans (hp.map toL))
    · simp only [leB, decide_eq_true_eq] at h1 h2
      exact List.le_antisymm h1 h2
    · simp only [leB, decide_eq_true_eq]
      exact List.le_of_lt (lt_iff.1 h)
  have h2 := sortT_toL ks
  rw [e] at h2
  refine List.ext_getElem? fun i => ?_
  have h3 := congrArg (fun l => l[i]?) h2
  simp only [List.getElem?_map] at h3
  cases h4 : (sortT ks)[i]? with
  | none => rw [h4] at h3; cases h5 : ts[i]? with
    | none => rfl
    | some y => rw [h5] at h3; cases h3
  | some x =>
    rw [h4] at h3
    cases h5 : ts[i]? with
    | none => rw [h5] at h3; cases h3
    | some y => rw [h5] at h3; exact congrArg some (toL_inj (Option.some.inj h3))
theorem since_rise {l : List Kv.En} (h : Kv.Rise l) (s r : Int) : (Kv.since ⟨l, s⟩ r).Pairwise Kv.lt := by
  unfold Kv.since
  exact List.pairwise_map.2 (List.Pairwise.filter _ h)
theorem mem_since {l : List Kv.En} (h : Kv.Rise l) {s r : Int} {k : ByteArray} : k ∈ Kv.since ⟨l, s⟩ r ↔ ∃ e, Kv.find l k = some e ∧ r < e.rev := by
  unfold Kv.since
  rw [List.mem_map]
  constructor
  · rintro ⟨e, he, rfl⟩
    rw [List.mem_filter, decide_eq_true_eq] at he
    exact ⟨e, Kv.find_mem h he.1, he.2⟩
  · rintro ⟨e, he, hr⟩
    have := Kv.find_some he
    exact ⟨e, List.mem_filter.2 ⟨this.1, by simpa using hr⟩, this.2⟩
/-- What was gathered: no key twice; those that are there, put behind r, and no longer to come. -/
def Coll (l : List Kv.En) (r : Int) (left : Lit → Bool) (ks : List ByteArray) : Prop := ks.Nodup ∧ ∀ k, k ∈ ks ↔ (∃ e, Kv.find l k = some e ∧ r < e.rev) ∧ left (kl k) = false
theorem Coll.start {D : DataW Unit} {l : List Kv.En} (h : DIs D l) (r : Int) : Coll l r (Maps.has D) [] := by
  refine ⟨List.nodup_nil, fun k => ?_⟩
  simp only [List.not_mem_nil, false_iff, not_and]
  rintro ⟨e, he, _⟩ h2
  have := h.has k
  rw [he, h2] at this
  cases this
theorem same_kl {k x : ByteArray} : (kl k).sameKey (kl x) = decide (k = x) := by
  by_cases h : k = x
  · subst h; rw [WideAt.sameKey_self (kl_isKey k)]; simp
  · rw [Maps.sameKey_ne (fun e => h (kl_inj e))]; simp [h]
theorem Coll.step {l : List Kv.En} {r : Int} {left : Lit → Bool} {ks : List ByteArray} (h : Coll l r left ks) {x : ByteArray} {e : Kv.En} (hx : left (kl x) = true) (he : Kv.find l x = some e) :
    Coll l r (fun z => left z && !z.sameKey (kl x)) (if r < e.rev then ks ++ [x] else ks) := by
  have hnew : x ∉ ks := fun hm => by have := ((h.2 x).1 hm).2; rw [hx] at this; cases this
  by_cases hr : r < e.rev
  · rw [if_pos hr]
    refine ⟨List.nodup_append.2 ⟨h.1, by simp, fun a ha b hb => by simp at hb; subst hb; exact fun e => hnew (e ▸ ha)⟩, fun k => ?_⟩
    rw [List.mem_append, h.2 k]
    show _ ↔ _ ∧ (left (kl k) && !(kl k).sameKey (kl x)) = false
    rw [same_kl]
    by_cases hk : k = x
    · subst hk; simp [he, hr]
    · simp [hk]
  · rw [if_neg hr]
    refine ⟨h.1, fun k => ?_⟩
    rw [h.2 k]
    show _ ↔ _ ∧ (left (kl k) && !(kl k).sameKey (kl x)) = false
    rw [same_kl]
    by_cases hk : k = x
    · subst hk; simp [he, hr]
    · simp [hk]
theorem Coll.all {l : List Kv.En} {r : Int} {left : Lit → Bool} {ks : List ByteArray} (h : Coll l r left ks) (hl : ∀ z, left z = false) (hr : Kv.Rise l) (s : Int) : sortT ks = Kv.since ⟨l, s⟩ r :=
  sortT_eq h.1 (since_rise hr s r) fun k => by rw [h.2 k, mem_since hr]; simp [hl]
/-- What an entry of the map holds, whose key is still to come. -/
theorem DIs.entry {D : DataW Unit} {l : List Kv.En} (h : DIs D l) {x v : ByteArray} {r : Int} (hat : ∀ z, D.atKey (kl x) z = eD v r) : ∃ e, Kv.find l x = some e ∧ e.val = v ∧ e.rev = r := by
  have h1 := h.has x
  rw [Maps.has_true_of_atKey hat] at h1
  cases hf : Kv.find l x with
  | none => rw [hf] at h1; cases h1
  | some e =>
    obtain ⟨e1, e2⟩ := eD_inj ((h.at_ x e hf (eD v r)).symm.trans (hat _))
    exact ⟨e, rfl, e1, e2⟩
/-- The library's sort of texts, asked of a function. -/
structure SortC (P : Program) (f : FuncId) : Prop where
  row : ∀ (blk off cap : Nat) (ss : List (List UInt8)) (w : World), Sort.Holds encStr w blk off ss.toArray → blk < w.heap.size → ss.length < 4611686018427387904 → Calls P f #[.slice (some ⟨blk, off, none⟩) ss.length cap] w fun e w' =>
      e = .returned (.tuple #[]) ∧ ∃ n os, w' = Sort.grow (Sort.putRow encStr (Sort.ahead w n) blk off (ss.mergeSort fun x y => decide (x ≤ y)).toArray) os
  none_ : ∀ w, Calls P f #[.slice none 0 0] w fun e w' => e = .returned (.tuple #[]) ∧ w' = w
theorem sort_own {P : Program} {f : FuncId} (hS : SortC P f) {e : TypeId} {w : World} {B : Nat} {v : Value} {ks : List ByteArray} (h : OwnR 1 (fun _ cs (s : ByteArray) => cs = [.string s]) e w w B v ks) (hz : ks.length ≤ 1000000) :
    Calls P f #[v] w fun en w' => en = .returned (.tuple #[]) ∧ OwnR 1 (fun _ cs (s : ByteArray) => cs = [.string s]) e w' w' B v (sortT ks) ∧ w.grownBy w' v.ownBlock := by
  obtain ⟨xs, h1, h2⟩ := h
  have hxs : xs = ks.map Value.string := by
    have hl := h1.1
    refine List.ext_getElem? fun i => ?_
    by_cases hi : i < ks.length
    · obtain ⟨cs, _, hc, he⟩ := h2 i ks[i] (List.getElem?_eq_getElem hi)
      have := hc 0 (by omega)
      rw [Nat.mul_one, Nat.add_zero, he] at this
      rw [this]
      simp [hi]
    · rw [List.getElem?_eq_none (by omega), List.getElem?_eq_none (by simpa using Nat.le_of_not_lt hi)]
  have own_of : ∀ (w' : World) (ts : List ByteArray), ts.length = ks.length → w'.ownsRow B e 1 v ks.length (ts.map Value.string) → OwnR 1 (fun _ cs (s : ByteArray) => cs = [.string s]) e w' w' B v ts := fun w' ts hl ho => by
    refine ⟨_, by rw [hl]; exact ho, fun j t hj => ⟨[.string t], rfl, fun i hi => ?_, rfl⟩⟩
    obtain rfl : i = 0 := by omega
    rw [Nat.mul_one, Nat.add_zero, List.getElem?_map, hj]
    rfl
  rcases h1.2 with ⟨rfl, h0⟩ | ⟨g, cap, cur, rfl, hbase, hb, c1, c2, c3, c4⟩
  · obtain rfl : ks = [] := List.eq_nil_of_length_eq_zero h0
    refine (hS.none_ w).mono fun en w' ⟨he, hw⟩ => ⟨he, ?_, ?_⟩
    · have : sortT [] = [] := List.eq_nil_of_length_eq_zero (sortT_length [])
      rw [this]
      exact OwnR.none_ _ _ _ _
    · subst hw
      exact ⟨rfl, rfl, rfl, Nat.le_refl _, fun i hi _ => rfl⟩
  · rw [Nat.mul_one] at c4
    have hk : (ks.map toL).map encStr = xs := by rw [map_enc, hxs]
    have h5 := hS.row g 0 cap (ks.map toL) w (holds_of_block hb (by rw [List.length_map, hk]; exact c4)) (Array.getElem?_eq_some_iff.1 hb).1 (by rw [List.length_map]; omega)
    rw [List.length_map] at h5
    refine h5.mono fun en w' ⟨he, n, os, hw⟩ => ⟨he, ?_, ?_⟩
    · subst hw
      have h6 := ownsRow_sorted (base := B) (g := g) (cap := cap) (n := n) (os := os) (ss := ks.map toL) (ts := (ks.map toL).mergeSort leB) (by simp) hbase hb (by rw [List.length_map]; exact c1) c2 c3
      rw [List.length_map] at h6
      refine own_of _ _ (sortT_length ks) ?_
      rw [← map_enc, sortT_toL]
      exact h6
    · subst hw
      exact grownBy_sorted _
end Go.Proofs.Ytmkfiiheeplmgaa
