/-
  What is asked of package kv: the list of its calls' contracts over a predicate that tells a store in memory (of whatever struct). No condition.
-/
import Derived.Test.YtmkfiiheeplmgaaKvRows
namespace Go.Proofs.Ytmkfiiheeplmgaa
open Go.RowKit

/-- The store in block q reads as s; its blocks are among X's. -/
abbrev KPred := World → (Nat → Prop) → Nat → Kv.St → Prop
def KTx (l : List ByteArray) (w : World) (e : Ending) (w' : World) : Prop := ∃ v, e = .returned v ∧ OwnTx w' w.heap.size v l ∧ Below w.heap.size w w'
def KInt (x : Int) (w : World) (e : Ending) (w' : World) : Prop := e = .returned (.int .i64 x) ∧ Below w.heap.size w w'
/-- A call that answers a bool. -/
def KBool (p : Prop) (w : World) (e : Ending) (w' : World) : Prop := (∃ x : Bool, e = .returned (.bool x) ∧ (x = true ↔ p)) ∧ Below w.heap.size w w'
def KDo (K : KPred) (X : Nat → Prop) (q : Nat) (s : Kv.St) (ops : List Kv.Po) (w : World) (e : Ending) (w' : World) : Prop :=
  ∃ X', e = .returned (.tuple #[.int .i64 (Kv.doN s ops), .int .i64 (Kv.doE s ops : Nat)]) ∧ K w' X' q (Kv.doS s ops) ∧ (∀ i, X' i → X i ∨ w.heap.size ≤ i) ∧ Kept X w w'
def KGet (s : Kv.St) (k : ByteArray) (w : World) (e : Ending) (w' : World) : Prop := e = .returned (.tuple #[.string (Kv.valOf s.l k), .int .i64 (Kv.revOf s.l k)]) ∧ Below w.heap.size w w'
structure KC (K : KPred) : Prop where
  keep : ∀ w w' X q s, K w X q s → w.heap.size ≤ w'.heap.size → (∀ i, X i → w'.heap[i]? = w.heap[i]?) → K w' X q s
  lt : ∀ w X q s, K w X q s → ∀ i, X i → i < w.heap.size
  good : ∀ w X q s, K w X q s → Kv.Good s
  make : ∀ W, Calls Try.prog 10 #[] W (fun e w' => ∃ q X, e = .returned (.pointer (some ⟨q, 0, none⟩)) ∧ K w' X q Kv.St.none ∧ (∀ i, X i → W.heap.size ≤ i) ∧ Below W.heap.size W w')
  do_ : ∀ W X q s n c A ops, K W X q s → s.rev ≤ 1000 → SlP W A n c ops → ops.length ≤ 70 → Calls Try.prog 12 #[.pointer (some ⟨q, 0, none⟩), .slice A n c] W (KDo K X q s ops W)
  get : ∀ W X q s k, K W X q s → k.size ≤ maxLen → Calls Try.prog 16 #[.pointer (some ⟨q, 0, none⟩), .string k] W (KGet s k W)
  rev : ∀ W X q s, K W X q s → Calls Try.prog 21 #[.pointer (some ⟨q, 0, none⟩)] W (KInt s.rev W)
  len : ∀ W X q s, K W X q s → Calls Try.prog 23 #[.pointer (some ⟨q, 0, none⟩)] W (KInt (s.l.length : Nat) W)
  keys : ∀ W X q s, K W X q s → Calls Try.prog 22 #[.pointer (some ⟨q, 0, none⟩)] W (KTx (Kv.keysOf s.l) W)
  since : ∀ W X q s r, K W X q s → i64In r → Calls Try.prog 19 #[.pointer (some ⟨q, 0, none⟩), .int .i64 r] W (KTx (Kv.since s r) W)
/-- Of a store that isn't there. -/
structure KN : Prop where
  do_ : ∀ W n c A ops, SlP W A n c ops → Calls Try.prog 12 #[.pointer none, .slice A n c] W (fun e w' => e = .returned (.tuple #[.int .i64 0, .int .i64 1]) ∧ Below W.heap.size W w')
  get : ∀ W k, Calls Try.prog 16 #[.pointer none, .string k] W (fun e w' => e = .returned (.tuple #[.string ⟨#[]⟩, .int .i64 0]) ∧ Below W.heap.size W w')
  rev : ∀ W, Calls Try.prog 21 #[.pointer none] W (KInt 0 W)
  len : ∀ W, Calls Try.prog 23 #[.pointer none] W (KInt 0 W)
  keys : ∀ W, Calls Try.prog 22 #[.pointer none] W (KTx [] W)
  since : ∀ W r, i64In r → Calls Try.prog 19 #[.pointer none, .int .i64 r] W (KTx [] W)
theorem KC.below {K : KPred} (h : KC K) {w w' : World} {X : Nat → Prop} {q : Nat} {s : Kv.St} (hk : K w X q s) (hb : Below w.heap.size w w') : K w' X q s :=
  h.keep _ _ _ _ _ hk hb.size fun i hi => hb.block i (h.lt _ _ _ _ hk i hi)
end Go.Proofs.Ytmkfiiheeplmgaa
