/-
  A map of texts with revisions in memory: block b reads as a rising list of entries. No program is named. No condition.
-/
import Derived.Test.YtmkfiiheeplmgaaKvMath
import Derived.Maps.OwnSet
import Derived.Maps.OwnOps
import Derived.Maps.RangeWalk
import Derived.StringKeys
namespace Go.Proofs.Ytmkfiiheeplmgaa
open Go.RowKit Go.Maps Go.WideMaps

/-- How a key is told; an entry's datum. -/
def kl (k : ByteArray) : Lit := .string k.data.toList
def eD (v : ByteArray) (r : Int) : DataW Unit := .agg [.lit (.string v.data.toList), .lit (.int .i64 r)]
def eR : Value → Option (DataW Unit × List MemPlace)
  | .agg ⟨[.string s, .int .i64 r]⟩ => some (eD s r, [])
  | _ => none
theorem eR_mk (v : ByteArray) (r : Int) : eR (.agg #[.string v, .int .i64 r]) = some (eD v r, []) := rfl
theorem eR_inv {v : Value} {z : DataW Unit × List MemPlace} (h : eR v = some z) : ∃ s r, v = .agg #[.string s, .int .i64 r] ∧ z = (eD s r, []) := by
  unfold eR at h
  split at h
  · rename_i s r
    exact ⟨s, r, rfl, (Option.some.inj h).symm⟩
  · cases h
theorem kl_inj {a b : ByteArray} (h : kl a = kl b) : a = b := by
  unfold kl at h
  injection h with h
  exact ByteArray.ext (Array.ext' h)
theorem eD_inj {v v' : ByteArray} {r r' : Int} (h : eD v r = eD v' r') : v = v' ∧ r = r' := by
  unfold eD at h
  injection h with h
  simp only [List.cons.injEq, and_true] at h
  obtain ⟨h1, h2⟩ := h
  injection h1 with h1
  injection h2 with h2
  injection h2 with _ h2
  exact ⟨kl_inj h1, h2⟩
theorem kl_isKey (k : ByteArray) : WideAt.IsKeyLit (kl k) := trivial
/-- The datum reads as the list. -/
structure DIs (D : DataW Unit) (l : List Kv.En) : Prop where
  has : ∀ k : ByteArray, Maps.has D (kl k) = (Kv.find l k).isSome
  at_ : ∀ (k : ByteArray) (e : Kv.En), Kv.find l k = some e → ∀ z, D.atKey (kl k) z = eD e.val e.rev
  size : Maps.size D = l.length
  tidy : Tidy D
theorem DIs.look {D : DataW Unit} {l : List Kv.En} (h : DIs D l) (k : ByteArray) : D.atKey (kl k) (eD ⟨#[]⟩ 0) = eD (Kv.valOf l k) (Kv.revOf l k) := by
  unfold Kv.valOf Kv.revOf
  cases hf : Kv.find l k with
  | none =>
    have := h.has k
    rw [hf] at this
    exact Maps.atKey_of_not_has this _
  | some e => exact h.at_ k e hf _
theorem DIs.nil : DIs (.map []) [] := ⟨fun _ => rfl, fun k e h => (by cases h), rfl, tidy_empty⟩
theorem dropK_length {l : List Kv.En} (h : Kv.Rise l) (k : ByteArray) : (Kv.dropK l k).length + (if (Kv.find l k).isSome then 1 else 0) = l.length := by
  induction l with
  | nil => rfl
  | cons e l ih =>
    have hr := List.pairwise_cons.1 h
    rw [Kv.dropK_cons, Kv.find_cons]
    by_cases hk : e.key = k
    · have : Kv.find l k = none := Kv.find_none.2 fun x hx hxk => Kv.lt_ne (hr.1 x hx) (hk.trans hxk.symm)
      have h2 := ih hr.2
      rw [this] at h2
      rw [if_pos hk, if_pos hk]
      simp at h2 ⊢
      exact h2
    · have h2 := ih hr.2
      rw [if_neg hk, if_neg hk, List.length_cons, List.length_cons]
      omega
theorem DIs.del {D : DataW Unit} {l : List Kv.En} (h : DIs D l) (hr : Kv.Rise l) (k : ByteArray) : DIs (D.del (kl k)) (Kv.dropK l k) := by
  refine ⟨fun k' => ?_, fun k' e he z => ?_, ?_, h.tidy.del _⟩
  · rw [Kv.find_dropK]
    by_cases hk : k' = k
    · subst hk; rw [if_pos rfl]; exact has_del_same
    · rw [if_neg hk, has_del_other (fun e => hk (kl_inj e))]; exact h.has k'
  · rw [Kv.find_dropK] at he
    by_cases hk : k' = k
    · rw [if_pos hk] at he; cases he
    · rw [if_neg hk] at he
      rw [atKey_del_other (fun e => hk (kl_inj e))]; exact h.at_ k' e he z
  · have h1 := size_del (k := kl k) h.tidy
    have h2 := dropK_length hr k
    rw [h.has k, h.size] at h1
    omega
theorem DIs.put {D : DataW Unit} {l : List Kv.En} (h : DIs D l) (hr : Kv.Rise l) (k v : ByteArray) (r : Int) : DIs (D.put (kl k) (eD v r)) (Kv.putK (Kv.dropK l k) ⟨k, v, r⟩) := by
  have hne : ∀ x ∈ Kv.dropK l k, x.key ≠ (⟨k, v, r⟩ : Kv.En).key := fun x hx => (Kv.mem_dropK.1 hx).2
  refine ⟨fun k' => ?_, fun k' e he z => ?_, ?_, h.tidy.put (kl_isKey k) _⟩
  · rw [Kv.find_putK hne, Kv.find_dropK]
    by_cases hk : k = k'
    · subst hk; rw [if_pos rfl]; exact has_put_same h.tidy.isMap (kl_isKey k) _
    · rw [if_neg hk, if_neg (fun e => hk e.symm), has_put_other (fun e => hk (kl_inj e).symm)]; exact h.has k'
  · rw [Kv.find_putK hne, Kv.find_dropK] at he
    by_cases hk : k = k'
    · subst hk
      rw [if_pos rfl] at he
      obtain rfl := Option.some.inj he
      exact atKey_put_same h.tidy.isMap (kl_isKey k) _ _
    · rw [if_neg hk, if_neg (fun e => hk e.symm)] at he
      rw [atKey_put_other (fun e => hk (kl_inj e).symm)]; exact h.at_ k' e he z
  · have h1 := size_put (k := kl k) h.tidy (eD v r)
    have h2 := dropK_length hr k
    rw [h.has k, h.size] at h1
    rw [h1, Kv.putK_length]
    split at h2 <;> simp_all <;> omega
/-- Block b is a map that reads as l. -/
def MapIs (P : Program) (kt : TypeId) (w : World) (b : Nat) (l : List Kv.En) : Prop := ∃ D, w.ownsMap P kt eR b l.length D ∧ DIs D l
section
variable {P : Program} {kt et t : TypeId} {w w' : World} {b : Nat} {l : List Kv.En}
theorem owns_tight {n : Nat} {D : DataW Unit} (h : w.ownsMap P kt eR b n D) : w.ownsMap P kt eR b (Maps.size D) D := by
  obtain ⟨es, clock, hb, F, _, rfl⟩ := h
  refine ⟨es, clock, hb, F, ?_, rfl⟩
  simp [Maps.size, length_sorted]
theorem MapIs.of {n : Nat} {D : DataW Unit} (h : w.ownsMap P kt eR b n D) (hd : DIs D l) : MapIs P kt w b l := ⟨D, by rw [← hd.size]; exact owns_tight h, hd⟩
theorem MapIs.made (w : World) : MapIs P kt (w.alloc (.map #[] 0)) w.heap.size [] := ⟨_, World.ownsMap_made w P kt eR, DIs.nil⟩
theorem MapIs.lt (h : MapIs P kt w b l) : b < w.heap.size := by
  obtain ⟨D, h1, _⟩ := h
  exact h1.lt
theorem MapIs.keep (h : MapIs P kt w b l) (hb : w'.heap[b]? = w.heap[b]?) : MapIs P kt w' b l := by
  obtain ⟨D, ⟨es, clock, h1, h2⟩, hd⟩ := h
  exact ⟨D, ⟨es, clock, hb.trans h1, h2⟩, hd⟩
/-! The same as equations, for a region that draws its order. -/
theorem look_run (hk : P.underlying kt = some .string) (ht : P.underlying t = some (.map kt et)) (hz : (zeroValue et).run P w = .ok (.agg #[.string ⟨#[]⟩, .int .i64 0]) w) (h : MapIs P kt w b l) (k : ByteArray) (hs : k.size ≤ maxLen) :
    (Instr.lookup t (.map (some b)) (.string k) false).run P w = .ok (.agg #[.string (Kv.valOf l k), .int .i64 (Kv.revOf l k)]) w := by
  obtain ⟨D, h1, hd⟩ := h
  obtain ⟨v, ps, hrun, hv⟩ := h1.lookup (string_keyed hk) ht hz (eR_mk ⟨#[]⟩ 0) (keyOf_string_mk hk hs)
  obtain ⟨s, r, rfl, _⟩ := eR_inv hv
  have h2 := hd.look k
  obtain ⟨e1, e2⟩ := eD_inj ((show D.atKey (kl k) (eD ⟨#[]⟩ 0) = eD s r by have := eR_mk s r; exact Option.some.inj (hv.symm.trans this) |> congrArg Prod.fst).symm.trans h2)
  subst e1 e2
  exact hrun
theorem look_ok_run (hk : P.underlying kt = some .string) (ht : P.underlying t = some (.map kt et)) (hz : (zeroValue et).run P w = .ok (.agg #[.string ⟨#[]⟩, .int .i64 0]) w) (h : MapIs P kt w b l) (k : ByteArray) (hs : k.size ≤ maxLen) :
    (Instr.lookup t (.map (some b)) (.string k) true).run P w = .ok (.tuple #[.agg #[.string (Kv.valOf l k), .int .i64 (Kv.revOf l k)], .bool (Kv.find l k).isSome]) w := by
  obtain ⟨D, h1, hd⟩ := h
  obtain ⟨v, ps, hrun, hv⟩ := h1.look_ok (string_keyed hk) ht hz (eR_mk ⟨#[]⟩ 0) (keyOf_string_mk hk hs)
  obtain ⟨s, r, rfl, _⟩ := eR_inv hv
  have h2 := hd.look k
  obtain ⟨e1, e2⟩ := eD_inj ((show D.atKey (kl k) (eD ⟨#[]⟩ 0) = eD s r by have := eR_mk s r; exact Option.some.inj (hv.symm.trans this) |> congrArg Prod.fst).symm.trans h2)
  subst e1 e2
  have h3 : Maps.has D (.string k.data.toList) = (Kv.find l k).isSome := hd.has k
  rw [h3] at hrun
  exact hrun
theorem put_run (hk : P.underlying kt = some .string) (ht : P.underlying t = some (.map kt et)) (h : MapIs P kt w b l) (hr : Kv.Rise l) (hl : l.length ≤ 1000000) (k u : ByteArray) (r : Int) (hs : k.size ≤ maxLen) :
    ∃ w', (Instr.mapUpdate t (.map (some b)) (.string k) (.agg #[.string u, .int .i64 r])).run P w = .ok () w' ∧ MapIs P kt w' b (Kv.putK (Kv.dropK l k) ⟨k, u, r⟩) ∧ w.mapTurned w' b := by
  obtain ⟨D, h1, hd⟩ := h
  obtain ⟨w', hrun, h2, h3⟩ := h1.store (string_keyed hk) ht (by unfold maxLen; omega) (keyOf_string_mk hk hs) (eR_mk u r)
  exact ⟨w', hrun, MapIs.of h2 (hd.put hr k u r), h3⟩
theorem drop_run (hk : P.underlying kt = some .string) (ht : P.underlying t = some (.map kt et)) (h : MapIs P kt w b l) (hr : Kv.Rise l) (k : ByteArray) (hs : k.size ≤ maxLen) (ty : TypeId) :
    ∃ w', (Builtin.delete_ #[t, kt] ty #[.map (some b), .string k]).run P w = .ok (.tuple #[]) w' ∧ MapIs P kt w' b (Kv.dropK l k) ∧ w.mapTurned w' b := by
  obtain ⟨D, h1, hd⟩ := h
  obtain ⟨w', hrun, h2, h3⟩ := h1.drop (string_keyed hk) ht (keyOf_string_mk hk hs) ty
  exact ⟨w', hrun, MapIs.of h2 (hd.del hr k), h3⟩
theorem len_run (ht : P.underlying t = some (.map kt et)) (h : MapIs P kt w b l) (ty : TypeId) : (Builtin.len_ #[t] ty #[.map (some b)]).run P w = .ok (.int .i64 (l.length : Nat)) w := by
  obtain ⟨D, h1, hd⟩ := h
  rw [← hd.size]
  exact h1.len ht ty
variable {ops : Array Oper} {rest : List Oper} {o : Oper} {a : Act} {Q : Exit → Act → World → Prop}
/-- 'm[k]'. -/
theorem wpList_look_kv (hk : P.underlying kt = some .string) (ht : P.underlying t = some (.map kt et)) (hz : (zeroValue et).run P w = .ok (.agg #[.string ⟨#[]⟩, .int .i64 0]) w) (hg : o.guard = none) (m x : Operand) (hop : o.op = Op.lookup t m x false)
    (hm : a.eval m = .map (some b)) (h : MapIs P kt w b l) (k : ByteArray) (hs : k.size ≤ maxLen) (hx : a.eval x = .string k)
    (hK : wpList P ops Q rest (a.put o.dst (.agg #[.string (Kv.valOf l k), .int .i64 (Kv.revOf l k)])) w) : wpList P ops Q (o :: rest) a w := by
  obtain ⟨D, h1, hd⟩ := h
  refine wpList_plain hg fun K' hK' => ?_
  obtain ⟨v, ps, hrun, hv⟩ := h1.lookup (string_keyed hk) ht hz (eR_mk ⟨#[]⟩ 0) (keyOf_string_mk hk hs)
  obtain ⟨s, r, rfl, _⟩ := eR_inv hv
  have h2 := hd.look k
  obtain ⟨e1, e2⟩ := eD_inj ((show D.atKey (kl k) (eD ⟨#[]⟩ 0) = eD s r by have := eR_mk s r; exact Option.some.inj (hv.symm.trans this) |> congrArg Prod.fst).symm.trans h2)
  subst e1 e2
  unfold Oper.wp
  simp [execOp, hop, hm, hx, hrun, Result.andThen]
  exact hK' _ _ hK
/-- 'v, ok := m[k]'. -/
theorem wpList_look_ok_kv (hk : P.underlying kt = some .string) (ht : P.underlying t = some (.map kt et)) (hz : (zeroValue et).run P w = .ok (.agg #[.string ⟨#[]⟩, .int .i64 0]) w) (hg : o.guard = none) (m x : Operand) (hop : o.op = Op.lookup t m x true)
    (hm : a.eval m = .map (some b)) (h : MapIs P kt w b l) (k : ByteArray) (hs : k.size ≤ maxLen) (hx : a.eval x = .string k)
    (hK : wpList P ops Q rest (a.put o.dst (.tuple #[.agg #[.string (Kv.valOf l k), .int .i64 (Kv.revOf l k)], .bool (Kv.find l k).isSome])) w) : wpList P ops Q (o :: rest) a w := by
  obtain ⟨D, h1, hd⟩ := h
  refine wpList_plain hg fun K' hK' => ?_
  obtain ⟨v, ps, hrun, hv⟩ := h1.look_ok (string_keyed hk) ht hz (eR_mk ⟨#[]⟩ 0) (keyOf_string_mk hk hs)
  obtain ⟨s, r, rfl, _⟩ := eR_inv hv
  have h2 := hd.look k
  obtain ⟨e1, e2⟩ := eD_inj ((show D.atKey (kl k) (eD ⟨#[]⟩ 0) = eD s r by have := eR_mk s r; exact Option.some.inj (hv.symm.trans this) |> congrArg Prod.fst).symm.trans h2)
  subst e1 e2
  have h3 : Maps.has D (.string k.data.toList) = (Kv.find l k).isSome := hd.has k
  rw [h3] at hrun
  unfold Oper.wp
  simp [execOp, hop, hm, hx, hrun, Result.andThen]
  exact hK' _ _ hK
/-- 'm[k] = v'. -/
theorem wpList_put_kv (hk : P.underlying kt = some .string) (ht : P.underlying t = some (.map kt et)) (hg : o.guard = none) (m x v : Operand) (hop : o.op = Op.mapUpdate t m x v)
    (hm : a.eval m = .map (some b)) (h : MapIs P kt w b l) (hr : Kv.Rise l) (hl : l.length ≤ 1000000) (k u : ByteArray) (r : Int) (hs : k.size ≤ maxLen) (hx : a.eval x = .string k) (hv : a.eval v = .agg #[.string u, .int .i64 r])
    (hK : ∀ w', MapIs P kt w' b (Kv.putK (Kv.dropK l k) ⟨k, u, r⟩) → w.mapTurned w' b → wpList P ops Q rest (a.put o.dst undef) w') : wpList P ops Q (o :: rest) a w := by
  obtain ⟨D, h1, hd⟩ := h
  exact wpList_mapUpdate_in w hg m x v t hop kt et (string_keyed hk) ht eR b l.length D hm h1 (by unfold maxLen; omega) (.string k) _ (kl k) hx hv (keyOf_string_mk hk hs) (eD u r) [] (eR_mk u r) fun w' h2 h3 => hK w' (MapIs.of h2 (hd.put hr k u r)) h3
/-- 'delete(m, k)'. -/
theorem wpList_drop_kv (hk : P.underlying kt = some .string) (ht : P.underlying t = some (.map kt et)) (hg : o.guard = none) (m x : Operand) (hop : o.op = Op.call { callee := Callee.builtin Builtin.delete, args := #[m, x], argTypes := #[t, kt] })
    (hm : a.eval m = .map (some b)) (h : MapIs P kt w b l) (hr : Kv.Rise l) (k : ByteArray) (hs : k.size ≤ maxLen) (hx : a.eval x = .string k)
    (hK : ∀ w', MapIs P kt w' b (Kv.dropK l k) → w.mapTurned w' b → wpList P ops Q rest (a.put o.dst (.tuple #[])) w') : wpList P ops Q (o :: rest) a w := by
  obtain ⟨D, h1, hd⟩ := h
  exact wpList_delete_own w hg m x t kt hop et (string_keyed hk) ht eR b l.length D hm h1 (.string k) (kl k) hx (keyOf_string_mk hk hs) fun w' h2 h3 => hK w' (MapIs.of h2 (hd.del hr k)) h3
/-- 'len(m)'. -/
theorem wpList_len_kv (ht : P.underlying t = some (.map kt et)) (hg : o.guard = none) (m : Operand) (hop : o.op = Op.call { callee := Callee.builtin Builtin.len, args := #[m], argTypes := #[t] })
    (hm : a.eval m = .map (some b)) (h : MapIs P kt w b l) (hK : wpList P ops Q rest (a.put o.dst (.int .i64 (l.length : Nat))) w) : wpList P ops Q (o :: rest) a w := by
  obtain ⟨D, h1, hd⟩ := h
  exact wpList_len_own w hg m t hop kt et ht eR b l.length D hm h1 (by rw [hd.size]; exact hK)
end
end Go.Proofs.Ytmkfiiheeplmgaa
