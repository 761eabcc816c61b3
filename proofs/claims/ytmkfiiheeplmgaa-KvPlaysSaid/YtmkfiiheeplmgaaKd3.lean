/-
  Package kv: anyTwice (a map as a set of keys). No condition.
-/
import Derived.Test.YtmkfiiheeplmgaaKd2
namespace Go.Proofs.Ytmkfiiheeplmgaa
open Go.RowKit Go.Deep Go.Maps Go.WideMaps

/-- A set: an element is told by nothing. -/
def eU : Value → Option (DataW Unit × List MemPlace)
  | .agg ⟨[]⟩ => some (.agg [], [])
  | _ => none
theorem eU_mk : eU (.agg #[]) = some (.agg [], []) := rfl
/-- Block b is a set of the keys in ks. -/
def SetIs (w : World) (b : Nat) (ks : List ByteArray) : Prop :=
  ∃ D n, w.ownsMap Try.prog 9 eU b n D ∧ n ≤ ks.length ∧ Tidy D ∧ (∀ k : ByteArray, Maps.has D (kl k) = true ↔ k ∈ ks) ∧ Maps.size D ≤ ks.length ∧ (Maps.size D = ks.length ↔ ks.Pairwise fun a b => a ≠ b)
theorem SetIs.made (w : World) : SetIs (w.alloc (.map #[] 0)) w.heap.size [] :=
  ⟨_, 0, World.ownsMap_made w _ _ _, Nat.le_refl _, tidy_empty, fun k => by simp [Maps.has], Nat.le_refl _, by simp [Maps.size]⟩
theorem SetIs.lt {w : World} {b : Nat} {ks : List ByteArray} (h : SetIs w b ks) : b < w.heap.size := by
  obtain ⟨D, n, h1, _⟩ := h
  exact h1.lt
theorem SetIs.keep {w w' : World} {b : Nat} {ks : List ByteArray} (h : SetIs w b ks) (hb : w'.heap[b]? = w.heap[b]?) : SetIs w' b ks := by
  obtain ⟨D, n, ⟨es, clock, h1, h2⟩, hd⟩ := h
  exact ⟨D, n, ⟨es, clock, hb.trans h1, h2⟩, hd⟩
theorem SetIs.on {w w' : World} {b : Nat} {ks : List ByteArray} (h : SetIs w b ks) (hb : Below w.heap.size w w') : SetIs w' b ks := h.keep (hb.block b h.lt)
theorem SetIs.len {w : World} {b : Nat} {ks : List ByteArray} (h : SetIs w b ks) (ty : TypeId) : ∃ m : Nat, m ≤ ks.length ∧ (m = ks.length ↔ ks.Pairwise fun a b => a ≠ b) ∧ (Builtin.len_ #[78] ty #[.map (some b)]).run Try.prog w = .ok (.int .i64 (m : Nat)) w := by
  obtain ⟨D, n, h1, _, _, _, h3, h4⟩ := h
  exact ⟨_, h3, h4, h1.len Try.underlying78 ty⟩
theorem SetIs.put {w : World} {b : Nat} {ks : List ByteArray} (h : SetIs w b ks) (hl : ks.length ≤ 1000000) (k : ByteArray) (hs : k.size ≤ maxLen) :
    ∃ w', (Instr.mapUpdate 78 (.map (some b)) (.string k) (.agg #[])).run Try.prog w = .ok () w' ∧ SetIs w' b (ks ++ [k]) ∧ w.mapTurned w' b := by
  obtain ⟨D, n, h1, h2, ht, hh, h3, h4⟩ := h
  obtain ⟨w', hrun, h5, h6⟩ := h1.store (string_keyed Try.underlying9) Try.underlying78 (by unfold maxLen; omega) (keyOf_string_mk Try.underlying9 hs) eU_mk
  refine ⟨w', hrun, ⟨_, _, h5, by simp; omega, ht.put (kl_isKey k) _, fun k' => ?_, ?_, ?_⟩, h6⟩
  · by_cases hk : k' = k
    · subst hk
      have := has_put_same ht.isMap (kl_isKey k') (DataW.agg (H := Unit) [])
      exact ⟨fun _ => by simp, fun _ => this⟩
    · have := has_put_other (D := D) (k := kl k) (k' := kl k') (fun e => hk (kl_inj e)) (DataW.agg (H := Unit) [])
      rw [show Maps.has (D.put (Lit.string k.data.toList) (.agg [])) (kl k') = Maps.has D (kl k') from this, hh k']
      simp [hk]
  · have := size_put (k := kl k) ht (DataW.agg (H := Unit) [])
    show Maps.size (D.put (kl k) _) ≤ _
    rw [this, List.length_append, List.length_singleton]
    split <;> omega
  · have := size_put (k := kl k) ht (DataW.agg (H := Unit) [])
    show Maps.size (D.put (kl k) _) = _ ↔ _
    rw [this, List.length_append, List.length_singleton, List.pairwise_append]
    by_cases hk : k ∈ ks
    · rw [if_pos ((hh k).2 hk)]
      exact ⟨fun h => by omega, fun h => absurd rfl (h.2.2 k hk k (by simp))⟩
    · rw [if_neg (fun h => hk ((hh k).1 h))]
      refine ⟨fun h => ⟨h4.1 (by omega), List.pairwise_singleton _ _, fun a ha b hb e => ?_⟩, fun h => by rw [h4.2 h.1]⟩
      simp at hb; subst hb; subst e; exact hk ha
theorem run_makeMap_hint (w : World) (n : Nat) (t k e : TypeId) (ht : Try.prog.underlying t = some (.map k e)) : (Instr.makeMap t (some (.int .i64 n))).run Try.prog w = .ok (.map (some w.heap.size)) (w.alloc (.map #[] 0)) := by
  simp [Instr.makeMap, run_underlying ht, asInt, go_sem]
theorem kvtwice_any (l : List Kv.Po) (n c : Nat) (A : Option Addr) (w0 w : World) (h : SlP w0 A n c l) (hb0 : Below w0.heap.size w0 w) (hz : l.length ≤ 70) :
    Calls Try.prog 34 #[.slice A n c] w (KBool (¬ l.Pairwise fun a b => a.key ≠ b.key) w) := by
  have hn := h.len
  have hmx := h.max
  have hcp := h.cap
  unfold maxLen at hmx
  have HA := Lib.hid h
  have HN := Lib.hid hn
  have HZ := Lib.hid hz
  have B0 := Lib.hid hb0
  have hmm := run_makeMap_hint w n 78 9 79 Try.underlying78
  have S0 := Lib.hid (SetIs.made w)
  have BM := Lib.hid ((Below.refl w.heap.size w).alloc (Nat.le_refl _) (.map #[] 0))
  have LT : Hid (w.heap.size < (w.alloc (.map #[] 0)).heap.size) := S0.out.lt
  clear h hn hb0 hz
  go_enter Try.func34, Try.ntmps34
  go_wp2_with fail
  clear hmm
  obtain ⟨m, hm⟩ : ∃ m, m = w.heap.size := ⟨_, rfl⟩
  rw [← hm] at S0 LT ⊢
  have HM := Lib.hid hm
  clear hm
  generalize w.alloc (.map #[] 0) = w1 at *
  go_loopw [11] (fun i wr => ∃ j : Nat, j ≤ n ∧ i = .int .i64 j ∧ SetIs wr m ((l.take j).map (·.key)) ∧ Below w.heap.size w wr) (fun i _ => n - (intOf i).toNat)
  case atStart => exact ⟨0, by omega, rfl, S0.out, BM.out⟩
  case round =>
    obtain ⟨j, hj, rfl, hs, hbr⟩ := hrel
    have SE := Lib.hid hs
    have B := Lib.hid hbr
    have BB := Lib.hid (B0.out.trans (hbr.mono B0.out.size))
    clear hs hbr
    by_cases hlt : j < n
    · obtain ⟨b1, o1, rfl⟩ := HA.out.addr (by have := HN.out; omega)
      have EA : Hid (l[j]? = some (l[j]'(by have := HN.out; omega))) := List.getElem?_eq_getElem _
      generalize l[j]'(by have := HN.out; omega) = x at *
      obtain ⟨p0, p1, p2, p3⟩ := HA.out.po EA.out BB.out
      have KS := Lib.hid (HA.out.poOk (List.mem_of_getElem? EA.out)).1
      have ST : Hid ((l.take (j + 1)).map (·.key) = (l.take j).map (·.key) ++ [x.key]) := by
        show _ = _
        rw [List.take_add_one, EA.out]; simp
      have LL : Hid (((l.take j).map (·.key)).length ≤ 1000000) := by
        show _ ≤ _
        rw [List.length_map, List.length_take]; have := HZ.out; omega
      generalize (l.take j).map (·.key) = ks at *
      have BN := Lib.hid ((Below.refl wr.heap.size wr).alloc (Nat.le_refl _) (.cells #[.string x.key, .string x.val, .int .i64 x.rev, .bool x.drop] 52))
      have S1 := Lib.hid (SE.out.on BN.out)
      obtain ⟨wd, hrun, hs2, ht2⟩ := S1.out.put LL.out x.key KS.out
      have S2 := Lib.hid hs2
      have B2 := Lib.hid ((B.out.trans (BN.out.mono B.out.size)).grown ht2.grown (by have := B.out.size; have := BN.out.size; omega) (fun k hk => by injection hk with hk; have := HM.out; omega))
      clear hs2 ht2 BN S1
      go_wp2_with fail
      exact ⟨⟨j + 1, by omega, by go_num, by rw [ST.out]; exact S2.out, B2.out⟩, by simp [intOf]; omega⟩
    · have E : Hid (l.take j = l) := List.take_of_length_le (by have := HN.out; omega)
      rw [E.out] at SE
      obtain ⟨z, hz1, hz2, hz3⟩ := SE.out.len 3
      rw [List.length_map] at hz1 hz2
      have Z1 := Lib.hid hz1
      have Z2 := Lib.hid hz2
      clear hz1 hz2
      go_wp2_with fail
      go_ret
      refine ⟨⟨_, rfl, ?_⟩, B.out⟩
      rw [← List.pairwise_map, ← Z2.out]
      have := Z1.out
      have := HN.out
      simp
      omega
end Go.Proofs.Ytmkfiiheeplmgaa
