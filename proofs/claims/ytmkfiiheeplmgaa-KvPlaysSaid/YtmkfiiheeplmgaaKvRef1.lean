/-
  The document's package of layer 8: Same, Get, Since. No condition.
-/
import Derived.Test.YtmkfiiheeplmgaaKvC
import Derived.BigRegion
import Derived.Deep.Cut
import Derived.Deep.DeepCutAuto
namespace Go.Proofs.Ytmkfiiheeplmgaa
open Go.RowKit Go.Deep

/-- What of an element of a row is read at a place. -/
theorem SlR.cell {T : Type} {K : Nat} {E : World → List Value → T → Prop} {w : World} {b o n c : Nat} {ts : List T} (h : SlR K E w (some ⟨b, o, none⟩) n c ts) {j : Nat} (hj : j < ts.length) :
    b < w.heap.size ∧ ∃ cs, cs.length = K ∧ (∀ i, i < K → w.cell? ⟨b, o + j * K + i, none⟩ = cs[i]?) ∧ E w cs ts[j] := by
  obtain ⟨b', o', cs, e, h1, h2, h3, h4⟩ := h.rd j ts[j] (List.getElem?_eq_getElem hj)
  injection e with e; injection e with e1 e2; subst e1 e2
  exact ⟨h1, cs, h2, h3, h4⟩
theorem SlR.addr {T : Type} {K : Nat} {E : World → List Value → T → Prop} {w : World} {A : Option Addr} {n c : Nat} {ts : List T} (h : SlR K E w A n c ts) (hj : 0 < ts.length) : ∃ b o, A = some ⟨b, o, none⟩ := by
  obtain ⟨b, o, cs, e, _⟩ := h.rd 0 ts[0] (List.getElem?_eq_getElem hj)
  exact ⟨b, o, e⟩
theorem rsame_any (a b : List ByteArray) (n c n' c' : Nat) (A A' : Option Addr) (w : World) (ha : SlT w A n c a) (hb : SlT w A' n' c' b) :
    Calls Try.prog 18 #[.slice A n c, .slice A' n' c'] w (KBool (a = b) w) := by
  have hn := ha.len
  have hn' := hb.len
  have hmx := ha.max
  have hcp := ha.cap
  have hcp' := hb.cap
  have hmx' := hb.max
  unfold maxLen at hmx hmx'
  have HA := Lib.hid ha
  have HB := Lib.hid hb
  clear ha hb
  by_cases hne : n = n'
  · subst hne
    have HN := Lib.hid hn
    have HN' := Lib.hid hn'
    clear hn hn'
    go_enter Try.func18, Try.ntmps18
    go_wp2_with fail
    go_loopw [5] (fun i wr => ∃ j : Nat, j ≤ n ∧ i = .int .i64 j ∧ (∀ k, k < j → a[k]? = b[k]?) ∧ Below w.heap.size w wr) (fun i _ => n - (intOf i).toNat)
    case atStart => exact ⟨0, by omega, rfl, by simp, Below.refl _ _⟩
    case round =>
      obtain ⟨j, hj, rfl, hk, hbr⟩ := hrel
      have HK := Lib.hid hk
      have B := Lib.hid hbr
      clear hk hbr
      by_cases hlt : j < n
      · obtain ⟨b1, o1, rfl⟩ := HA.out.addr (by have := HN.out; omega)
        obtain ⟨b2, o2, rfl⟩ := HB.out.addr (by have := HN'.out; omega)
        obtain ⟨hl1, cs1, _, hc1, he1⟩ := HA.out.cell (j := j) (by have := HN.out; omega)
        obtain ⟨hl2, cs2, _, hc2, he2⟩ := HB.out.cell (j := j) (by have := HN'.out; omega)
        have q1 := (B.out.cell (p := ⟨b1, o1 + j * 1 + 0, none⟩) hl1).trans (hc1 0 (by omega))
        have q2 := (B.out.cell (p := ⟨b2, o2 + j * 1 + 0, none⟩) hl2).trans (hc2 0 (by omega))
        unfold ETx at he1 he2
        rw [he1] at q1
        rw [he2] at q2
        simp only [List.getElem?_cons_zero, Nat.add_zero, Nat.mul_one] at q1 q2
        have EA : Hid (a[j]? = some (a[j]'(by have := HN.out; omega))) := List.getElem?_eq_getElem _
        have EB : Hid (b[j]? = some (b[j]'(by have := HN'.out; omega))) := List.getElem?_eq_getElem _
        generalize a[j]'(by have := HN.out; omega) = x at *
        generalize b[j]'(by have := HN'.out; omega) = y at *
        clear hc1 hc2 he1 he2
        by_cases hxy : x = y
        · subst hxy
          have ht : (x.toList == x.toList) = true := Kv.teq.2 rfl
          go_wp2_with fail
          go_region
          go_wp2_with fail
          refine ⟨⟨j + 1, by omega, by go_num, fun k hk => ?_, B.out.drew⟩, by simp [intOf]; omega⟩
          rcases Nat.lt_or_ge k j with h | h
          · exact HK.out k h
          · rw [show k = j by omega, EA.out, EB.out]
        · have ht : (x.toList == y.toList) = false := Kv.tne.2 hxy
          go_wp2_with fail
          go_region
          go_wp2_with fail
          go_ret
          refine ⟨⟨_, rfl, ?_⟩, B.out.drew⟩
          simp only [Bool.false_eq_true, false_iff]
          rintro rfl
          have := EA.out.symm.trans EB.out
          exact hxy (Option.some.inj this)
      · go_wp2_with fail
        go_ret
        refine ⟨⟨_, rfl, ?_⟩, B.out⟩
        simp only [true_iff]
        refine List.ext_getElem? fun k => ?_
        rcases Nat.lt_or_ge k j with h | h
        · exact HK.out k h
        · rw [List.getElem?_eq_none (by have := HN.out; omega), List.getElem?_eq_none (by have := HN'.out; omega)]
  · have HN := Lib.hid hn
    have HN' := Lib.hid hn'
    clear hn hn'
    go_enter Try.func18, Try.ntmps18
    go_wp2_with fail
    go_ret
    refine ⟨⟨_, rfl, ?_⟩, Below.refl _ _⟩
    simp only [Bool.false_eq_true, false_iff]
    rintro rfl
    exact hne (HN.out.trans HN'.out.symm)
/-- A store by value, laid. -/
structure RAt (w : World) (g : Nat) (v : Value) (r : Int) : Prop where
  row : w.heap[g]? = some (.cells #[v, .int .i64 r] 28 (0, 0))
theorem RAt.cells {w : World} {g : Nat} {v : Value} {r : Int} (h : RAt w g v r) : w.cell? ⟨g, 0, none⟩ = some v ∧ w.cell? ⟨g, 1, none⟩ = some (.int .i64 r) ∧ g < w.heap.size :=
  ⟨by rw [cell_of_row w g 0 _ _ _ h.row]; rfl, by rw [cell_of_row w g 1 _ _ _ h.row]; rfl, (Array.getElem?_eq_some_iff.1 h.row).1⟩
theorem RAt.on {w w' : World} {g : Nat} {v : Value} {r : Int} (h : RAt w g v r) (hb : Below w.heap.size w w') : RAt w' g v r := ⟨(hb.block g h.cells.2.2).trans h.row⟩
theorem RAt.new (w : World) (v : Value) (r : Int) : RAt (w.alloc (.cells #[v, .int .i64 r] 28)) w.heap.size v r := ⟨heap_alloc_new w _⟩
theorem take_cons_drop {T : Type} {l : List T} {j : Nat} {x : T} (h : l[j]? = some x) : l.take j ++ x :: l.drop (j + 1) = l := by
  obtain ⟨h1, rfl⟩ := List.getElem?_eq_some_iff.1 h
  rw [List.getElem_cons_drop, List.take_append_drop]
theorem rget_any (l : List Kv.En) (r : Int) (n c : Nat) (A : Option Addr) (k : ByteArray) (w : World) (h : SlE w A n c l) :
    Calls Try.prog 17 #[.agg #[.slice A n c, .int .i64 r], .string k] w fun e w' => e = .returned (.tuple #[.string (Kv.valOf l k), .int .i64 (Kv.revOf l k)]) ∧ Below w.heap.size w w' := by
  have hn := h.len
  have hmx := h.max
  have hcp := h.cap
  unfold maxLen at hmx
  have B1 := Lib.hid ((Below.refl w.heap.size w).alloc (Nat.le_refl _) (.cells #[.slice A n c, .int .i64 r] 28))
  have R1 := Lib.hid (RAt.new w (.slice A n c) r)
  have HA := Lib.hid (h.on EEn.on B1.out)
  have HN := Lib.hid hn
  clear h hn
  go_enter Try.func17, Try.ntmps17
  go_wp2_with fail
  obtain ⟨g, hg⟩ : ∃ g, g = w.heap.size := ⟨_, rfl⟩
  rw [← hg] at R1 ⊢
  generalize w.alloc (.cells #[.slice A n c, .int .i64 r] 28) = w1 at *
  have HG := Lib.hid hg
  clear hg
  go_loopw [6] (fun i wr => ∃ j : Nat, j ≤ n ∧ i = .int .i64 j ∧ (∀ e ∈ l.take j, e.key ≠ k) ∧ Below w1.heap.size w1 wr) (fun i _ => n - (intOf i).toNat)
  case atStart => exact ⟨0, by omega, rfl, by simp, Below.refl _ _⟩
  case round =>
    obtain ⟨j, hj, rfl, hk, hbr⟩ := hrel
    have HK := Lib.hid hk
    have B := Lib.hid hbr
    obtain ⟨q0, _, hgl⟩ := (R1.out.on hbr).cells
    have BW := Lib.hid (B1.out.trans (hbr.mono B1.out.size))
    clear hk hbr
    by_cases hlt : j < n
    · obtain ⟨b1, o1, rfl⟩ := HA.out.addr (by have := HN.out; omega)
      obtain ⟨hl1, cs1, _, hc1, he1⟩ := HA.out.cell (j := j) (by have := HN.out; omega)
      have p0 := (B.out.cell (p := ⟨b1, o1 + j * 3 + 0, none⟩) hl1).trans (hc1 0 (by omega))
      have p1 := (B.out.cell (p := ⟨b1, o1 + j * 3 + 1, none⟩) hl1).trans (hc1 1 (by omega))
      have p2 := (B.out.cell (p := ⟨b1, o1 + j * 3 + 2, none⟩) hl1).trans (hc1 2 (by omega))
      unfold EEn at he1
      rw [he1] at p0 p1 p2
      simp only [List.getElem?_cons_zero, List.getElem?_cons_succ, Nat.add_zero] at p0 p1 p2
      have EA : Hid (l[j]? = some (l[j]'(by have := HN.out; omega))) := List.getElem?_eq_getElem _
      generalize l[j]'(by have := HN.out; omega) = x at *
      clear hc1 he1
      by_cases hxy : x.key = k
      · have ht : (x.key.toList == k.toList) = true := Kv.teq.2 hxy
        have F : Hid (Kv.find l k = some x) := by
          show _ = _
          have := Kv.find_first (l.take j) (l.drop (j + 1)) x HK.out hxy
          rw [take_cons_drop EA.out] at this
          exact this
        have V : Hid (Kv.valOf l k = x.val ∧ Kv.revOf l k = x.rev) := by
          show _ ∧ _
          unfold Kv.valOf Kv.revOf
          rw [F.out]; exact ⟨rfl, rfl⟩
        go_wp2_with fail
        go_region
        go_wp2_with fail
        exact bodyPost_ret (v := .tuple #[.string x.val, .int .i64 x.rev]) (by simp [results, Try.results17, go_sem]) rfl ⟨by rw [V.out.1, V.out.2], BW.out.drew⟩
      · have ht : (x.key.toList == k.toList) = false := Kv.tne.2 hxy
        go_wp2_with fail
        refine ⟨⟨j + 1, by omega, by go_num, fun e he => ?_, B.out⟩, by simp [intOf]; omega⟩
        rw [List.take_add_one, EA.out] at he
        rcases List.mem_append.1 he with he | he
        · exact HK.out e he
        · simp at he; subst he; exact hxy
    · have V : Hid (Kv.valOf l k = ⟨#[]⟩ ∧ Kv.revOf l k = 0) := by
        show _ ∧ _
        have hall := HK.out
        rw [List.take_of_length_le (by have := HN.out; omega)] at hall
        unfold Kv.valOf Kv.revOf
        rw [Kv.find_none.2 hall]; exact ⟨rfl, rfl⟩
      go_wp2_with fail
      exact bodyPost_ret (v := .tuple #[.string ⟨#[]⟩, .int .i64 0]) (by simp [results, Try.results17, go_sem]) rfl ⟨by rw [V.out.1, V.out.2], BW.out⟩
end Go.Proofs.Ytmkfiiheeplmgaa
