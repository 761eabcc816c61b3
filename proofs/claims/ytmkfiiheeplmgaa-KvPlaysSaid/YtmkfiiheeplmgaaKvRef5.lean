/-
  The document's package of layer 8: right. No condition.
-/
import Derived.Test.YtmkfiiheeplmgaaKvRef4
namespace Go.Proofs.Ytmkfiiheeplmgaa
open Go.RowKit Go.Deep

/-- What of an op of a row is read. -/
theorem SlR.po {w : World} {b o n c : Nat} {l : List Kv.Po} (h : SlP w (some ⟨b, o, none⟩) n c l) {j : Nat} {x : Kv.Po} (hx : l[j]? = some x) {w' : World} (hb : Below w.heap.size w w') :
    w'.cell? ⟨b, o + j * 4, none⟩ = some (.string x.key) ∧ w'.cell? ⟨b, o + j * 4 + 1, none⟩ = some (.string x.val) ∧ w'.cell? ⟨b, o + j * 4 + 2, none⟩ = some (.int .i64 x.rev) ∧ w'.cell? ⟨b, o + j * 4 + 3, none⟩ = some (.bool x.drop) := by
  obtain ⟨hj, rfl⟩ := List.getElem?_eq_some_iff.1 hx
  obtain ⟨hl, cs, _, hc, he⟩ := h.cell hj
  unfold EPo at he
  rw [he.1] at hc
  exact ⟨(hb.cell (p := ⟨b, o + j * 4, none⟩) hl).trans (hc 0 (by omega)), (hb.cell (p := ⟨b, o + j * 4 + 1, none⟩) hl).trans (hc 1 (by omega)), (hb.cell (p := ⟨b, o + j * 4 + 2, none⟩) hl).trans (hc 2 (by omega)), (hb.cell (p := ⟨b, o + j * 4 + 3, none⟩) hl).trans (hc 3 (by omega))⟩
theorem SlR.poOk {w : World} {A : Option Addr} {n c : Nat} {l : List Kv.Po} (h : SlP w A n c l) {x : Kv.Po} (hx : x ∈ l) : x.key.size ≤ maxLen ∧ x.val.size ≤ maxLen ∧ i64In x.rev := by
  obtain ⟨j, hj⟩ := List.getElem?_of_mem hx
  obtain ⟨_, _, _, _, _, _, _, h5⟩ := h.rd j x hj
  exact h5.2
theorem rright_any (l : List Kv.Po) (n c : Nat) (A : Option Addr) (w : World) (h : SlP w A n c l) :
    Calls Try.prog 27 #[.slice A n c] w (KBool (Kv.Right l) w) := by
  have hn := h.len
  have hmx := h.max
  have hcp := h.cap
  unfold maxLen at hmx
  have HA := Lib.hid h
  have HN := Lib.hid hn
  clear h hn
  go_enter Try.func27, Try.ntmps27
  go_wp2_with fail
  go_loopw [3] (fun i wr => ∃ j : Nat, j ≤ n ∧ i = .int .i64 j ∧ (∀ o ∈ l.take j, Kv.PoOk o) ∧ ((l.take j).Pairwise fun a b => a.key ≠ b.key) ∧ Below w.heap.size w wr) (fun i _ => n - (intOf i).toNat)
  case atStart => exact ⟨0, by omega, rfl, by simp, by simp, Below.refl _ _⟩
  case round =>
    obtain ⟨j, hj, rfl, hok, hpw, hbr⟩ := hrel
    have OK := Lib.hid hok
    have PW := Lib.hid hpw
    have B := Lib.hid hbr
    clear hok hpw hbr
    by_cases hlt : j < n
    · obtain ⟨b1, o1, rfl⟩ := HA.out.addr (by have := HN.out; omega)
      have EA : Hid (l[j]? = some (l[j]'(by have := HN.out; omega))) := List.getElem?_eq_getElem _
      generalize l[j]'(by have := HN.out; omega) = x at *
      obtain ⟨p0, p1, p2, p3⟩ := HA.out.po EA.out B.out
      have HM : Hid (x ∈ l) := List.mem_of_getElem? EA.out
      have SZ := HA.out.poOk HM.out
      have hs1 : (x.key.size : Int) ≤ 9223372036854775807 := by have := SZ.1; unfold maxLen at this; omega
      have hs2 : (x.val.size : Int) ≤ 9223372036854775807 := by have := SZ.2.1; unfold maxLen at this; omega
      clear SZ
      have ST : Hid (l.take (j + 1) = l.take j ++ [x]) := by
        show _ = _
        rw [List.take_add_one, EA.out]; rfl
      by_cases h1 : x.key.size < 1
      · go_wp2_with fail
        go_ret
        refine ⟨⟨_, rfl, ?_⟩, B.out⟩
        simp only [Bool.false_eq_true, false_iff]
        intro hr
        have := (hr.2.1 x HM.out).1; omega
      · by_cases h2 : 64 < x.key.size
        · go_wp2_with fail
          go_ret
          refine ⟨⟨_, rfl, ?_⟩, B.out⟩
          simp only [Bool.false_eq_true, false_iff]
          intro hr
          have := (hr.2.1 x HM.out).2.1; omega
        · by_cases h3 : 64 < x.val.size
          · go_wp2_with fail
            go_ret
            refine ⟨⟨_, rfl, ?_⟩, B.out⟩
            simp only [Bool.false_eq_true, false_iff]
            intro hr
            have := (hr.2.1 x HM.out).2.2; omega
          · have XK : Hid (Kv.PoOk x) := ⟨by omega, by omega, by omega⟩
            go_wp2_with fail
            go_loopw [4] (fun i ws => ∃ m : Nat, m ≤ j ∧ i = .int .i64 m ∧ (∀ o ∈ l.take m, o.key ≠ x.key) ∧ Below w.heap.size w ws) (fun i _ => j - (intOf i).toNat)
            case atStart => exact ⟨0, by omega, rfl, by simp, B.out⟩
            case round =>
              obtain ⟨m, hm, rfl, hd, hbs⟩ := hrel
              have D := Lib.hid hd
              have BS := Lib.hid hbs
              clear hd hbs
              by_cases hml : m < j
              · have EM : Hid (l[m]? = some (l[m]'(by have := HN.out; omega))) := List.getElem?_eq_getElem _
                generalize l[m]'(by have := HN.out; omega) = y at *
                obtain ⟨s0, _, _, _⟩ := HA.out.po EM.out BS.out
                clear p0 p1 p2 p3
                obtain ⟨p0, _, _, _⟩ := HA.out.po EA.out BS.out
                by_cases hk : y.key = x.key
                · have ht : (y.key.toList == x.key.toList) = true := Kv.teq.2 hk
                  go_wp2_with fail
                  go_region
                  go_wp2_with fail
                  go_ret
                  refine ⟨⟨_, rfl, ?_⟩, BS.out.drew⟩
                  simp only [Bool.false_eq_true, false_iff]
                  intro hr
                  obtain ⟨g1, e1⟩ := List.getElem?_eq_some_iff.1 EM.out
                  obtain ⟨g2, e2⟩ := List.getElem?_eq_some_iff.1 EA.out
                  have := List.pairwise_iff_getElem.1 hr.2.2 m j g1 g2 hml
                  rw [e1, e2] at this
                  exact this hk
                · have ht : (y.key.toList == x.key.toList) = false := Kv.tne.2 hk
                  go_wp2_with fail
                  go_region
                  go_wp2_with fail
                  refine ⟨⟨m + 1, by omega, by go_num, fun o ho => ?_, BS.out.drew⟩, by simp [intOf]; omega⟩
                  rw [List.take_add_one, EM.out] at ho
                  rcases List.mem_append.1 ho with ho | ho
                  · exact D.out o ho
                  · simp at ho; subst ho; exact hk
              · have em : m = j := by omega
                have EJ := Lib.hid em
                clear em
                go_wp2_with fail
                refine ⟨⟨j + 1, by omega, by go_num, fun o ho => ?_, ?_, BS.out⟩, by simp [intOf]; omega⟩
                · rw [ST.out] at ho
                  rcases List.mem_append.1 ho with ho | ho
                  · exact OK.out o ho
                  · simp at ho; subst ho; exact XK.out
                · rw [ST.out]
                  refine List.pairwise_append.2 ⟨PW.out, List.pairwise_singleton _ _, fun a ha b hb => ?_⟩
                  simp at hb; subst hb
                  rw [← EJ.out] at ha
                  exact D.out a ha
    · have E : Hid (l.take j = l) := List.take_of_length_le (by have := HN.out; omega)
      rw [E.out] at OK PW
      by_cases h0 : 0 < n
      · go_wp2_with fail
        go_ret
        exact ⟨⟨_, rfl, by simp only [true_iff]; exact ⟨by have := HN.out; omega, OK.out, PW.out⟩⟩, B.out⟩
      · go_wp2_with fail
        go_ret
        refine ⟨⟨_, rfl, ?_⟩, B.out⟩
        simp only [Bool.false_eq_true, false_iff]
        intro hr
        have := hr.1
        have := HN.out; omega
end Go.Proofs.Ytmkfiiheeplmgaa
