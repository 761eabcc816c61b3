/-
  Package net: the messages of a unit (slices.IndexFunc and DeleteFunc over Of's closure). No condition.
-/
import Derived.Test.YtmhhjipdbfepiaaNd4
namespace Go.Proofs.Ytmhhjipdbfepiaa
open Go.RowKit Go.Deep
set_option maxRecDepth 100000
set_option linter.unusedSimpArgs false
set_option linter.unusedVariables false

/-- Of's closure over the unit in block g. -/
abbrev ofFn (g : Nat) : Value := .func (.func 40) #[] #[.pointer (some ⟨g, 0, none⟩)]
def UAt (w : World) (g : Nat) (u : Int) : Prop := w.heap[g]? = some (.cells #[.int .i64 u] 3 (0, 0))
theorem UAt.on {w w' : World} {g : Nat} {u : Int} (h : UAt w g u) (hb : Below w.heap.size w w') : UAt w' g u := blk_on h hb
theorem UAt.lt {w : World} {g : Nat} {u : Int} (h : UAt w g u) : g < w.heap.size := (Array.getElem?_eq_some_iff.1 h).1
set_option maxHeartbeats 1600000 in
theorem nindex_any (gu : Nat) (u : Int) (l : List Nt.M) (n c : Nat) (A : Option Addr) (w : World) (h : SlF Nt.mC w A n c l) (hu : UAt w gu u) :
    Calls Try.prog 41 #[.slice A n c, ofFn gu] w (fun e w' => (∃ j m, e = .returned (.int .i64 (j : Nat)) ∧ l[j]? = some m ∧ m.u ≠ u ∧ (∀ x ∈ l.take j, x.u = u) ∧ Below w.heap.size w w') ∨ (e = .returned (.int .i64 (-1)) ∧ (∀ x ∈ l, x.u = u) ∧ Below w.heap.size w w')) := by
  have HN := Lib.hid h.len
  have hmx := h.max
  have hcp := h.cap
  unfold maxLen at hmx
  have HA := Lib.hid h
  have HU := Lib.hid hu
  clear h hu
  unfold ofFn
  go_enter Try.func41, Try.ntmps41
  go_wp2_with fail
  go_loopw [5, 8] (fun _ i wr => ∃ j : Nat, j ≤ n ∧ i = .int .i64 j ∧ (∀ x ∈ l.take j, x.u = u) ∧ Below w.heap.size w wr) (fun _ i _ => n - (intOf i).toNat)
  case atStart => exact ⟨0, by omega, rfl, by simp, Below.refl _ _⟩
  case round =>
    obtain ⟨j, hj, rfl, hok, hbr⟩ := hrel
    have OK := Lib.hid hok
    have B := Lib.hid hbr
    clear hok hbr
    by_cases hlt : j < n
    · have hjl : j < l.length := by have := HN.out; omega
      have EA : Hid (l[j]? = some l[j]) := List.getElem?_eq_getElem hjl
      generalize l[j] = x at *
      obtain ⟨b, o, rfl, hbl, hrg⟩ := nt_range (HA.out.on B.out) EA.out
      have RG := Lib.hid hrg
      have i1 : (0 : Int) ≤ (j : Int) := by omega
      have i2 : (j : Int) < (n : Int) := by omega
      have CC := Lib.hid (nother_any x u gu wr (HU.out.on B.out))
      clear hrg hbl
      by_cases hq : x.u = u
      · have hd : (!decide (x.u = u)) = false := by simp [hq]
        rw [hd] at CC
        have HQ := Lib.hid hq
        clear hq hd
        go_wp2_with (first
          | ((with_reducible show wpList _ _ _ ({ dst := some 15, op := .load _ _, type := _, pos := _, after := _, guard := _ } :: _) _ _); refine wpList_load_msg rfl (.tmp 14) rfl b (o + j * 6) rfl x RG.out ?_)
          | (go_at_call 40; (with_reducible refine CC.out.mono ?_); rintro e w1 ⟨rfl, hb1⟩; have B1 := Lib.hid (B.out.trans (hb1.mono B.out.size)); clear hb1))
        refine ⟨⟨j + 1, by omega, by go_num, fun y hy => ?_, B1.out⟩, by simp [intOf]; omega⟩
        rw [List.take_add_one, EA.out] at hy
        rcases List.mem_append.1 hy with hy | hy
        · exact OK.out y hy
        · simp at hy; subst hy; exact HQ.out
      · have hd : (!decide (x.u = u)) = true := by simp [hq]
        rw [hd] at CC
        have HQ := Lib.hid hq
        clear hq hd
        go_wp2_with (first
          | ((with_reducible show wpList _ _ _ ({ dst := some 15, op := .load _ _, type := _, pos := _, after := _, guard := _ } :: _) _ _); refine wpList_load_msg rfl (.tmp 14) rfl b (o + j * 6) rfl x RG.out ?_)
          | (go_at_call 40; (with_reducible refine CC.out.mono ?_); rintro e w1 ⟨rfl, hb1⟩; have B1 := Lib.hid (B.out.trans (hb1.mono B.out.size)); clear hb1))
        go_ret
        exact .inl ⟨j, x, rfl, EA.out, HQ.out, OK.out, B1.out⟩
    · have E : Hid (l.take j = l) := List.take_of_length_le (by have := HN.out; omega)
      rw [E.out] at OK
      go_wp2_with fail
      go_ret
      exact .inr ⟨rfl, OK.out, B.out⟩
theorem heap_setCells_all (b : Nat) (t : TypeId) : ∀ (vs : List Value) (o : Nat) (w : World) (cs : Array Value), w.heap[b]? = some (.cells cs t (0, 0)) → o + vs.length ≤ cs.size → ∃ cs', (w.setCells b o vs).heap[b]? = some (.cells cs' t (0, 0)) ∧ cs'.toList = cs.toList.take o ++ vs ++ cs.toList.drop (o + vs.length)
  | [], o, w, cs, h, _ => ⟨cs, h, by simp⟩
  | v :: vs, o, w, cs, h, hl => by
    rw [List.length_cons] at hl
    obtain ⟨cs', h1, h2⟩ := heap_setCells_all b t vs (o + 1) (w.setCell ⟨b, o, none⟩ v) (cs.setIfInBounds o v) (heap_setCell_same w b o _ _ v h) (by rw [Array.size_setIfInBounds]; omega)
    refine ⟨cs', h1, ?_⟩
    rw [h2, Array.toList_setIfInBounds, List.length_cons]
    have hlt : o < cs.toList.length := by rw [Array.length_toList]; omega
    rw [List.set_eq_take_append_cons_drop, if_pos hlt]
    have e1 : (cs.toList.take o ++ v :: cs.toList.drop (o + 1)).take (o + 1) = cs.toList.take o ++ [v] := by
      rw [List.take_append, List.take_take, List.length_take, Nat.min_eq_left (by omega : o ≤ cs.toList.length), Nat.min_eq_right (by omega), show o + 1 - o = 1 by omega, List.take_succ_cons, List.take_zero]
    have e2 : (cs.toList.take o ++ v :: cs.toList.drop (o + 1)).drop (o + 1 + vs.length) = cs.toList.drop (o + (vs.length + 1)) := by
      rw [List.drop_append, List.length_take, Nat.min_eq_left (by omega : o ≤ cs.toList.length), show o + 1 + vs.length - o = vs.length + 1 by omega, List.drop_succ_cons, List.drop_drop, List.drop_eq_nil_of_le (by rw [List.length_take]; omega), List.nil_append]
      congr 1
      omega
    rw [e1, e2]
    simp
theorem list_mid {T : Type} {L vs : List T} {o k N : Nat} (hv : vs.length = k) (h1 : o + k ≤ N) (h2 : N ≤ L.length) : (L.take o ++ vs ++ L.drop (o + k)).take N = (L.take N).take o ++ vs ++ (L.take N).drop (o + k) := by
  have e : (L.take N).take o = L.take o := by rw [List.take_take, Nat.min_eq_left (by omega)]
  rw [e, List.append_assoc, List.append_assoc, List.take_append, List.take_of_length_le (l := L.take o) (by rw [List.length_take]; omega), List.length_take, Nat.min_eq_left (by omega), List.take_append, hv, List.take_of_length_le (l := vs) (by omega), List.drop_take, show N - o - k = N - (o + k) by omega]
theorem own_open {w : World} {B g n c : Nat} {l : List Nt.M} (h : OwF Nt.mC 6 32 w B (.slice (some ⟨g, 0, none⟩) n c) l) : ∃ cur, B ≤ g ∧ n = l.length ∧ n ≤ c ∧ c ≤ maxLen ∧ w.heap[g]? = some (.cells cur 32 (0, 0)) ∧ cur.size = c * 6 ∧ cur.toList.take (n * 6) = l.flatMap Nt.mC := by
  have hn := h.len.1
  rcases h.2 with ⟨h1, _⟩ | ⟨g', cap, cur, h1, hg, hh, h2, h3, h4, h5⟩
  · cases h1
  · injection h1 with e1 e2 e3
    injection e1 with e1
    injection e1 with e1 _
    subst e1 e3
    exact ⟨cur, hg, hn, by omega, h3, hh, h4, by rw [hn]; exact h5⟩
/-- One message of a row of the call's own stored. -/
theorem own_set {w : World} {B g n c : Nat} {l : List Nt.M} (h : OwF Nt.mC 6 32 w B (.slice (some ⟨g, 0, none⟩) n c) l) {i : Nat} (hi : i < n) (x : Nt.M) : OwF Nt.mC 6 32 (w.setCells g (i * 6) (Nt.mC x)) B (.slice (some ⟨g, 0, none⟩) n c) (l.set i x) := by
  obtain ⟨cur, hg, hn, h2, h3, hh, h4, h5⟩ := own_open h
  · have hb : (i + 1) * 6 ≤ n * 6 := Nat.mul_le_mul_right 6 (by omega)
    have hb2 : n * 6 ≤ c * 6 := Nat.mul_le_mul_right 6 (by omega)
    rw [Nat.succ_mul] at hb
    obtain ⟨cur', m1, m2⟩ := heap_setCells_all g 32 (Nt.mC x) (i * 6) w cur hh (by rw [Nt.mC_len, h4]; omega)
    have hfl : ((l.set i x).flatMap Nt.mC) = (l.flatMap Nt.mC).take (i * 6) ++ Nt.mC x ++ (l.flatMap Nt.mC).drop (i * 6 + 6) := by
      rw [List.set_eq_take_append_cons_drop, if_pos (by omega), List.flatMap_append, List.flatMap_cons, flat_take Nt.mC_len, flat_drop Nt.mC_len, Nat.succ_mul, List.append_assoc]
    have hcl : cur.toList.length = c * 6 := by rw [Array.length_toList, h4]
    have q1 : ((l.set i x).flatMap Nt.mC).length = n * 6 := by rw [flat_len Nt.mC_len, List.length_set, hn]
    have q2 : cur'.size = c * 6 := by
      rw [← Array.length_toList, m2, List.length_append, List.length_append, List.length_take, List.length_drop, Array.length_toList, Nt.mC_len, h4]
      omega
    have q3 : cur'.toList.take (n * 6) = (l.set i x).flatMap Nt.mC := by
      rw [m2, hfl, ← h5, Nt.mC_len]
      exact list_mid (Nt.mC_len x) hb (by rw [hcl]; exact hb2)
    have hle : n ≤ c := by omega
    clear m2 hfl hcl h4 h5
    show World.ownsRow _ _ _ _ _ _ _
    rw [List.length_set, ← hn]
    exact ⟨q1, .inr ⟨g, c, cur', rfl, hg, m1, hle, h3, q2, q3⟩⟩
/-- The messages of a unit. -/
theorem ofU_all {l : List Nt.M} {u : Int} (h : ∀ x ∈ l, x.u = u) : Nt.ofU l u = l := List.filter_eq_self.2 fun x hx => by simp [h x hx]
end Go.Proofs.Ytmhhjipdbfepiaa
