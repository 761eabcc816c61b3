/-
  The walk of NetSame: three nets side by side. Written by wip/tools/gen/ntsame.py. No condition.
-/
import Derived.Test.YtmhhjipdbfepiaaNetOfWalk
namespace Go.Proofs.Ytmhhjipdbfepiaa
open Go.RowKit Go.Deep
set_option maxRecDepth 100000
set_option linter.unusedSimpArgs false
set_option linter.unusedVariables false

/-- A net with so many of the row sent. -/
def Nt.rowS (es : List Nt.M) (j : Nat) : Nt.St := ⟨64, (es.take j).map Nt.good, j, 0⟩
/-- Three nets made since w0, and messages in blocks of F's beside them. -/
structure Q3 (w0 : World) (F : Nat → Prop) (ra : Nat) (sa : Nt.St) (rb : Nat) (sb : Nt.St) (rc : Nat) (sc : Nt.St) (L : List (Nat × Nt.M)) (W : World) : Prop where
  nets : ∃ Ga Gb Gc, NP W Ga ra sa ∧ NP W Gb rb sb ∧ NP W Gc rc sc ∧ (∀ i, Ga i → w0.heap.size ≤ i ∧ ¬ Gb i ∧ ¬ Gc i ∧ ¬ F i) ∧ (∀ i, Gb i → w0.heap.size ≤ i ∧ ¬ Gc i ∧ ¬ F i) ∧ (∀ i, Gc i → w0.heap.size ≤ i ∧ ¬ F i)
  below : Below w0.heap.size w0 W
  fl : ∀ i, F i → i < W.heap.size
  side : ∀ p ∈ L, F p.1 ∧ NtAt W p.1 p.2
section
variable {w0 W W' : World} {F F' : Nat → Prop} {ra rb rc : Nat} {sa sb sc sa' : Nt.St} {L : List (Nat × Nt.M)}
theorem Q3.rot (h : Q3 w0 F ra sa rb sb rc sc L W) : Q3 w0 F rb sb rc sc ra sa L W := by
  obtain ⟨Ga, Gb, Gc, h1, h2, h3, h4, h5, h6⟩ := h.nets
  refine ⟨⟨Gb, Gc, Ga, h2, h3, h1, fun i hi => ⟨(h5 i hi).1, (h5 i hi).2.1, fun ha => (h4 i ha).2.1 hi, (h5 i hi).2.2⟩, fun i hi => ⟨(h6 i hi).1, fun ha => (h4 i ha).2.2.1 hi, (h6 i hi).2⟩, fun i hi => ⟨(h4 i hi).1, (h4 i hi).2.2.2⟩⟩, h.below, h.fl, h.side⟩
theorem Q3.on (h : Q3 w0 F ra sa rb sb rc sc L W) (hb : Below W.heap.size W W') : Q3 w0 F ra sa rb sb rc sc L W' := by
  obtain ⟨Ga, Gb, Gc, h1, h2, h3, h4, h5, h6⟩ := h.nets
  exact ⟨⟨Ga, Gb, Gc, h1.on hb, h2.on hb, h3.on hb, h4, h5, h6⟩, h.below.trans (hb.mono h.below.size), fun i hi => Nat.lt_of_lt_of_le (h.fl i hi) hb.size, fun p hp => ⟨(h.side p hp).1, (h.side p hp).2.on hb⟩⟩
theorem Q3.push (h : Q3 w0 F ra sa rb sb rc sc L W) (m : Nt.M) : ∃ F', (∀ b, F b → F' b) ∧ Q3 w0 F' ra sa rb sb rc sc ((W.heap.size, m) :: L) (W.alloc (.cells (Nt.cs m) 32)) := by
  have hb : Below W.heap.size W (W.alloc (.cells (Nt.cs m) 32)) := (Below.refl _ _).alloc (Nat.le_refl _) _
  have hn := NtAt.new W m
  obtain ⟨Ga, Gb, Gc, h1, h2, h3, h4, h5, h6⟩ := h.nets
  refine ⟨fun b => F b ∨ b = W.heap.size, fun b hb => .inl hb, ⟨Ga, Gb, Gc, h1.on hb, h2.on hb, h3.on hb, fun i hi => ⟨(h4 i hi).1, (h4 i hi).2.1, (h4 i hi).2.2.1, fun hf => hf.elim (h4 i hi).2.2.2 (fun e => by have := h1.lt i hi; omega)⟩, fun i hi => ⟨(h5 i hi).1, (h5 i hi).2.1, fun hf => hf.elim (h5 i hi).2.2 (fun e => by have := h2.lt i hi; omega)⟩, fun i hi => ⟨(h6 i hi).1, fun hf => hf.elim (h6 i hi).2 (fun e => by have := h3.lt i hi; omega)⟩⟩, h.below.trans (hb.mono h.below.size), fun i hi => ?_, fun p hp => ?_⟩
  · rcases hi with hi | hi
    · exact Nat.lt_of_lt_of_le (h.fl i hi) hb.size
    · rw [hi]; exact hn.cs.lt
  · rcases List.mem_cons.1 hp with rfl | hp
    · exact ⟨.inr rfl, hn⟩
    · exact ⟨.inl (h.side p hp).1, (h.side p hp).2.on hb⟩
theorem Q3.pop (h : Q3 w0 F' ra sa rb sb rc sc L W) (hF : ∀ b, F b → F' b) : Q3 w0 F ra sa rb sb rc sc [] W := by
  obtain ⟨Ga, Gb, Gc, h1, h2, h3, h4, h5, h6⟩ := h.nets
  exact ⟨⟨Ga, Gb, Gc, h1, h2, h3, fun i hi => ⟨(h4 i hi).1, (h4 i hi).2.1, (h4 i hi).2.2.1, fun hf => (h4 i hi).2.2.2 (hF i hf)⟩, fun i hi => ⟨(h5 i hi).1, (h5 i hi).2.1, fun hf => (h5 i hi).2.2 (hF i hf)⟩, fun i hi => ⟨(h6 i hi).1, fun hf => (h6 i hi).2 (hF i hf)⟩⟩, h.below, fun i hi => h.fl i (hF i hi), fun p hp => by cases hp⟩
/-- A call that turns the first of the three. -/
theorem q3_turn {f : FuncId} {args : Array Value} {v : Value} (h : Q3 w0 F ra sa rb sb rc sc L W) (hc : ∀ G, NP W G ra sa → Calls Try.prog f args W (NTurn G ra sa' v W)) : Calls Try.prog f args W (fun e w' => e = .returned v ∧ Q3 w0 F ra sa' rb sb rc sc L w') := by
  obtain ⟨Ga, Gb, Gc, h1, h2, h3, h4, h5, h6⟩ := h.nets
  refine (hc Ga h1).mono fun e w' hp => ?_
  obtain ⟨G', e1, e2, e3, e4⟩ := hp
  have kb : ∀ i, i < W.heap.size → ¬ Ga i → w'.heap[i]? = W.heap[i]? := fun i hi hn => e4.block i hi hn
  refine ⟨e1, ⟨⟨G', Gb, Gc, e2, h2.keep e4.size fun i hi => kb i (h2.lt i hi) (fun ha => (h4 i ha).2.1 hi), h3.keep e4.size fun i hi => kb i (h3.lt i hi) (fun ha => (h4 i ha).2.2.1 hi), fun i hi => ?_, h5, h6⟩, h.below.trans (e4.below h.below.size fun i hi => (h4 i hi).1), fun i hi => Nat.lt_of_lt_of_le (h.fl i hi) e4.size, fun p hp => ⟨(h.side p hp).1, (h.side p hp).2.keep (kb _ (h.fl _ (h.side p hp).1) (fun ha => (h4 _ ha).2.2.2 (h.side p hp).1))⟩⟩⟩
  rcases e3 i hi with hg | hg
  · exact h4 i hg
  · exact ⟨Nat.le_trans h.below.size hg, fun hb => by have := h2.lt i hb; omega, fun hb => by have := h3.lt i hb; omega, fun hb => by have := h.fl i hb; omega⟩
theorem q3_send {es : List Nt.M} {j : Nat} {x : Nt.M} (h : Q3 w0 F ra (Nt.rowS es j) rb sb rc sc L W) (hx : es[j]? = some x) (hj : j < 64) : Calls Try.prog 16 #[.pointer (some ⟨ra, 0, none⟩), Nt.val (Nt.good x)] W (fun e w' => e = .returned (.int .i64 0) ∧ Q3 w0 F ra (Nt.rowS es (j + 1)) rb sb rc sc L w') := by
  obtain ⟨h1, h2⟩ := row_send es j x hj hx
  refine q3_turn h fun G hG => ?_
  have h3 := nsend_any W G ra (Nt.rowS es j) (Nt.good x) hG (Nt.good_in x) ⟨by unfold Nt.rowS; simp, by unfold Nt.rowS; simp⟩ ⟨by unfold Nt.rowS; simp, by unfold Nt.rowS; simp only; omega⟩
  unfold Nt.rowS at h3
  rw [h1, h2] at h3
  exact h3
theorem q3_take {s : Nt.St} {at_ : Int} {m : Nt.M} (h : Q3 w0 F ra s rb sb rc sc L W) (ha : Nt.i64 at_) (h1 : Nt.takeB s = true) (h2 : Nt.takeM s at_ = m) : Calls Try.prog 18 #[.pointer (some ⟨ra, 0, none⟩), .int .i64 at_] W (fun e w' => e = .returned (.tuple #[Nt.val m, .bool true]) ∧ Q3 w0 F ra (Nt.takeS s at_) rb sb rc sc L w') := by
  refine q3_turn h fun G hG => ?_
  have h3 := ntake_any W G ra s at_ hG ha
  unfold TakePost at h3
  rw [h1, h2] at h3
  exact h3
theorem n3_make {w1 w2 w3 : World} {Ga Gb Gc : Nat → Prop} (hb0 : Below w0.heap.size w0 W) (ha : NP w1 Ga ra sa) (hga : ∀ i, Ga i → W.heap.size ≤ i) (hba : Below W.heap.size W w1) (hb : NP w2 Gb rb sb) (hgb : ∀ i, Gb i → w1.heap.size ≤ i) (hbb : Below w1.heap.size w1 w2) (hc : NP w3 Gc rc sc) (hgc : ∀ i, Gc i → w2.heap.size ≤ i) (hbc : Below w2.heap.size w2 w3) : Q3 w0 (fun _ => False) ra sa rb sb rc sc [] w3 := by
  have z0 := hb0.size
  have z1 := hba.size
  have z2 := hbb.size
  have a2 := ha.on hbb
  refine ⟨⟨Ga, Gb, Gc, a2.on hbc, hb.on hbc, hc, fun i hi => ⟨Nat.le_trans z0 (hga i hi), fun h => ?_, fun h => ?_, fun h => h⟩, fun i hi => ⟨Nat.le_trans (Nat.le_trans z0 z1) (hgb i hi), fun h => ?_, fun h => h⟩, fun i hi => ⟨Nat.le_trans (Nat.le_trans (Nat.le_trans z0 z1) z2) (hgc i hi), fun h => h⟩⟩, hb0.trans ((hba.trans ((hbb.trans (hbc.mono z2)).mono z1)).mono z0), fun i hi => hi.elim, fun p hp => by cases hp⟩
  · have := ha.lt i hi; have := hgb i h; omega
  · have := a2.lt i hi; have := hgc i h; omega
  · have := hb.lt i hi; have := hgc i h; omega
end
theorem row_at (es : List Nt.M) (n q k : Nat) (m : Nt.M) (hn : es.length = n) (hm : es[q]? = some m) (hq : q = k % n) (h0 : 0 < n) :
    (Nt.takeB ⟨64, es.map Nt.good, n, 0⟩ = true ∧ Nt.takeM ⟨64, es.map Nt.good, n, 0⟩ (k : Int) = Nt.good m) ∧ (Nt.takeB ⟨64, es.map Nt.good, n, 0⟩ = true ∧ Nt.takeM ⟨64, es.map Nt.good, n, 0⟩ ((k : Int) + (n : Int)) = Nt.good m) ∧ (Nt.takeB ⟨64, es.map Nt.good, n, 0⟩ = true ∧ Nt.takeM ⟨64, es.map Nt.good, n, 0⟩ (-(k : Int) - 1) = Nt.good m) := by
  have hl : (es.map Nt.good).length = n := by rw [List.length_map, hn]
  have hB : ∀ se : Int, Nt.takeB ⟨64, es.map Nt.good, se, 0⟩ = true := fun se => decide_eq_true (by show 0 < (es.map Nt.good).length; omega)
  have hG : (es.map Nt.good).getD q Nt.zero = Nt.good m := by rw [List.getD_eq_getElem?_getD, List.getElem?_map, hm]; rfl
  have hM : ∀ (se a : Int), Nt.pl n a = q → Nt.takeM ⟨64, es.map Nt.good, se, 0⟩ a = Nt.good m := fun se a ha => by
    unfold Nt.takeM
    simp only [hl]
    rw [if_pos h0, ha]
    exact hG
  have hkq : (k : Int) % (n : Int) = (q : Int) := by rw [hq]; omega
  refine ⟨⟨hB _, hM _ _ ?_⟩, ⟨hB _, hM _ _ ?_⟩, ⟨hB _, hM _ _ ?_⟩⟩
  · unfold Nt.pl
    rw [if_neg (by omega), hkq]
    rfl
  · unfold Nt.pl
    rw [if_neg (by omega), Int.add_emod_right, hkq]
    rfl
  · unfold Nt.pl
    rw [if_pos (by omega), show -(-(k : Int) - 1 + 1) = (k : Int) by omega, hkq]
    rfl
set_option maxHeartbeats 6400000 in
theorem netsame_walk (A : Option Addr) (k c : Nat) (l : List Nt.M) (at_ : Int) (w : World) (hs : SlM w A k c l) : Calls Try.prog 6 #[.slice A k c, .int .i64 at_] w (NPos w (.bool true)) := by
  have CL := Lib.hid (ntlives_any w)
  obtain ⟨n, hn⟩ : ∃ n, n = min k 20 := ⟨_, rfl⟩
  have hs1 := hs.1.take Nt.mC_len (k := n) (by omega)
  have hkl := hs.1.len
  have hkc := hs.1.cap
  have hcm := hs.1.max
  have hc63 : (c : Int) ≤ 9223372036854775807 := by unfold maxLen at hcm; omega
  obtain ⟨es, hes⟩ : ∃ es, es = l.take n := ⟨_, rfl⟩
  rw [← hes] at hs1
  have S := Lib.hid hs1
  have hmn : min (k : Int) 20 = (n : Int) := by omega
  have hn20 : n ≤ 20 := by omega
  have LN : Hid (es.length = n) := by show _ = _; rw [hes, List.length_take]; omega
  have hcut := fun W => mlow_run (n := n) hs.1 (by omega) W
  clear hs hs1 hes hn hkl hcm
  by_cases h0 : n = 0
  · have q0 : ((n : Int) == 0) = true := by rw [beq_iff_eq]; omega
    go_enter Try.func6, Try.ntmps6
    go_wp2_with (go_at_call 9; (with_reducible refine CL.out.mono ?_); rintro e w1 ⟨rfl, hb⟩; have B1 := Lib.hid hb; clear hb)
    go_ret
    exact ⟨rfl, B1.out⟩
  · have q0 : ((n : Int) == 0) = false := by rw [beq_eq_false_iff_ne]; omega
    go_enter Try.func6, Try.ntmps6
    go_upto_region 8 with (first
      | (go_at_call 9; (with_reducible refine CL.out.mono ?_); rintro e w1 ⟨rfl, hb⟩; have B1 := Lib.hid hb; clear hb CL)
      | (go_at_call 10; (with_reducible refine (nnew_any 64 _).mono ?_); rintro e w5 ⟨rc, Gc, rfl, hc, hgc, hbc⟩; have N5 := Lib.hid (n3_make B1.out HA.out GA.out BA.out HB.out GB.out BB.out hc hgc hbc); clear hc hgc hbc)
      | (go_at_call 10; (with_reducible refine (nnew_any 64 _).mono ?_); have h1 := HA.out; rintro e w4 ⟨rb, Gb, rfl, hb, hgb, hbb⟩; have HB := Lib.hid hb; have GB := Lib.hid hgb; have BB := Lib.hid hbb; clear hb hgb hbb h1)
      | (go_at_call 10; (with_reducible refine (nnew_any 64 _).mono ?_); rintro e w3 ⟨ra, Ga, rfl, ha, hga, hba⟩; have HA := Lib.hid ha; have GA := Lib.hid hga; have BA := Lib.hid hba; clear ha hga hba))
    clear HA GA BA HB GB BB B1
    go_wp2_with fail
    go_loopw [8] (fun i wr => ∃ j : Nat, j ≤ n ∧ i = .int .i64 j ∧ Q3 w (fun _ => False) ra (Nt.rowS es j) rb (Nt.rowS es j) rc (Nt.rowS es j) [] wr) (fun i _ => n - (intOf i).toNat)
    case atStart => exact ⟨0, by omega, rfl, (show Nt.rowS es 0 = Nt.new 64 from rfl) ▸ N5.out⟩
    case round =>
      clear N5
      obtain ⟨j, hj, rfl, hm⟩ := hrel
      have Q := Lib.hid hm
      clear hm
      by_cases hlt : j < n
      · have hjl : j < es.length := by have := LN.out; omega
        have EX : Hid (es[j]? = some es[j]) := List.getElem?_eq_getElem hjl
        generalize es[j] = x at EX
        obtain ⟨b, o, hA, hbl, hrg⟩ := nt_range (S.out.on Q.out.below) EX.out
        subst hA
        have RG := Lib.hid hrg
        have i1 : (0 : Int) ≤ (j : Int) := by omega
        have i2 : (j : Int) < (n : Int) := by omega
        have HJ : Hid (j < 64) := by show _ < _; omega
        clear hrg hbl
        go_upto_region 12 with (first
          | ((with_reducible show wpList _ _ _ ({ dst := some 39, op := .load _ _, type := _, pos := _, after := _, guard := _ } :: _) _ _); refine wpList_load_msg rfl (.tmp 38) rfl b (o + j * 6) rfl x RG.out ?_)
          | (go_at_call 30; (with_reducible refine (rtgood_any x _).mono ?_); rintro e w6 ⟨rfl, hb6⟩; have Q6 := Lib.hid (Q.out.on hb6); clear hb6))
        obtain ⟨F7, _, hq7⟩ := Q6.out.push (Nt.good x)
        have Q7 := Lib.hid hq7
        obtain ⟨g, hg⟩ : ∃ g, g = w6.heap.size := ⟨_, rfl⟩
        rw [← hg] at Q7 ⊢
        clear hq7 hg Q6 Q RG
        generalize w6.alloc (.cells (Nt.cs (Nt.good x)) 32) = w7 at *
        have C1 := Lib.hid (fun sb sc W (h : Q3 w F7 ra (Nt.rowS es j) rb sb rc sc [(g, Nt.good x)] W) => q3_send h EX.out HJ.out)
        go_wp2_with (first
          | ((with_reducible show wpList _ _ _ ({ dst := some 42, op := .load _ _, type := _, pos := _, after := _, guard := _ } :: _) _ _); refine wpList_load_msg rfl (.tmp 9) rfl g 0 rfl (Nt.good x) (Q7.out.side _ List.mem_cons_self).2.range ?_)
          | ((with_reducible show wpList _ _ _ ({ dst := some 45, op := .load _ _, type := _, pos := _, after := _, guard := _ } :: _) _ _); refine wpList_load_msg rfl (.tmp 9) rfl g 0 rfl (Nt.good x) (Q8.out.side _ List.mem_cons_self).2.range ?_)
          | ((with_reducible show wpList _ _ _ ({ dst := some 48, op := .load _ _, type := _, pos := _, after := _, guard := _ } :: _) _ _); refine wpList_load_msg rfl (.tmp 9) rfl g 0 rfl (Nt.good x) (Q9.out.side _ List.mem_cons_self).2.range ?_)
          | (go_at_call 16; (with_reducible refine (q3_send Q7.out EX.out HJ.out).mono ?_); rintro e w8 ⟨rfl, hq8⟩; have Q8 := Lib.hid hq8.rot; clear hq8)
          | (go_at_call 16; (with_reducible refine (q3_send Q8.out EX.out HJ.out).mono ?_); rintro e w9 ⟨rfl, hq9⟩; have Q9 := Lib.hid hq9.rot; clear hq9)
          | (go_at_call 16; (with_reducible refine (q3_send Q9.out EX.out HJ.out).mono ?_); rintro e w10 ⟨rfl, hq10⟩; have Q10 := Lib.hid hq10.rot; clear hq10))
        exact ⟨⟨j + 1, by omega, by go_num, Q10.out.pop (fun b hb => hb.elim)⟩, by simp [intOf]; omega⟩
      · obtain rfl : n = j := by omega
        have ER : Hid (Nt.rowS es n = ⟨64, es.map Nt.good, n, 0⟩) := by show _ = _; unfold Nt.rowS; rw [List.take_of_length_le (by have := LN.out; omega)]
        rw [ER.out] at Q
        obtain ⟨kk, hkk, hk1000⟩ := mod_at at_ 1000 (by omega) (by omega)
        have hkk2 : wrap64 ((IntKind.u64.wrap at_).tmod 1000) = (kk : Int) := hkk
        have HI : Hid (Nt.i64 (kk : Int) ∧ Nt.i64 ((kk : Int) + (n : Int)) ∧ Nt.i64 (-(kk : Int) - 1)) := ⟨⟨by omega, by omega⟩, ⟨by omega, by omega⟩, ⟨by omega, by omega⟩⟩
        have hw1 : wrap64 ((kk : Int) + (n : Int)) = (kk : Int) + (n : Int) := IntWalk.wrap64_in _ ⟨by omega, by omega⟩
        have hw2 : wrap64 (-(kk : Int)) = -(kk : Int) := IntWalk.wrap64_in _ ⟨by omega, by omega⟩
        have hw3 : wrap64 (-(kk : Int) - 1) = -(kk : Int) - 1 := IntWalk.wrap64_in _ ⟨by omega, by omega⟩
        have hnn : ¬ ((n : Int) = 0) := by omega
        have hn0 : 0 < n := by omega
        have HKI : Hid (kk < 1000) := hk1000
        obtain ⟨q, HQ, hqn⟩ : ∃ q, Hid (q = kk % n) ∧ q < n := ⟨_, rfl, Nat.mod_lt _ hn0⟩
        have hjl : q < es.length := by rw [LN.out]; exact hqn
        have EX : Hid (es[q]? = some es[q]) := List.getElem?_eq_getElem hjl
        generalize es[q] = m at EX
        have TA := Lib.hid (row_at es n q kk m LN.out EX.out HQ.out (by omega))
        obtain ⟨b, o, hA, hbl, hrg⟩ := nt_range S.out EX.out
        subst hA
        have HBL := Lib.hid hbl
        have RG := Lib.hid hrg
        have iq1 : (0 : Int) ≤ (q : Int) := by omega
        have iq2 : (q : Int) < (n : Int) := by omega
        have hiq : IntKind.i64.wrap (q : Int) = (q : Int) := IntWalk.i64_in _ (by omega)
        have hrem : (kk : Int) % (n : Int) = (q : Int) := by rw [HQ.out]; exact (by simp : (kk : Int) % (n : Int) = ((kk % n : Nat) : Int))
        have htm : (kk : Int).tmod (n : Int) = (q : Int) := by rw [Int.tmod_eq_emod_of_nonneg (by omega)]; exact hrem
        have hrw : IntKind.i64.wrap ((kk : Int) % (n : Int)) = (q : Int) := by rw [hrem]; exact hiq
        clear hkk hrg hbl ER EX HQ hiq
        go_upto_region 17 with (go_at_call 18; (with_reducible refine (q3_take Q.out HI.out.1 TA.out.1.1 TA.out.1.2).mono ?_); rintro e w6 ⟨rfl, hq6⟩; have Q6 := Lib.hid hq6; clear hq6)
        obtain ⟨F7, _, hq7⟩ := Q6.out.push (Nt.good m)
        have Q7 := Lib.hid hq7.rot
        obtain ⟨gx, hgx⟩ : ∃ g, g = w6.heap.size := ⟨_, rfl⟩
        rw [← hgx] at Q7 ⊢
        clear hq7 hgx Q6 Q
        generalize w6.alloc (.cells (Nt.cs (Nt.good m)) 32) = w7 at *
        go_upto_region 18 with (go_at_call 18; (with_reducible refine (q3_take Q7.out HI.out.2.1 TA.out.2.1.1 TA.out.2.1.2).mono ?_); rintro e w8 ⟨rfl, hq8⟩; have Q8 := Lib.hid hq8; clear hq8)
        obtain ⟨F9, _, hq9⟩ := Q8.out.push (Nt.good m)
        have Q9 := Lib.hid hq9.rot
        obtain ⟨gy, hgy⟩ : ∃ g, g = w8.heap.size := ⟨_, rfl⟩
        rw [← hgy] at Q9 ⊢
        clear hq9 hgy Q8 Q7
        generalize w8.alloc (.cells (Nt.cs (Nt.good m)) 32) = w9 at *
        go_upto_region 19 with (go_at_call 18; (with_reducible refine (q3_take Q9.out HI.out.2.2 TA.out.2.2.1 TA.out.2.2.2).mono ?_); rintro e w10 ⟨rfl, hq10⟩; have Q10 := Lib.hid hq10; clear hq10)
        obtain ⟨F11, _, hq11⟩ := Q10.out.push (Nt.good m)
        have Q11 := Lib.hid (hq11.on (W' := (w10.alloc (.cells (Nt.cs (Nt.good m)) 32)).drew) (Below.refl _ _).drew)
        obtain ⟨gz, hgz⟩ : ∃ g, g = w10.heap.size := ⟨_, rfl⟩
        rw [← hgz] at Q11 ⊢
        clear hq11 hgz Q10 Q9
        have hea : ∀ W, (binOp .eql 32 (Nt.val (Nt.good m)) (Nt.val (Nt.good m))).run Try.prog W = .ok (.bool true) W := fun W => msg_eq (by simp) W
        generalize hw11 : (w10.alloc (.cells (Nt.cs (Nt.good m)) 32)).drew = w11 at *
        refine wp_region_held_drew (S := fun X => NtAt X gx (Nt.good m) ∧ NtAt X gy (Nt.good m) ∧ NtAt X gz (Nt.good m) ∧ X.rangeAt b (o + q * 6) (Nt.mC m) ∧ Below w.heap.size w X) (by kernel_rfl) (by rw [hw11]; exact ⟨(Q11.out.side (gx, Nt.good m) (by simp)).2, (Q11.out.side (gy, Nt.good m) (by simp)).2, (Q11.out.side (gz, Nt.good m) (by simp)).2, nrange_on RG.out (Q11.out.below.block b HBL.out), Q11.out.below⟩) (fun hS => ?_)
        rw [hw11] at hS ⊢
        clear hw11
        refine tkYes 0 (v := ?_) rfl (by kernel_rfl) (fun _ _ _ h => h) rfl ?_ hS ?_
        rotate_left
        · intro W hW; go_simp; (try with_reducible rfl)
        simp only [Act.put, List.setIfInBounds_toArray, List.set_cons_zero, List.set_cons_succ]
        refine tkYes 1 (v := ?_) rfl (by kernel_rfl) (fun _ _ _ h => h) rfl ?_ hS ?_
        rotate_left
        · intro W hW; go_simp; (try with_reducible rfl)
        simp only [Act.put, List.setIfInBounds_toArray, List.set_cons_zero, List.set_cons_succ]
        refine tkYes 2 (v := ?_) rfl (by kernel_rfl) (fun _ _ _ h => h) rfl ?_ hS ?_
        rotate_left
        · intro W hW; go_simp; (try with_reducible rfl)
        simp only [Act.put, List.setIfInBounds_toArray, List.set_cons_zero, List.set_cons_succ]
        refine tkYes 3 (v := ?_) rfl (by kernel_rfl) (fun _ _ _ h => h) rfl ?_ hS ?_
        rotate_left
        · intro W hW; go_simp; (try with_reducible rfl)
        simp only [Act.put, List.setIfInBounds_toArray, List.set_cons_zero, List.set_cons_succ]
        refine tkYes 4 (v := ?_) rfl (by kernel_rfl) (fun _ _ _ h => h) rfl ?_ hS ?_
        rotate_left
        · intro W hW; go_simp; (try with_reducible rfl)
        simp only [Act.put, List.setIfInBounds_toArray, List.set_cons_zero, List.set_cons_succ]
        refine tkYes 5 (v := ?_) rfl (by kernel_rfl) (fun _ _ _ h => h) rfl ?_ hS ?_
        rotate_left
        · intro W hW; go_simp; (try with_reducible rfl)
        simp only [Act.put, List.setIfInBounds_toArray, List.set_cons_zero, List.set_cons_succ]
        refine tkYes 6 (v := ?_) rfl (by kernel_rfl) (fun _ _ _ h => h) rfl ?_ hS ?_
        rotate_left
        · intro W hW; go_simp; (try with_reducible rfl)
        simp only [Act.put, List.setIfInBounds_toArray, List.set_cons_zero, List.set_cons_succ]
        refine tkYes 7 (v := ?_) rfl (by kernel_rfl) (fun _ _ _ h => h) rfl ?_ hS ?_
        rotate_left
        · intro W hW; go_simp; (try with_reducible rfl)
        simp only [Act.put, List.setIfInBounds_toArray, List.set_cons_zero, List.set_cons_succ]
        refine tkYes 8 (v := Nt.val (Nt.good m)) rfl (by kernel_rfl) (fun _ _ _ h => h) rfl (fun W hW => take_msg (.tmp 11) rfl gx 0 (Nt.good m) rfl hW.1.range) hS ?_
        simp only [Act.put, List.setIfInBounds_toArray, List.set_cons_zero, List.set_cons_succ]
        refine tkYes 9 (v := Nt.val (Nt.good m)) rfl (by kernel_rfl) (fun _ _ _ h => h) rfl (fun W hW => take_msg (.tmp 13) rfl gy 0 (Nt.good m) rfl hW.2.1.range) hS ?_
        simp only [Act.put, List.setIfInBounds_toArray, List.set_cons_zero, List.set_cons_succ]
        refine tkYes 10 (v := ?_) rfl (by kernel_rfl) (fun _ _ _ h => h) rfl ?_ hS ?_
        rotate_left
        · intro W hW; go_simp; (try with_reducible rfl)
        simp only [Act.put, List.setIfInBounds_toArray, List.set_cons_zero, List.set_cons_succ]
        refine tkYes 11 (v := ?_) rfl (by kernel_rfl) (fun _ _ _ h => h) rfl ?_ hS ?_
        rotate_left
        · intro W hW; go_simp; (try with_reducible rfl)
        simp only [Act.put, List.setIfInBounds_toArray, List.set_cons_zero, List.set_cons_succ]
        refine tkYes 12 (v := ?_) rfl (by kernel_rfl) (fun _ _ _ h => h) rfl ?_ hS ?_
        rotate_left
        · intro W hW; go_simp; (try with_reducible rfl)
        simp only [Act.put, List.setIfInBounds_toArray, List.set_cons_zero, List.set_cons_succ]
        refine tkYes 13 (v := Nt.val (Nt.good m)) rfl (by kernel_rfl) (fun _ _ _ h => h) rfl (fun W hW => take_msg (.tmp 11) rfl gx 0 (Nt.good m) rfl hW.1.range) hS ?_
        simp only [Act.put, List.setIfInBounds_toArray, List.set_cons_zero, List.set_cons_succ]
        refine tkYes 14 (v := Nt.val (Nt.good m)) rfl (by kernel_rfl) (fun _ _ _ h => h) rfl (fun W hW => take_msg (.tmp 15) rfl gz 0 (Nt.good m) rfl hW.2.2.1.range) hS ?_
        simp only [Act.put, List.setIfInBounds_toArray, List.set_cons_zero, List.set_cons_succ]
        refine tkYes 15 (v := ?_) rfl (by kernel_rfl) (fun _ _ _ h => h) rfl ?_ hS ?_
        rotate_left
        · intro W hW; go_simp; (try with_reducible rfl)
        simp only [Act.put, List.setIfInBounds_toArray, List.set_cons_zero, List.set_cons_succ]
        refine tkYes 16 (v := ?_) rfl (by kernel_rfl) (fun _ _ _ h => h) rfl ?_ hS ?_
        rotate_left
        · intro W hW; go_simp; (try with_reducible rfl)
        simp only [Act.put, List.setIfInBounds_toArray, List.set_cons_zero, List.set_cons_succ]
        refine tkYes 17 (v := ?_) rfl (by kernel_rfl) (fun _ _ _ h => h) rfl ?_ hS ?_
        rotate_left
        · intro W hW; go_simp; (try with_reducible rfl)
        simp only [Act.put, List.setIfInBounds_toArray, List.set_cons_zero, List.set_cons_succ]
        refine tkYes 18 (v := Nt.val (Nt.good m)) rfl (by kernel_rfl) (fun _ _ _ h => h) rfl (fun W hW => take_msg (.tmp 11) rfl gx 0 (Nt.good m) rfl hW.1.range) hS ?_
        simp only [Act.put, List.setIfInBounds_toArray, List.set_cons_zero, List.set_cons_succ]
        refine tkYes 19 (v := ?_) rfl (by kernel_rfl) (fun _ _ _ h => h) rfl ?_ hS ?_
        rotate_left
        · intro W hW; go_simp; (try with_reducible rfl)
        simp only [Act.put, List.setIfInBounds_toArray, List.set_cons_zero, List.set_cons_succ]
        refine tkYes 20 (v := ?_) rfl (by kernel_rfl) (fun _ _ _ h => h) rfl ?_ hS ?_
        rotate_left
        · intro W hW; go_simp; (try with_reducible rfl)
        simp only [Act.put, List.setIfInBounds_toArray, List.set_cons_zero, List.set_cons_succ]
        refine tkYes 21 (v := ?_) rfl (by kernel_rfl) (fun _ _ _ h => h) rfl ?_ hS ?_
        rotate_left
        · intro W hW; go_simp; (try with_reducible rfl)
        simp only [Act.put, List.setIfInBounds_toArray, List.set_cons_zero, List.set_cons_succ]
        refine tkYes 22 (v := ?_) rfl (by kernel_rfl) (fun _ _ _ h => h) rfl ?_ hS ?_
        rotate_left
        · intro W hW; go_simp; (try with_reducible rfl)
        simp only [Act.put, List.setIfInBounds_toArray, List.set_cons_zero, List.set_cons_succ]
        refine tkYes 23 (v := ?_) rfl (by kernel_rfl) (fun _ _ _ h => h) rfl ?_ hS ?_
        rotate_left
        · intro W hW; go_simp; (try with_reducible rfl)
        simp only [Act.put, List.setIfInBounds_toArray, List.set_cons_zero, List.set_cons_succ]
        refine tkYes 24 (v := ?_) rfl (by kernel_rfl) (fun _ _ _ h => h) rfl ?_ hS ?_
        rotate_left
        · intro W hW; go_simp; (try with_reducible rfl)
        simp only [Act.put, List.setIfInBounds_toArray, List.set_cons_zero, List.set_cons_succ]
        refine tkYes 25 (v := Nt.val m) rfl (by kernel_rfl) (fun _ _ _ h => h) rfl (fun W hW => take_msg (.tmp 101) rfl b (o + q * 6) m (by simp [Act.eval, go_sem]) hW.2.2.2.1) hS ?_
        simp only [Act.put, List.setIfInBounds_toArray, List.set_cons_zero, List.set_cons_succ]
        refine rnOne 26 rfl (by kernel_rfl) rfl (fun K hK => ?_)
        go_simp
        with_reducible refine (rtgood_any m _).mono ?_
        rintro e w9 ⟨rfl, hb9⟩
        have hS2 : NtAt w9 gx (Nt.good m) ∧ NtAt w9 gy (Nt.good m) ∧ NtAt w9 gz (Nt.good m) ∧ w9.rangeAt b (o + q * 6) (Nt.mC m) ∧ Below w.heap.size w w9 := ⟨hS.1.on hb9, hS.2.1.on hb9, hS.2.2.1.on hb9, nrange_on hS.2.2.2.1 (hb9.block b (by have := hS.2.2.2.2.size; have := HBL.out; omega)), hS.2.2.2.2.trans (hb9.mono hS.2.2.2.2.size)⟩
        clear hS hb9
        have hS := hS2
        clear hS2
        refine hK.out _ _ hS (fun _ => ?_)
        clear hK K
        try simp only [Act.put, List.setIfInBounds_toArray, List.set_cons_zero, List.set_cons_succ]
        refine tkYes 27 (v := ?_) rfl (by kernel_rfl) (fun _ _ _ h => h) rfl ?_ hS ?_
        rotate_left
        · intro W hW; go_simp; (try with_reducible rfl)
        simp only [Act.put, List.setIfInBounds_toArray, List.set_cons_zero, List.set_cons_succ]
        refine tkYes 28 (v := ?_) rfl (by kernel_rfl) (fun _ _ _ h => h) rfl ?_ hS ?_
        rotate_left
        · intro W hW; go_simp; (try with_reducible rfl)
        simp only [Act.put, List.setIfInBounds_toArray, List.set_cons_zero, List.set_cons_succ]
        refine tkYes 29 (v := ?_) rfl (by kernel_rfl) (fun _ _ _ h => h) rfl ?_ hS ?_
        rotate_left
        · intro W hW; go_simp; (try with_reducible rfl)
        simp only [Act.put, List.setIfInBounds_toArray, List.set_cons_zero, List.set_cons_succ]
        refine wpAnyH_done (by kernel_rfl) ?_ _
        have B9 := Lib.hid hS.2.2.2.2
        clear hS
        go_wp2_with fail
        go_ret
        exact ⟨rfl, B9.out⟩
end Go.Proofs.Ytmhhjipdbfepiaa
