/-
  Package kv: wrongRev, dropsNone, lenBehind. No condition.
-/
import Derived.Test.YtmkfiiheeplmgaaKd3
import Derived.Test.YtmkfiiheeplmgaaKvRef6
namespace Go.Proofs.Ytmkfiiheeplmgaa
open Go.RowKit Go.Deep Go.Maps

theorem kvodd_any (W : World) (p : Value) (mo : Option Nat) (s : Kv.St) (h : EAt W p mo s) (o : Kv.Po) (hk : o.key.size ≤ maxLen) : Calls Try.prog 35 (#[p].push (opV o)) W (fun e w' => e = .returned (.bool (Kv.oddB s o)) ∧ Below W.heap.size W w') := by
  have B1 := Lib.hid ((Below.refl W.heap.size W).alloc (Nat.le_refl _) (.cells #[.string o.key, .string o.val, .int .i64 o.rev, .bool o.drop] 52))
  have R1 := Lib.hid (heap_alloc_new W (.cells #[.string o.key, .string o.val, .int .i64 o.rev, .bool o.drop] 52))
  have C := Lib.hid (kvget_ask _ p mo s (h.on B1.out) o.key hk)
  unfold KGet at C
  unfold opV Kv.oddB
  generalize Kv.valOf s.l o.key = v at *
  generalize Kv.revOf s.l o.key = r at *
  clear h hk
  obtain ⟨key, val, rev, drop⟩ := o
  simp only at *
  show Calls _ _ #[_, _] _ _
  by_cases g0 : 0 ≤ rev
  · by_cases g1 : rev = r
    · have hee : (rev == r) = true := by rw [beq_iff_eq]; exact g1
      have G1 := Lib.hid g1
      clear g1
      go_enter Try.func35, Try.ntmps35
      go_wp2_with (go_at_call 16; (with_reducible refine C.out.mono ?_); rintro e w1 ⟨rfl, hb1⟩; have RR := Lib.hid ((hb1.block _ (Array.getElem?_eq_some_iff.1 R1.out).1).trans R1.out); have B2 := Lib.hid (B1.out.trans (hb1.mono B1.out.size)); have c2 : w1.cell? ⟨W.heap.size, 2, none⟩ = some (.int .i64 rev) := (by rw [cell_of_row w1 _ 2 _ _ _ RR.out]; rfl); clear hb1)
      go_ret
      exact ⟨by simp [G1.out], B2.out⟩
    · have hee : (rev == r) = false := by rw [beq_eq_false_iff_ne]; exact g1
      have G1 := Lib.hid g1
      clear g1
      go_enter Try.func35, Try.ntmps35
      go_wp2_with (go_at_call 16; (with_reducible refine C.out.mono ?_); rintro e w1 ⟨rfl, hb1⟩; have RR := Lib.hid ((hb1.block _ (Array.getElem?_eq_some_iff.1 R1.out).1).trans R1.out); have B2 := Lib.hid (B1.out.trans (hb1.mono B1.out.size)); have c2 : w1.cell? ⟨W.heap.size, 2, none⟩ = some (.int .i64 rev) := (by rw [cell_of_row w1 _ 2 _ _ _ RR.out]; rfl); clear hb1)
      go_ret
      exact ⟨by simp [G1.out, g0], B2.out⟩
  · go_enter Try.func35, Try.ntmps35
    go_wp2_with (go_at_call 16; (with_reducible refine C.out.mono ?_); rintro e w1 ⟨rfl, hb1⟩; have RR := Lib.hid ((hb1.block _ (Array.getElem?_eq_some_iff.1 R1.out).1).trans R1.out); have B2 := Lib.hid (B1.out.trans (hb1.mono B1.out.size)); have c2 : w1.cell? ⟨W.heap.size, 2, none⟩ = some (.int .i64 rev) := (by rw [cell_of_row w1 _ 2 _ _ _ RR.out]; rfl); clear hb1)
    go_ret
    exact ⟨by simp; intro h; omega, B2.out⟩
theorem kvlack_any (W : World) (p : Value) (mo : Option Nat) (s : Kv.St) (h : EAt W p mo s) (o : Kv.Po) (hk : o.key.size ≤ maxLen) : Calls Try.prog 36 (#[p].push (opV o)) W (fun e w' => e = .returned (.bool (Kv.lackB s o)) ∧ Below W.heap.size W w') := by
  have B1 := Lib.hid ((Below.refl W.heap.size W).alloc (Nat.le_refl _) (.cells #[.string o.key, .string o.val, .int .i64 o.rev, .bool o.drop] 52))
  have C := Lib.hid (kvhas_any _ p mo s (h.on B1.out) o.key hk)
  unfold opV Kv.lackB
  generalize (Kv.find s.l o.key).isSome = b at *
  clear h hk
  obtain ⟨key, val, rev, drop⟩ := o
  simp only at *
  show Calls _ _ #[_, _] _ _
  cases drop with
  | true =>
    go_enter Try.func36, Try.ntmps36
    go_wp2_with (go_at_call 41; (with_reducible refine C.out.mono ?_); rintro e w1 ⟨rfl, hb1⟩; have B2 := Lib.hid (B1.out.trans (hb1.mono B1.out.size)); clear hb1)
    go_ret
    exact ⟨by simp, B2.out⟩
  | false =>
    go_enter Try.func36, Try.ntmps36
    go_wp2_with fail
    go_ret
    exact ⟨by simp, B1.out⟩
theorem bad_fn {w0 w : World} {n c : Nat} {A : Option Addr} {l : List Kv.Po} (h : SlP w0 A n c l) : FnB 33 #[] Kv.badB w l :=
  fun W o ho _ => kvbad_any W o (h.poOk ho).1 (h.poOk ho).2.1
theorem odd_fn {w0 w : World} {p : Value} {mo : Option Nat} {s : Kv.St} {n c : Nat} {A : Option Addr} {l : List Kv.Po} (h : SlP w0 A n c l) (hk : EAt w p mo s) : FnB 35 #[p] (Kv.oddB s) w l :=
  fun W o ho hb => kvodd_any W p mo s (hk.on hb) o (h.poOk ho).1
theorem lack_fn {w0 w : World} {p : Value} {mo : Option Nat} {s : Kv.St} {n c : Nat} {A : Option Addr} {l : List Kv.Po} (h : SlP w0 A n c l) (hk : EAt w p mo s) : FnB 36 #[p] (Kv.lackB s) w l :=
  fun W o ho hb => kvlack_any W p mo s (hk.on hb) o (h.poOk ho).1
namespace Kv
theorem step_size {r : Int} {l : List En} {o : Po} (hl : Rise l) (hd : o.drop = true → (find l o.key).isSome = true) : ((step r l o).length : Int) = l.length + (if o.drop then -1 else if (find l o.key).isSome then 0 else 1) := by
  have h1 := dropK_length hl o.key
  unfold step
  cases h : o.drop with
  | true =>
    rw [hd h] at h1
    simp only [if_true] at h1 ⊢
    omega
  | false =>
    simp only [Bool.false_eq_true, if_false]
    rw [putK_length]
    cases h2 : (find l o.key).isSome
    · rw [h2] at h1; simp at h1 ⊢; omega
    · rw [h2] at h1; simp at h1 ⊢; omega
end Kv
set_option maxHeartbeats 1600000 in
theorem kvlenb_any (w : World) (p : Value) (mo : Option Nat) (s : Kv.St) (l : List Kv.Po) (n c : Nat) (A : Option Addr) (w0 : World) (hk : EAt w p mo s) (h : SlP w0 A n c l) (hb0 : Below w0.heap.size w0 w) (hr : Kv.Right l) (hlk : ∀ o ∈ l, ¬ Kv.Lacks s o) (hz : l.length ≤ 70) :
    Calls Try.prog 37 #[p, .slice A n c] w (KInt ((Kv.after s l).l.length : Nat) w) := by
  have hn := h.len
  have hmx := h.max
  have hcp := h.cap
  unfold maxLen at hmx
  have HA := Lib.hid h
  have HN := Lib.hid hn
  have HZ := Lib.hid hz
  have B0 := Lib.hid hb0
  have HK := Lib.hid hk
  have RT := Lib.hid hr
  have GD := Lib.hid hk.good
  have NL := Lib.hid hlk
  have CL := Lib.hid (kvlen_ask w p mo s hk)
  clear h hn hb0 hk hr hz hlk
  go_enter Try.func37, Try.ntmps37
  go_wp2_with (go_at_call 23; (with_reducible refine CL.out.mono ?_); rintro e w1 ⟨rfl, rfl⟩)
  go_loopw [5, 12] (fun z i wr => ∃ j : Nat, j ≤ n ∧ i = .int .i64 j ∧ z = .int .i64 (((l.take j).foldl (Kv.step (s.rev + 1)) s.l).length : Nat) ∧ Below w1.heap.size w1 wr) (fun _ i _ => n - (intOf i).toNat)
  case atStart => exact ⟨0, by omega, rfl, rfl, Below.refl _ _⟩
  case round =>
    obtain ⟨j, hj, rfl, rfl, hbr⟩ := hrel
    have B := Lib.hid hbr
    have BB := Lib.hid (B0.out.trans (hbr.mono B0.out.size))
    clear hbr
    by_cases hlt : j < n
    · obtain ⟨b1, o1, rfl⟩ := HA.out.addr (by have := HN.out; omega)
      have EA : Hid (l[j]? = some (l[j]'(by have := HN.out; omega))) := List.getElem?_eq_getElem _
      generalize l[j]'(by have := HN.out; omega) = x at *
      obtain ⟨p0, p1, p2, p3⟩ := HA.out.po EA.out BB.out
      have HM : Hid (x ∈ l) := List.mem_of_getElem? EA.out
      have KS := Lib.hid (HA.out.poOk HM.out).1
      have BN := Lib.hid ((Below.refl wr.heap.size wr).alloc (Nat.le_refl _) (.cells #[.string x.key, .string x.val, .int .i64 x.rev, .bool x.drop] 52))
      have B2 := Lib.hid (B.out.trans (BN.out.mono B.out.size))
      have CH := Lib.hid (kvhas_any _ p mo s (HK.out.on B2.out) x.key KS.out)
      have LS : Hid ((l.take (j + 1)).foldl (Kv.step (s.rev + 1)) s.l = Kv.step (s.rev + 1) ((l.take j).foldl (Kv.step (s.rev + 1)) s.l) x) := Kv.steps_snoc (s.rev + 1) EA.out s.l
      have FL : Hid (Kv.find ((l.take j).foldl (Kv.step (s.rev + 1)) s.l) x.key = Kv.find s.l x.key) := Kv.find_steps_other fun o ho => by
        obtain ⟨i, hi⟩ := List.getElem?_of_mem ho
        rw [List.getElem?_take] at hi
        split at hi
        · rename_i hij
          obtain ⟨g1, e1⟩ := List.getElem?_eq_some_iff.1 hi
          obtain ⟨g2, e2⟩ := List.getElem?_eq_some_iff.1 EA.out
          have := List.pairwise_iff_getElem.1 RT.out.2.2 i j g1 g2 hij
          rw [e1, e2] at this
          exact this
        · cases hi
      have SS := Lib.hid (Kv.step_size (r := s.rev + 1) (o := x) (Kv.steps_rise (r := s.rev + 1) (ops := l.take j) GD.out.rise))
      have LB := Kv.steps_length (s.rev + 1) (l.take j) s.l
      rw [List.length_take] at LB
      have LG := GD.out.len
      have LZ := HZ.out
      have hlb : ((l.take j).foldl (Kv.step (s.rev + 1)) s.l).length ≤ 200 := by omega
      clear LB LG LZ
      rw [FL.out] at SS
      generalize hLL : ((l.take j).foldl (Kv.step (s.rev + 1)) s.l).length = ln at *
      rw [← LS.out] at SS
      generalize hLN : ((l.take (j + 1)).foldl (Kv.step (s.rev + 1)) s.l).length = lm at *
      clear hLL
      have HLN := Lib.hid hLN
      clear hLN
      have LKS : Hid (x.drop = true → (Kv.find s.l x.key).isSome = true) := fun hd => by
        have h1 := NL.out x HM.out
        have h2 := Kv.rev_zero GD.out x.key
        cases hf : Kv.find s.l x.key with
        | some e => rfl
        | none => exact absurd ⟨hd, h2.2 hf⟩ h1
      generalize (Kv.find s.l x.key).isSome = z at *
      cases hd : x.drop with
      | true =>
        rw [hd] at p3 BN B2 CH
        have SE : lm + 1 = ln := by have := SS.out LKS.out; rw [hd] at this; simp at this; omega
        have hsub : ((ln : Int) - 1) = ((lm : Nat) : Int) := by omega
        have HS := Lib.hid hsub
        clear SE hsub hd
        go_wp2_with fail
        exact ⟨⟨j + 1, by omega, by go_num, by rw [HLN.out]; have := HS.out; go_num, B2.out⟩, by simp [intOf]; omega⟩
      | false =>
        rw [hd] at p3 BN B2 CH
        cases z with
        | true =>
          have SE : lm = ln := by have := SS.out (fun _ => rfl); rw [hd] at this; simp at this; omega
          have HS := Lib.hid SE
          clear SE hd
          go_wp2_with (go_at_call 41; (with_reducible refine CH.out.mono ?_); rintro e w2 ⟨rfl, hb2⟩; have B3 := Lib.hid (B2.out.trans (hb2.mono B2.out.size)); clear hb2)
          exact ⟨⟨j + 1, by omega, by go_num, by rw [HLN.out, HS.out], B3.out⟩, by simp [intOf]; omega⟩
        | false =>
          have SE : lm = ln + 1 := by have := SS.out (fun h => by rw [hd] at h; cases h); rw [hd] at this; simp at this; omega
          have HS := Lib.hid SE
          clear SE hd
          go_wp2_with (go_at_call 41; (with_reducible refine CH.out.mono ?_); rintro e w2 ⟨rfl, hb2⟩; have B3 := Lib.hid (B2.out.trans (hb2.mono B2.out.size)); clear hb2)
          exact ⟨⟨j + 1, by omega, by go_num, by rw [HLN.out, HS.out]; go_num, B3.out⟩, by simp [intOf]; omega⟩
    · have E : Hid (l.take j = l) := List.take_of_length_le (by have := HN.out; omega)
      rw [E.out]
      have AF : Hid ((Kv.after s l).l.length = (l.foldl (Kv.step (s.rev + 1)) s.l).length) := rfl
      generalize (l.foldl (Kv.step (s.rev + 1)) s.l).length = ln at *
      go_wp2_with fail
      go_ret
      exact ⟨by rw [AF.out]; rfl, B.out⟩
end Go.Proofs.Ytmkfiiheeplmgaa
