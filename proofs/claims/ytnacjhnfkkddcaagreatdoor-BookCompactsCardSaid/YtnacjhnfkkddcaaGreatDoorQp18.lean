import Derived.Test.YtnacjhnfkkddcaaGreatDoorQp17
import Derived.Sort.OwnSorted
import Derived.Sort.KeysCollected
import Derived.Shelf.Strconv.Atoi
import Derived.Shelf.Strconv.Itoa0
import Derived.Shelf.Strconv.Itoa1
import Derived.Shelf.LaysM
import Derived.Shelf.Strconv.Itoa2
import Derived.Shelf.Strconv.Itoa3
import Derived.Shelf.Sort.Plain
import Derived.Shelf.Slices.Equal
import Derived.Shelf.Slices.In.SortNone
import Derived.Shelf.Slices.Empties2
import Derived.Test.YtnacjhnfkkddcaaGreatDoorProg
import Derived.Laws.Cover3
set_option maxHeartbeats 6400000
set_option maxRecDepth 100000
set_option linter.unusedSimpArgs false
set_option linter.unusedVariables false
namespace Go.Proofs.YtnacjhnfkkddcaaGreatDoor
open Go.RowKit Go.Deep Go.Maps
theorem jk5 (W : World) (p : Value) (mo : Option Nat) (s : Kv.St) (h : EAt W p mo s) (o : Kv.Po) (hk : o.key.size ≤ maxLen) : Calls Tryz.prog 181 (#[p].push (opV o)) W (fun e w' => e = .returned (.bool (Kv.oddB s o)) ∧ Below W.heap.size W w') := by
 have B1 := zh ((Below.refl W.heap.size W).alloc (Nat.le_refl _) (.cells #[.string o.key, .string o.val, .int .i64 o.rev, .bool o.drop] 158))
 have R1 := zh (heap_alloc_new W (.cells #[.string o.key, .string o.val, .int .i64 o.rev, .bool o.drop] 158))
 have C := zh (jeo _ p mo s (h.on B1.out) o.key hk)
 unfold KGet at C
 unfold opV Kv.oddB
 generalize Kv.valOf s.l o.key = v at *
 generalize Kv.revOf s.l o.key = r at *
 clear h hk
 obtain ⟨key, val, rev, drop⟩ := o
 simp only at *
 show Calls _ _ #[_, _] _ _
 by_cases g0 : 0 ≤ rev
 ·by_cases g1 : rev = r
  ·have hee : (rev == r) = true := by rw [beq_iff_eq]; exact g1
   have G1 := zh g1
   clear g1
   go_enter Tryz.func181, Tryz.ntmps181
   go_wp2_with (go_at_call 39; (with_reducible refine C.out.mono ?_); rintro e w1 ⟨rfl, hb1⟩; have RR := zh ((hb1.block _ (Array.getElem?_eq_some_iff.1 R1.out).1).trans R1.out); have B2 := zh (B1.out.trans (hb1.mono B1.out.size)); have c2 : w1.cell? ⟨W.heap.size, 2, none⟩ = some (.int .i64 rev) := (by rw [cell_of_row w1 _ 2 _ _ _ RR.out]; rfl); clear hb1)
   go_ret
   exact ⟨by simp [G1.out], B2.out⟩
  ·have hee : (rev == r) = false := by rw [beq_eq_false_iff_ne]; exact g1
   have G1 := zh g1
   clear g1
   go_enter Tryz.func181, Tryz.ntmps181
   go_wp2_with (go_at_call 39; (with_reducible refine C.out.mono ?_); rintro e w1 ⟨rfl, hb1⟩; have RR := zh ((hb1.block _ (Array.getElem?_eq_some_iff.1 R1.out).1).trans R1.out); have B2 := zh (B1.out.trans (hb1.mono B1.out.size)); have c2 : w1.cell? ⟨W.heap.size, 2, none⟩ = some (.int .i64 rev) := (by rw [cell_of_row w1 _ 2 _ _ _ RR.out]; rfl); clear hb1)
   go_ret
   exact ⟨by simp [G1.out, g0], B2.out⟩
 ·go_enter Tryz.func181, Tryz.ntmps181
  go_wp2_with (go_at_call 39; (with_reducible refine C.out.mono ?_); rintro e w1 ⟨rfl, hb1⟩; have RR := zh ((hb1.block _ (Array.getElem?_eq_some_iff.1 R1.out).1).trans R1.out); have B2 := zh (B1.out.trans (hb1.mono B1.out.size)); have c2 : w1.cell? ⟨W.heap.size, 2, none⟩ = some (.int .i64 rev) := (by rw [cell_of_row w1 _ 2 _ _ _ RR.out]; rfl); clear hb1)
  go_ret
  exact ⟨by simp; intro h; omega, B2.out⟩
theorem jjd (W : World) (p : Value) (mo : Option Nat) (s : Kv.St) (h : EAt W p mo s) (o : Kv.Po) (hk : o.key.size ≤ maxLen) : Calls Tryz.prog 182 (#[p].push (opV o)) W (fun e w' => e = .returned (.bool (Kv.lackB s o)) ∧ Below W.heap.size W w') := by
 have B1 := zh ((Below.refl W.heap.size W).alloc (Nat.le_refl _) (.cells #[.string o.key, .string o.val, .int .i64 o.rev, .bool o.drop] 158))
 have C := zh (jgo _ p mo s (h.on B1.out) o.key hk)
 unfold opV Kv.lackB
 generalize (Kv.find s.l o.key).isSome = b at *
 clear h hk
 obtain ⟨key, val, rev, drop⟩ := o
 simp only at *
 show Calls _ _ #[_, _] _ _
 cases drop with
 | true =>
  go_enter Tryz.func182, Tryz.ntmps182
  go_wp2_with (go_at_call 204; (with_reducible refine C.out.mono ?_); rintro e w1 ⟨rfl, hb1⟩; have B2 := zh (B1.out.trans (hb1.mono B1.out.size)); clear hb1)
  go_ret
  exact ⟨by simp, B2.out⟩
 | false =>
  go_enter Tryz.func182, Tryz.ntmps182
  go_wp2_with fail
  go_ret
  exact ⟨by simp, B1.out⟩
theorem bad_fn {w0 w : World} {n c : Nat} {A : Option Addr} {l : List Kv.Po} (h : SlP w0 A n c l) : FnB 179 #[] Kv.badB w l :=
 fun W o ho _ => jk4 W o (h.poOk ho).1 (h.poOk ho).2.1
theorem odd_fn {w0 w : World} {p : Value} {mo : Option Nat} {s : Kv.St} {n c : Nat} {A : Option Addr} {l : List Kv.Po} (h : SlP w0 A n c l) (hk : EAt w p mo s) : FnB 181 #[p] (Kv.oddB s) w l :=
 fun W o ho hb => jk5 W p mo s (hk.on hb) o (h.poOk ho).1
theorem lack_fn {w0 w : World} {p : Value} {mo : Option Nat} {s : Kv.St} {n c : Nat} {A : Option Addr} {l : List Kv.Po} (h : SlP w0 A n c l) (hk : EAt w p mo s) : FnB 182 #[p] (Kv.lackB s) w l :=
 fun W o ho hb => jjd W p mo s (hk.on hb) o (h.poOk ho).1
namespace Kv
theorem step_size {r : Int} {l : List En} {o : Po} (hl : Rise l) (hd : o.drop = true → (find l o.key).isSome = true) : ((step r l o).length : Int) = l.length + (if o.drop then -1 else if (find l o.key).isSome then 0 else 1) := by
 have h1 := dropK_length hl o.key
 unfold step
 cases h : o.drop with
 | true =>
  rw [hd h] at h1
  simp only [if_true] at h1 ⊢
  omega
 | false =>
  simp only [Bool.false_eq_true, if_false]
  rw [putK_length]
  cases h2 : (find l o.key).isSome
  ·rw [h2] at h1; simp at h1 ⊢; omega
  ·rw [h2] at h1; simp at h1 ⊢; omega
end Kv
theorem jje (w : World) (p : Value) (mo : Option Nat) (s : Kv.St) (l : List Kv.Po) (n c : Nat) (A : Option Addr) (w0 : World) (hk : EAt w p mo s) (h : SlP w0 A n c l) (hb0 : Below w0.heap.size w0 w) (hr : Kv.Right l) (hlk : ∀ o ∈ l, ¬ Kv.Lacks s o) (hz : l.length ≤ 70) :
  Calls Tryz.prog 183 #[p, .slice A n c] w (KInt ((Kv.after s l).l.length : Nat) w) := by
 have hn := h.len
 have hmx := h.max
 have hcp := h.cap
 unfold maxLen at hmx
 have HA := zh h
 have HN := zh hn
 have HZ := zh hz
 have B0 := zh hb0
 have HK := zh hk
 have RT := zh hr
 have GD := zh hk.good
 have NL := zh hlk
 have CL := zh (jgp w p mo s hk)
 clear h hn hb0 hk hr hz hlk
 go_enter Tryz.func183, Tryz.ntmps183
 go_wp2_with (go_at_call 105; (with_reducible refine CL.out.mono ?_); rintro e w1 ⟨rfl, rfl⟩)
 go_loopw [5, 12] (fun z i wr => ∃ j : Nat, j ≤ n ∧ i = .int .i64 j ∧ z = .int .i64 (((l.take j).foldl (Kv.step (s.rev + 1)) s.l).length : Nat) ∧ Below w1.heap.size w1 wr) (fun _ i _ => n - (intOf i).toNat)
 case atStart => exact ⟨0, by omega, rfl, rfl, Below.refl _ _⟩
 case round =>
  obtain ⟨j, hj, rfl, rfl, hbr⟩ := hrel
  have B := zh hbr
  have BB := zh (B0.out.trans (hbr.mono B0.out.size))
  clear hbr
  by_cases hlt : j < n
  ·obtain ⟨b1, o1, rfl⟩ := HA.out.addr (by have := HN.out; omega)
   have EA : Hid (l[j]? = some (l[j]'(by have := HN.out; omega))) := List.getElem?_eq_getElem _
   generalize l[j]'(by have := HN.out; omega) = x at *
   obtain ⟨p0, p1, p2, p3⟩ := HA.out.po EA.out BB.out
   have HM : Hid (x ∈ l) := List.mem_of_getElem? EA.out
   have KS := zh (HA.out.poOk HM.out).1
   have BN := zh ((Below.refl wr.heap.size wr).alloc (Nat.le_refl _) (.cells #[.string x.key, .string x.val, .int .i64 x.rev, .bool x.drop] 158))
   have B2 := zh (B.out.trans (BN.out.mono B.out.size))
   have CH := zh (jgo _ p mo s (HK.out.on B2.out) x.key KS.out)
   have LS : Hid ((l.take (j + 1)).foldl (Kv.step (s.rev + 1)) s.l = Kv.step (s.rev + 1) ((l.take j).foldl (Kv.step (s.rev + 1)) s.l) x) := Kv.steps_snoc (s.rev + 1) EA.out s.l
   have FL : Hid (Kv.find ((l.take j).foldl (Kv.step (s.rev + 1)) s.l) x.key = Kv.find s.l x.key) := Kv.find_steps_other fun o ho => by
    obtain ⟨i, hi⟩ := List.getElem?_of_mem ho
    rw [List.getElem?_take] at hi
    split at hi
    ·rename_i hij
     obtain ⟨g1, e1⟩ := List.getElem?_eq_some_iff.1 hi
     obtain ⟨g2, e2⟩ := List.getElem?_eq_some_iff.1 EA.out
     have := List.pairwise_iff_getElem.1 RT.out.2.2 i j g1 g2 hij
     rw [e1, e2] at this
     exact this
    ·cases hi
   have SS := zh (Kv.step_size (r := s.rev + 1) (o := x) (Kv.steps_rise (r := s.rev + 1) (ops := l.take j) GD.out.rise))
   have LB := Kv.steps_length (s.rev + 1) (l.take j) s.l
   rw [List.length_take] at LB
   have LG := GD.out.len
   have LZ := HZ.out
   have hlb : ((l.take j).foldl (Kv.step (s.rev + 1)) s.l).length ≤ 200 := by omega
   clear LB LG LZ
   rw [FL.out] at SS
   generalize hLL : ((l.take j).foldl (Kv.step (s.rev + 1)) s.l).length = ln at *
   rw [← LS.out] at SS
   generalize hLN : ((l.take (j + 1)).foldl (Kv.step (s.rev + 1)) s.l).length = lm at *
   clear hLL
   have HLN := zh hLN
   clear hLN
   have LKS : Hid (x.drop = true → (Kv.find s.l x.key).isSome = true) := fun hd => by
    have h1 := NL.out x HM.out
    have h2 := Kv.rev_zero GD.out x.key
    cases hf : Kv.find s.l x.key with
    | some e => rfl
    | none => exact absurd ⟨hd, h2.2 hf⟩ h1
   generalize (Kv.find s.l x.key).isSome = z at *
   cases hd : x.drop with
   | true =>
    rw [hd] at p3 BN B2 CH
    have SE : lm + 1 = ln := by have := SS.out LKS.out; rw [hd] at this; simp at this; omega
    have hsub : ((ln : Int) - 1) = ((lm : Nat) : Int) := by omega
    have HS := zh hsub
    clear SE hsub hd
    go_wp2_with fail
    exact ⟨⟨j + 1, by omega, by go_num, by rw [HLN.out]; have := HS.out; go_num, B2.out⟩, by simp [intOf]; omega⟩
   | false =>
    rw [hd] at p3 BN B2 CH
    cases z with
    | true =>
     have SE : lm = ln := by have := SS.out (fun _ => rfl); rw [hd] at this; simp at this; omega
     have HS := zh SE
     clear SE hd
     go_wp2_with (go_at_call 204; (with_reducible refine CH.out.mono ?_); rintro e w2 ⟨rfl, hb2⟩; have B3 := zh (B2.out.trans (hb2.mono B2.out.size)); clear hb2)
     exact ⟨⟨j + 1, by omega, by go_num, by rw [HLN.out, HS.out], B3.out⟩, by simp [intOf]; omega⟩
    | false =>
     have SE : lm = ln + 1 := by have := SS.out (fun h => by rw [hd] at h; cases h); rw [hd] at this; simp at this; omega
     have HS := zh SE
     clear SE hd
     go_wp2_with (go_at_call 204; (with_reducible refine CH.out.mono ?_); rintro e w2 ⟨rfl, hb2⟩; have B3 := zh (B2.out.trans (hb2.mono B2.out.size)); clear hb2)
     exact ⟨⟨j + 1, by omega, by go_num, by rw [HLN.out, HS.out]; go_num, B3.out⟩, by simp [intOf]; omega⟩
  ·have E : Hid (l.take j = l) := List.take_of_length_le (by have := HN.out; omega)
   rw [E.out]
   have AF : Hid ((Kv.after s l).l.length = (l.foldl (Kv.step (s.rev + 1)) s.l).length) := rfl
   generalize (l.foldl (Kv.step (s.rev + 1)) s.l).length = ln at *
   go_wp2_with fail
   go_ret
   exact ⟨by rw [AF.out]; rfl, B.out⟩
open Go.Shelf
theorem jk6 (w : World) (q oq : Nat) (cs : Array Value) (ty : TypeId) (mo : Option Nat) (s : Kv.St) (l : List Kv.Po) (n c : Nat) (A : Option Addr) (w0 : World) (hk : KvIs w q oq cs ty mo s) (h : SlP w0 A n c l) (hb0 : Below w0.heap.size w0 w) (hz : l.length ≤ 70) :
  Calls Tryz.prog 157 #[.pointer (some ⟨q, oq, none⟩), .slice A n c] w (KInt (Kv.doE s l : Nat) w) := by
 have hn := h.len
 have hmx := h.max
 have hcp := h.cap
 unfold maxLen at hmx
 have HA := zh h
 have HN := zh hn
 have HZ := zh hz
 have B0 := zh hb0
 have HK := zh hk.ask
 have GD := zh hk.good
 have B := zh (Below.refl w.heap.size w)
 clear h hn hb0 hk hz
 by_cases h0 : n = 0
 ·have NE : Hid (Kv.doE s l = 1) := Kv.doE_right fun h => by have := h.1; have := HN.out; omega
  subst h0
  go_enter Tryz.func157, Tryz.ntmps157
  go_wp2_with fail
  go_ret
  exact ⟨by rw [NE.out]; rfl, B.out⟩
 have hn0 : ((n : Int) == 0) = false := by rw [beq_eq_false_iff_ne]; omega
 have CB : Hid (∀ w1, Below w.heap.size w w1 → Calls Tryz.prog 178 #[.slice A n c, .func (.func 179) #[] #[]] w1 (fun e w' => e = .returned (.bool (l.any Kv.badB)) ∧ Below w1.heap.size w1 w')) := fun w1 hb => jb8 179 #[] Kv.badB (enters_of Tryz.func179 (by kernel_rfl) rfl) l n c A w0 w1 HA.out (B0.out.trans (hb.mono B0.out.size)) (bad_fn HA.out)
 cases hbad : l.any Kv.badB with
 | true =>
  rw [hbad] at CB
  have NE : Hid (Kv.doE s l = 1) := Kv.doE_right fun h => by
   obtain ⟨o, ho, hb⟩ := List.any_eq_true.1 hbad
   exact Kv.badB_iff.1 hb (h.2.1 o ho)
  clear hbad
  go_enter Tryz.func157, Tryz.ntmps157
  go_wp2_with (first
    | (go_at_call 178; (with_reducible refine (CB.out _ B.out).mono ?_); rintro e w1 ⟨rfl, hb⟩; have B := zh (B.out.trans (hb.mono B.out.size)); clear hb))
  go_ret
  exact ⟨by rw [NE.out]; rfl, B.out⟩
 | false =>
 rw [hbad] at CB
 have OK : Hid (∀ o ∈ l, Kv.PoOk o) := fun o ho => by
  have h1 := List.any_eq_false.1 hbad o ho
  exact Classical.byContradiction fun h2 => h1 (Kv.badB_iff.2 h2)
 clear hbad
 by_cases hpw : l.Pairwise fun a b => a.key ≠ b.key
 case neg =>
  have CT : Hid (∀ w1, Below w.heap.size w w1 → Calls Tryz.prog 180 #[.slice A n c] w1 (fun e w' => e = .returned (.bool true) ∧ Below w1.heap.size w1 w')) := fun w1 hb => (jep l n c A w0 w1 HA.out (B0.out.trans (hb.mono B0.out.size)) HZ.out).mono fun e w' ⟨⟨x, h1, h2⟩, h3⟩ => ⟨by rw [h1, h2.2 hpw], h3⟩
  have NE : Hid (Kv.doE s l = 1) := Kv.doE_right fun h => hpw h.2.2
  clear hpw
  go_enter Tryz.func157, Tryz.ntmps157
  go_wp2_with (first
    | (go_at_call 178; (with_reducible refine (CB.out _ B.out).mono ?_); rintro e w1 ⟨rfl, hb⟩; have B := zh (B.out.trans (hb.mono B.out.size)); clear hb)
    | (go_at_call 180; (with_reducible refine (CT.out _ B.out).mono ?_); rintro e w1 ⟨rfl, hb⟩; have B := zh (B.out.trans (hb.mono B.out.size)); clear hb))
  go_ret
  exact ⟨by rw [NE.out]; rfl, B.out⟩
 have CT : Hid (∀ w1, Below w.heap.size w w1 → Calls Tryz.prog 180 #[.slice A n c] w1 (fun e w' => e = .returned (.bool false) ∧ Below w1.heap.size w1 w')) := fun w1 hb => (jep l n c A w0 w1 HA.out (B0.out.trans (hb.mono B0.out.size)) HZ.out).mono fun e w' ⟨⟨x, h1, h2⟩, h3⟩ => ⟨by
   rw [h1]
   cases x with
   | false => rfl
   | true => exact absurd hpw (h2.1 rfl), h3⟩
 have RT : Hid (Kv.Right l) := ⟨by have := HN.out; omega, OK.out, hpw⟩
 clear hpw
 have CO : Hid (∀ w1, Below w.heap.size w w1 → Calls Tryz.prog 178 #[.slice A n c, .func (.func 181) #[.pointer (some ⟨q, oq, none⟩)] #[]] w1 (fun e w' => e = .returned (.bool (l.any (Kv.oddB s))) ∧ Below w1.heap.size w1 w')) := fun w1 hb => jb8 181 #[.pointer (some ⟨q, oq, none⟩)] (Kv.oddB s) (enters_of Tryz.func181 (by kernel_rfl) rfl) l n c A w0 w1 HA.out (B0.out.trans (hb.mono B0.out.size)) (odd_fn HA.out (HK.out.on hb))
 cases hodd : l.any (Kv.oddB s) with
 | true =>
  rw [hodd] at CO
  have NE : Hid (Kv.doE s l = 7) := by
   obtain ⟨o, ho, hb⟩ := List.any_eq_true.1 hodd
   exact Kv.doE_odd RT.out ⟨o, ho, Kv.oddB_iff.1 hb⟩
  clear hodd
  go_enter Tryz.func157, Tryz.ntmps157
  go_wp2_with (first
    | (go_at_call 178; (with_reducible refine (CB.out _ B.out).mono ?_); rintro e w1 ⟨rfl, hb⟩; have B := zh (B.out.trans (hb.mono B.out.size)); clear hb)
    | (go_at_call 180; (with_reducible refine (CT.out _ B.out).mono ?_); rintro e w1 ⟨rfl, hb⟩; have B := zh (B.out.trans (hb.mono B.out.size)); clear hb)
    | (go_at_call 178; (with_reducible refine (CO.out _ B.out).mono ?_); rintro e w1 ⟨rfl, hb⟩; have B := zh (B.out.trans (hb.mono B.out.size)); clear hb))
  go_ret
  exact ⟨by rw [NE.out]; rfl, B.out⟩
 | false =>
 rw [hodd] at CO
 have OD : Hid (∀ o ∈ l, ¬ Kv.Odd s o) := fun o ho h => List.any_eq_false.1 hodd o ho (Kv.oddB_iff.2 h)
 clear hodd
 have CL : Hid (∀ w1, Below w.heap.size w w1 → Calls Tryz.prog 178 #[.slice A n c, .func (.func 182) #[.pointer (some ⟨q, oq, none⟩)] #[]] w1 (fun e w' => e = .returned (.bool (l.any (Kv.lackB s))) ∧ Below w1.heap.size w1 w')) := fun w1 hb => jb8 182 #[.pointer (some ⟨q, oq, none⟩)] (Kv.lackB s) (enters_of Tryz.func182 (by kernel_rfl) rfl) l n c A w0 w1 HA.out (B0.out.trans (hb.mono B0.out.size)) (lack_fn HA.out (HK.out.on hb))
 cases hlk : l.any (Kv.lackB s) with
 | true =>
  rw [hlk] at CL
  have NE : Hid (Kv.doE s l = 5) := by
   obtain ⟨o, ho, hb⟩ := List.any_eq_true.1 hlk
   exact Kv.doE_lacks RT.out OD.out ⟨o, ho, (Kv.lackB_iff GD.out).1 hb⟩
  clear hlk
  go_enter Tryz.func157, Tryz.ntmps157
  go_wp2_with (first
    | (go_at_call 178; (with_reducible refine (CB.out _ B.out).mono ?_); rintro e w1 ⟨rfl, hb⟩; have B := zh (B.out.trans (hb.mono B.out.size)); clear hb)
    | (go_at_call 180; (with_reducible refine (CT.out _ B.out).mono ?_); rintro e w1 ⟨rfl, hb⟩; have B := zh (B.out.trans (hb.mono B.out.size)); clear hb)
    | (go_at_call 178; (with_reducible refine (CO.out _ B.out).mono ?_); rintro e w1 ⟨rfl, hb⟩; have B := zh (B.out.trans (hb.mono B.out.size)); clear hb)
    | (go_at_call 178; (with_reducible refine (CL.out _ B.out).mono ?_); rintro e w1 ⟨rfl, hb⟩; have B := zh (B.out.trans (hb.mono B.out.size)); clear hb))
  go_ret
  exact ⟨by rw [NE.out]; rfl, B.out⟩
 | false =>
 rw [hlk] at CL
 have LK : Hid (∀ o ∈ l, ¬ Kv.Lacks s o) := fun o ho h => List.any_eq_false.1 hlk o ho ((Kv.lackB_iff GD.out).2 h)
 clear hlk
 have CN : Hid (∀ w1, Below w.heap.size w w1 → Calls Tryz.prog 183 #[.pointer (some ⟨q, oq, none⟩), .slice A n c] w1 (KInt ((Kv.after s l).l.length : Nat) w1)) := fun w1 hb => jje w1 _ mo s l n c A w0 (HK.out.on hb) HA.out (B0.out.trans (hb.mono B0.out.size)) RT.out LK.out HZ.out
 by_cases hf : 64 < (Kv.after s l).l.length
 ·have NE : Hid (Kv.doE s l = 4) := Kv.doE_full RT.out OD.out LK.out hf
  generalize (Kv.after s l).l.length = ln at *
  have hg : decide ((64 : Int) < (ln : Nat)) = true := decide_eq_true (by omega)
  go_enter Tryz.func157, Tryz.ntmps157
  go_wp2_with (first
    | (go_at_call 178; (with_reducible refine (CB.out _ B.out).mono ?_); rintro e w1 ⟨rfl, hb⟩; have B := zh (B.out.trans (hb.mono B.out.size)); clear hb)
    | (go_at_call 180; (with_reducible refine (CT.out _ B.out).mono ?_); rintro e w1 ⟨rfl, hb⟩; have B := zh (B.out.trans (hb.mono B.out.size)); clear hb)
    | (go_at_call 178; (with_reducible refine (CO.out _ B.out).mono ?_); rintro e w1 ⟨rfl, hb⟩; have B := zh (B.out.trans (hb.mono B.out.size)); clear hb)
    | (go_at_call 178; (with_reducible refine (CL.out _ B.out).mono ?_); rintro e w1 ⟨rfl, hb⟩; have B := zh (B.out.trans (hb.mono B.out.size)); clear hb)
    | (go_at_call 183; (with_reducible refine (CN.out _ B.out).mono ?_); rintro e w1 ⟨rfl, hb⟩; have B := zh (B.out.trans (hb.mono B.out.size)); clear hb))
  go_ret
  exact ⟨by rw [NE.out]; rfl, B.out⟩
 ·have NE : Hid (Kv.doE s l = 0) := Kv.doE_ok RT.out OD.out LK.out hf
  generalize (Kv.after s l).l.length = ln at *
  have hg : decide ((64 : Int) < (ln : Nat)) = false := decide_eq_false (by omega)
  go_enter Tryz.func157, Tryz.ntmps157
  go_wp2_with (first
    | (go_at_call 178; (with_reducible refine (CB.out _ B.out).mono ?_); rintro e w1 ⟨rfl, hb⟩; have B := zh (B.out.trans (hb.mono B.out.size)); clear hb)
    | (go_at_call 180; (with_reducible refine (CT.out _ B.out).mono ?_); rintro e w1 ⟨rfl, hb⟩; have B := zh (B.out.trans (hb.mono B.out.size)); clear hb)
    | (go_at_call 178; (with_reducible refine (CO.out _ B.out).mono ?_); rintro e w1 ⟨rfl, hb⟩; have B := zh (B.out.trans (hb.mono B.out.size)); clear hb)
    | (go_at_call 178; (with_reducible refine (CL.out _ B.out).mono ?_); rintro e w1 ⟨rfl, hb⟩; have B := zh (B.out.trans (hb.mono B.out.size)); clear hb)
    | (go_at_call 183; (with_reducible refine (CN.out _ B.out).mono ?_); rintro e w1 ⟨rfl, hb⟩; have B := zh (B.out.trans (hb.mono B.out.size)); clear hb))
  go_ret
  exact ⟨by rw [NE.out]; rfl, B.out⟩
end Go.Proofs.YtnacjhnfkkddcaaGreatDoor
namespace Go.Proofs.YtnacjhnfkkddcaaGreatDoor
open Go.RowKit Go.Deep Go.Maps
structure jcn (w : World) (q oq : Nat) (cs : Array Value) (ty : TypeId) (m : Nat) (r : Int) (l : List Kv.En) : Prop where
 row : w.heap[q]? = some (.cells cs ty (0, 0))
 k0 : cs[oq]? = some (.int .i64 r)
 k1 : cs[oq + 1]? = some (.map (some m))
 nos : jjc cs
 map : jbm Tryz.prog 9 w m l
theorem jcn.ne {w : World} {q oq m : Nat} {cs : Array Value} {ty : TypeId} {r : Int} {l : List Kv.En} (h : jcn w q oq cs ty m r l) : q ≠ m := fun e => by
 obtain ⟨D, ⟨es, clock, hb, _⟩, _⟩ := h.map
 have := h.row
 rw [e, hb] at this
 injection this with this
 cases this
theorem jcn.cells {w : World} {q oq m : Nat} {cs : Array Value} {ty : TypeId} {r : Int} {l : List Kv.En} (h : jcn w q oq cs ty m r l) : w.cell? ⟨q, oq, none⟩ = some (.int .i64 r) ∧ w.cell? ⟨q, oq + 1, none⟩ = some (.map (some m)) ∧ w.frozen? ⟨q, oq, none⟩ = false ∧ q < w.heap.size :=
 ⟨by rw [cell_of_row w q oq _ _ _ h.row]; exact h.k0, by rw [cell_of_row w q (oq + 1) _ _ _ h.row]; exact h.k1, frozen_of_row _ _ _ _ _ h.row, (Array.getElem?_eq_some_iff.1 h.row).1⟩
theorem jcn.on {w w' : World} {q oq m : Nat} {cs : Array Value} {ty : TypeId} {r : Int} {l : List Kv.En} (h : jcn w q oq cs ty m r l) (hb : Below w.heap.size w w') : jcn w' q oq cs ty m r l := ⟨(hb.block q h.cells.2.2.2).trans h.row, h.k0, h.k1, h.nos, h.map.keep (hb.block m h.map.lt)⟩
theorem jcn.turned {w w' : World} {q oq m : Nat} {cs : Array Value} {ty : TypeId} {r : Int} {l l' : List Kv.En} (h : jcn w q oq cs ty m r l) (ht : w.mapTurned w' m) (hm : jbm Tryz.prog 9 w' m l') : jcn w' q oq cs ty m r l' :=
 ⟨(ht.grown.block q h.cells.2.2.2 (fun e => h.ne (by injection e))).trans h.row, h.k0, h.k1, h.nos, hm⟩
theorem jdk {w w' : World} {b i : Nat} (h : w'.heap[b]? = w.heap[b]?) : w'.cell? ⟨b, i, none⟩ = w.cell? ⟨b, i, none⟩ := by unfold World.cell?; rw [h]
theorem SlR.poH {w : World} {b o n c : Nat} {l : List Kv.Po} (h : SlP w (some ⟨b, o, none⟩) n c l) {j : Nat} {x : Kv.Po} (hx : l[j]? = some x) {w' : World} (hb : w'.heap[b]? = w.heap[b]?) :
  w'.cell? ⟨b, o + j * 4, none⟩ = some (.string x.key) ∧ w'.cell? ⟨b, o + j * 4 + 1, none⟩ = some (.string x.val) ∧ w'.cell? ⟨b, o + j * 4 + 2, none⟩ = some (.int .i64 x.rev) ∧ w'.cell? ⟨b, o + j * 4 + 3, none⟩ = some (.bool x.drop) := by
 obtain ⟨h0, h1, h2, h3⟩ := h.po hx (Below.refl _ _)
 exact ⟨(jdk hb).trans h0, (jdk hb).trans h1, (jdk hb).trans h2, (jdk hb).trans h3⟩
theorem jeq (t k e : TypeId) (m : Option Nat) (w : World) (h : Tryz.prog.underlying t = some (.map k e)) : (binOp .eql t (.map m) (.map none)).run Tryz.prog w = .ok (.bool m.isNone) w := by
 simp only [binOp]
 simp [run_equal_map_nil w t k e m h]
theorem jgq {w : World} {q oq b o n c : Nat} {cs : Array Value} {ty : TypeId} {mo : Option Nat} {s : Kv.St} {l : List Kv.Po} (hk : KvIs w q oq cs ty mo s) (h : SlP w (some ⟨b, o, none⟩) n c l) (hl : 0 < l.length) : b ≠ q ∧ mo ≠ some b ∧ b < w.heap.size := by
 obtain ⟨h0, _⟩ := h.po (List.getElem?_eq_getElem hl) (Below.refl _ _)
 refine ⟨fun e => ?_, fun e => ?_, (h.cell hl).1⟩
 ·subst e
  rw [cell_of_row _ _ _ _ _ _ hk.row] at h0
  exact hk.nos _ _ h0
 ·subst e
  obtain ⟨D, ⟨es, clock, hb, _⟩, _⟩ := show jbm Tryz.prog 9 w b s.l from hk.map
  simp [World.cell?, hb] at h0
theorem jer (w : World) (q oq : Nat) (cs : Array Value) (ty : TypeId) (m : Nat) (r : Int) (L : List Kv.En) (x : Kv.Po) (h : jcn w q oq cs ty m r L) (hr : Kv.Rise L) (hl : L.length ≤ 1000000) (hk : x.key.size ≤ maxLen) :
  Calls Tryz.prog 158 #[.pointer (some ⟨q, oq, none⟩), opV x] w (fun e w' => e = .returned (.tuple #[]) ∧ jcn w' q oq cs ty m r (Kv.step r L x) ∧ Kept (fun i => i = m) w w') := by
 have Q1 := heap_alloc_new w (.cells #[.string x.key, .string x.val, .int .i64 x.rev, .bool x.drop] 158)
 have BN := zh ((Below.refl w.heap.size w).alloc (Nat.le_refl _) (.cells #[.string x.key, .string x.val, .int .i64 x.rev, .bool x.drop] 158))
 have M2 := zh (h.on BN.out)
 have KS := zh hk
 have RI := zh hr
 have LB := zh hl
 have QH := zh Q1
 clear h hk hr hl Q1
 obtain ⟨ws, hws⟩ : ∃ ws, ws = w.alloc (.cells #[.string x.key, .string x.val, .int .i64 x.rev, .bool x.drop] 158) := ⟨_, rfl⟩
 obtain ⟨g, hg⟩ : ∃ g, g = w.heap.size := ⟨_, rfl⟩
 rw [← hws, ← hg] at QH
 rw [← hws] at BN M2
 have c0 : ws.cell? ⟨g, 0, none⟩ = some (.string x.key) := by rw [cell_of_row ws g 0 _ _ _ QH.out]; rfl
 have c1 : ws.cell? ⟨g, 1, none⟩ = some (.string x.val) := by rw [cell_of_row ws g 1 _ _ _ QH.out]; rfl
 have c3 : ws.cell? ⟨g, 3, none⟩ = some (.bool x.drop) := by rw [cell_of_row ws g 3 _ _ _ QH.out]; rfl
 obtain ⟨d0, d1, d2, d3⟩ := M2.out.cells
 have M3 := zh (M2.out.on (Below.refl ws.heap.size ws).drew)
 have K3 := zh ((Kept.of_below (F := fun i => i = m) BN.out).trans (Kept.of_below (F := fun _ => False) (Below.refl ws.heap.size ws).drew) fun _ _ hf => hf.elim)
 have HWS := zh hws
 have HG := zh hg
 cases hd : x.drop with
 | true =>
  have SE : Hid (Kv.step r L x = Kv.dropK L x.key) := by show _ = _; unfold Kv.step; rw [if_pos hd]
  obtain ⟨wd, hrun, hmd, htd⟩ := jno Tryz.underlying9 Tryz.underlying81 M3.out.map RI.out x.key KS.out 0
  have M4 := zh (M3.out.turned htd hmd)
  have K4 := zh (K3.out.trans (G := fun i => i = m) (Kept.of_grown htd.grown (fun k hk => by injection hk with hk; exact hk.symm)) fun _ _ hi => hi)
  rw [hd] at c3
  clear hmd htd hws hg
  rw [SE.out]
  unfold opV
  obtain ⟨key, val, rev, drop⟩ := x
  simp only at *
  obtain rfl := hd
  go_enter Tryz.func158, Tryz.ntmps158
  go_upto_region 1 with fail
  rw [← HWS.out, ← HG.out]
  clear HWS HG
  go_wp2_with fail
  go_region
  go_wp2_with fail
  go_end0
  exact ⟨rfl, M4.out, K4.out⟩
 | false =>
  have SE : Hid (Kv.step r L x = Kv.putK (Kv.dropK L x.key) ⟨x.key, x.val, r⟩) := by show _ = _; unfold Kv.step; rw [if_neg (by rw [hd]; simp)]
  obtain ⟨wd, hrun, hmd, htd⟩ := put_run Tryz.underlying9 Tryz.underlying81 M3.out.map RI.out LB.out x.key x.val r KS.out
  have M4 := zh (M3.out.turned htd hmd)
  have K4 := zh (K3.out.trans (G := fun i => i = m) (Kept.of_grown htd.grown (fun k hk => by injection hk with hk; exact hk.symm)) fun _ _ hi => hi)
  rw [hd] at c3
  clear hmd htd hws hg
  rw [SE.out]
  unfold opV
  obtain ⟨key, val, rev, drop⟩ := x
  simp only at *
  obtain rfl := hd
  go_enter Tryz.func158, Tryz.ntmps158
  go_upto_region 1 with fail
  rw [← HWS.out, ← HG.out]
  clear HWS HG
  go_wp2_with fail
  go_region
  go_wp2_with fail
  go_end0
  exact ⟨rfl, M4.out, K4.out⟩
def jh1 (cs : Array Value) (oq : Nat) (r : Int) (mo : Option Nat) : Array Value := (cs.setIfInBounds (oq + 1) (.map mo)).setIfInBounds oq (.int .i64 r)
theorem jjf {cs : Array Value} {oq : Nat} {r : Int} {mo : Option Nat} (h0 : cs[oq]? = some (.int .i64 r)) (h1 : cs[oq + 1]? = some (.map mo)) : jh1 cs oq r mo = cs := by unfold jh1; rw [jen h1, jen h0]
theorem jk7 {cs : Array Value} {oq : Nat} (r : Int) {mo : Option Nat} (h1 : cs[oq + 1]? = some (.map mo)) : jh1 cs oq r mo = cs.setIfInBounds oq (.int .i64 r) := by unfold jh1; rw [jen h1]
def KbDo (q oq : Nat) (cs : Array Value) (ty : TypeId) (mo : Option Nat) (s : Kv.St) (ops : List Kv.Po) (W : World) (e : Ending) (w' : World) : Prop :=
 ∃ mo', e = .returned (.tuple #[.int .i64 (Kv.doN s ops), .int .i64 (Kv.doE s ops : Nat)]) ∧ KvIs w' q oq (jh1 cs oq (Kv.doS s ops).rev mo') ty mo' (Kv.doS s ops) ∧ Kept (fun i => i = q ∨ mo = some i) W w' ∧ ∀ m, mo' = some m → mo = some m ∨ W.heap.size ≤ m
theorem jik (W : World) (q oq : Nat) (cs : Array Value) (ty : TypeId) (mo : Option Nat) (s : Kv.St) (n c : Nat) (A : Option Addr) (l : List Kv.Po) (hk : KvIs W q oq cs ty mo s) (hrv : s.rev ≤ 1000) (h : SlP W A n c l) (hz : l.length ≤ 70) :
  Calls Tryz.prog 106 #[.pointer (some ⟨q, oq, none⟩), .slice A n c] W (KbDo q oq cs ty mo s l W) := by
 have hn := h.len
 have hmx := h.max
 have hcp := h.cap
 unfold maxLen at hmx
 have hr0 := hk.good.rev0
 have HA := zh h
 have HN := zh hn
 have HZ := zh hz
 have HK := zh hk
 have HK0 := zh hk.k0
 have HK1 := zh hk.k1
 have NS := zh hk.nos
 have STAY : ∀ {w' : World}, Below W.heap.size W w' → Kv.doE s l ≠ 0 → KbDo q oq cs ty mo s l W (.returned (.tuple #[.int .i64 0, .int .i64 (Kv.doE s l : Nat)])) w' := fun {w'} hb h0 => by
  refine ⟨mo, by rw [(Kv.doS_no h0).2], ?_, Kept.of_below hb, fun _ h => .inl h⟩
  rw [(Kv.doS_no h0).1, jjf HK0.out HK1.out]
  exact HK.out.on hb
 have ST : Hid (∀ {w' : World}, Below W.heap.size W w' → Kv.doE s l ≠ 0 → KbDo q oq cs ty mo s l W (.returned (.tuple #[.int .i64 0, .int .i64 (Kv.doE s l : Nat)])) w') := STAY
 have CA := zh (jk6 W q oq cs ty mo s l n c A W HK.out HA.out (Below.refl _ _) HZ.out)
 have heq := fun m w => jeq _ _ _ m w Tryz.underlying81
 clear h hn hk hz STAY
 by_cases h0 : Kv.doE s l = 0
 ·have H0 := zh h0
  rw [h0] at CA
  clear h0
  cases mo with
  | some m =>
   go_enter Tryz.func106, Tryz.ntmps106
   go_upto_region 4 with (go_at_call 157; (with_reducible refine CA.out.mono ?_); rintro e w2 ⟨rfl, hb2⟩; have B2 := zh hb2; clear hb2)
   obtain ⟨c0, c1, f0, hq⟩ := (HK.out.on B2.out).cells
   have MID : Hid (jcn (w2.setCell ⟨q, oq, none⟩ (.int .i64 (s.rev + 1))) q oq (cs.setIfInBounds oq (.int .i64 (s.rev + 1))) ty m (s.rev + 1) s.l) := ⟨heap_setCell_same _ _ _ _ _ _ (HK.out.on B2.out).row, jhz HK0.out, jfu HK1.out (by omega), NS.out.set _ (fun _ e => by cases e), jbm.keep (HK.out.on B2.out).map (heap_setCell_other _ _ _ _ (by simpa using (HK.out.on B2.out).ne.symm))⟩
   have KP : Hid (Kept (fun i => i = q ∨ some m = some i) W (w2.setCell ⟨q, oq, none⟩ (.int .i64 (s.rev + 1)))) := (Kept.of_below (F := fun i => i = q ∨ some m = some i) B2.out).trans (G := fun i => i = q) (Kept.of_grown (row := some q) (jan _ _ _ _) (fun k hk => by injection hk with hk; exact hk.symm)) fun i _ hi => .inl hi
   have HM0 : Hid (m < W.heap.size → some m = some m) := fun _ => rfl
   go_wp2_with fail
   generalize w2.setCell ⟨q, oq, none⟩ (.int .i64 (s.rev + 1)) = w3 at *
   clear c0 c1 f0 hq
   go_loopw [33] (fun i wr => ∃ j : Nat, j ≤ n ∧ i = .int .i64 j ∧ jcn wr q oq (cs.setIfInBounds oq (.int .i64 (s.rev + 1))) ty m (s.rev + 1) ((l.take j).foldl (Kv.step (s.rev + 1)) s.l) ∧ Kept (fun i => i = q ∨ some m = some i) W wr ∧ (m < W.heap.size → some m = some m)) (fun i _ => n - (intOf i).toNat)
   case atStart => exact ⟨0, by omega, rfl, MID.out, KP.out, fun _ => rfl⟩
   case round =>
    obtain ⟨j, hj, rfl, hm, hkp, hm0⟩ := hrel
    have MD := zh hm
    have KE := zh hkp
    have HM1 := zh hm0
    clear hm hkp hm0
    by_cases hlt : j < n
    ·obtain ⟨b1, o1, rfl⟩ := HA.out.addr (by have := HN.out; omega)
     have EA : Hid (l[j]? = some (l[j]'(by have := HN.out; omega))) := List.getElem?_eq_getElem _
     generalize l[j]'(by have := HN.out; omega) = x at *
     have AP := jgq HK.out HA.out (by have := HN.out; omega)
     obtain ⟨p0, p1, p2, p3⟩ := HA.out.poH EA.out (KE.out.block b1 AP.2.2 (by rintro (e | e); exact AP.1 e; exact AP.2.1 e))
     have KS := zh (HA.out.poOk (List.mem_of_getElem? EA.out)).1
     have LS := zh (Kv.steps_snoc (s.rev + 1) EA.out s.l)
     have RI := zh (Kv.steps_rise (r := s.rev + 1) (ops := l.take j) HK.out.good.rise)
     have LB : Hid (((l.take j).foldl (Kv.step (s.rev + 1)) s.l).length ≤ 1000000) := by
      have h1 := Kv.steps_length (s.rev + 1) (l.take j) s.l
      rw [List.length_take] at h1
      have := HK.out.good.len; have := HZ.out
      show _ ≤ _; omega
     generalize (l.take j).foldl (Kv.step (s.rev + 1)) s.l = L at *
     clear AP
     have Q1 := zh (heap_alloc_new wr (.cells #[.string x.key, .string x.val, .int .i64 x.rev, .bool x.drop] 158))
     have BN := zh ((Below.refl wr.heap.size wr).alloc (Nat.le_refl _) (.cells #[.string x.key, .string x.val, .int .i64 x.rev, .bool x.drop] 158))
     have M2 := zh (MD.out.on BN.out)
     have K2 := zh (KE.out.trans (Kept.of_below (F := fun _ => False) BN.out) fun _ _ hf => hf.elim)
     have CP := zh (jer _ q oq _ ty m _ L x M2.out RI.out LB.out KS.out)
     rw [← LS.out] at CP
     go_wp2_with (go_at_call 158; (with_reducible refine CP.out.mono ?_); rintro e w4 ⟨rfl, hm4, hk4⟩; have M4 := zh hm4; have K4 := zh (K2.out.trans hk4 (fun i hi e => by subst e; exact .inr rfl)); clear hm4 hk4)
     exact ⟨⟨j + 1, by omega, by go_num, M4.out, K4.out, by simp⟩, by simp [intOf]; omega⟩
    ·have E : Hid (l.take j = l) := List.take_of_length_le (by have := HN.out; omega)
     rw [E.out] at MD
     obtain ⟨d0, d1, d2, d3⟩ := MD.out.cells
     go_wp2_with fail
     have hok := Kv.doS_ok H0.out
     have hgd := Kv.doS_good HK.out.good l
     have hp : KbDo q oq cs ty (some m) s l W (.returned (.tuple #[.int .i64 (s.rev + 1), .int .i64 0])) wr := by
      refine ⟨some m, by rw [hok.2, H0.out]; rfl, ?_, KE.out, fun _ h => .inl h⟩
      rw [hok.1] at hgd ⊢
      rw [jk7 _ HK1.out]
      exact ⟨MD.out.row, MD.out.k0, MD.out.k1, MD.out.nos, MD.out.map, hgd⟩
     exact bodyPost_ret (v := .tuple #[.int .i64 (s.rev + 1), .int .i64 0]) (by simp [results, Tryz.results106, go_sem]) rfl hp
  | none =>
   go_enter Tryz.func106, Tryz.ntmps106
   have hmm := @run_makeMap Tryz.prog
   go_upto_region 4 with (go_at_call 157; (with_reducible refine CA.out.mono ?_); rintro e w2 ⟨rfl, hb2⟩; have B2 := zh hb2; clear hb2)
   obtain ⟨c0, c1, f0, hq⟩ := (HK.out.on B2.out).cells
   have f1 : w2.frozen? ⟨q, oq + 1, none⟩ = false := frozen_of_row _ _ _ _ _ (HK.out.on B2.out).row
   have BM := zh ((Below.refl w2.heap.size w2).alloc (Nat.le_refl _) (.map #[] 0))
   have S0 := zh (jbm.made (P := Tryz.prog) (kt := 9) w2)
   have RW := zh ((HK.out.on B2.out).on BM.out).row
   have EL : Hid (s.l = []) := HK.out.map
   have MID : Hid (jcn ((w2.alloc (.map #[] 0)).setCell ⟨q, oq + 1, none⟩ (.map (some w2.heap.size))) q oq (cs.setIfInBounds (oq + 1) (.map (some w2.heap.size))) ty w2.heap.size s.rev s.l) := ⟨heap_setCell_same _ _ _ _ _ _ RW.out, jfu HK0.out (by omega), jhz HK1.out, NS.out.set _ (fun _ e => by cases e), by rw [EL.out]; exact S0.out.keep (heap_setCell_other _ _ _ _ (by simp; omega))⟩
   have KP : Hid (Kept (fun i => i = q ∨ none = some i) W ((w2.alloc (.map #[] 0)).setCell ⟨q, oq + 1, none⟩ (.map (some w2.heap.size)))) := (Kept.of_below (F := fun i => i = q ∨ none = some i) (B2.out.trans (BM.out.mono B2.out.size))).trans (G := fun i => i = q) (Kept.of_grown (row := some q) (jan _ _ _ _) (fun k hk => by injection hk with hk; exact hk.symm)) fun i _ hi => .inl hi
   have HM0 : Hid (w2.heap.size < W.heap.size → none = some w2.heap.size) := fun h => by have := B2.out.size; omega
   have EW : Hid ((w2.alloc (.map #[] 0)).setCell ⟨q, oq + 1, none⟩ (.map (some w2.heap.size)) = (w2.setCell ⟨q, oq + 1, none⟩ (.map (some w2.heap.size))).alloc (.map #[] 0)) := World.setCell_alloc_past _ _ _ _ hq
   rw [EW.out] at MID KP
   go_upto_region 6 with fail
   obtain ⟨m, hm⟩ : ∃ m, m = w2.heap.size := ⟨_, rfl⟩
   rw [← hm] at MID KP HM0 ⊢
   clear hm hmm c0 c1 f0 f1 hq BM S0 RW EW
   generalize (w2.setCell ⟨q, oq + 1, none⟩ (.map (some m))).alloc (.map #[] 0) = w5 at *
   obtain ⟨c0, c1, f0, hq⟩ := MID.out.cells
   have MID : Hid (jcn (w5.setCell ⟨q, oq, none⟩ (.int .i64 (s.rev + 1))) q oq (jh1 cs oq (s.rev + 1) (some m)) ty m (s.rev + 1) s.l) := ⟨heap_setCell_same _ _ _ _ _ _ MID.out.row, jhz MID.out.k0, jfu MID.out.k1 (by omega), MID.out.nos.set _ (fun _ e => by cases e), MID.out.map.keep (heap_setCell_other _ _ _ _ (by simpa using MID.out.ne.symm))⟩
   have KP : Hid (Kept (fun i => i = q ∨ none = some i) W (w5.setCell ⟨q, oq, none⟩ (.int .i64 (s.rev + 1)))) := KP.out.trans (G := fun i => i = q) (Kept.of_grown (row := some q) (jan _ _ _ _) (fun k hk => by injection hk with hk; exact hk.symm)) fun i _ hi => .inl hi
   go_wp2_with fail
   generalize w5.setCell ⟨q, oq, none⟩ (.int .i64 (s.rev + 1)) = w3 at *
   clear c0 c1 f0 hq
   go_loopw [33] (fun i wr => ∃ j : Nat, j ≤ n ∧ i = .int .i64 j ∧ jcn wr q oq (jh1 cs oq (s.rev + 1) (some m)) ty m (s.rev + 1) ((l.take j).foldl (Kv.step (s.rev + 1)) s.l) ∧ Kept (fun i => i = q ∨ none = some i) W wr ∧ (m < W.heap.size → none = some m)) (fun i _ => n - (intOf i).toNat)
   case atStart => exact ⟨0, by omega, rfl, MID.out, KP.out, HM0.out⟩
   case round =>
    obtain ⟨j, hj, rfl, hm, hkp, hm0⟩ := hrel
    have MD := zh hm
    have KE := zh hkp
    have HM1 := zh hm0
    clear hm hkp hm0
    by_cases hlt : j < n
    ·obtain ⟨b1, o1, rfl⟩ := HA.out.addr (by have := HN.out; omega)
     have EA : Hid (l[j]? = some (l[j]'(by have := HN.out; omega))) := List.getElem?_eq_getElem _
     generalize l[j]'(by have := HN.out; omega) = x at *
     have AP := jgq HK.out HA.out (by have := HN.out; omega)
     obtain ⟨p0, p1, p2, p3⟩ := HA.out.poH EA.out (KE.out.block b1 AP.2.2 (by rintro (e | e); exact AP.1 e; exact AP.2.1 e))
     have KS := zh (HA.out.poOk (List.mem_of_getElem? EA.out)).1
     have LS := zh (Kv.steps_snoc (s.rev + 1) EA.out s.l)
     have RI := zh (Kv.steps_rise (r := s.rev + 1) (ops := l.take j) HK.out.good.rise)
     have LB : Hid (((l.take j).foldl (Kv.step (s.rev + 1)) s.l).length ≤ 1000000) := by
      have h1 := Kv.steps_length (s.rev + 1) (l.take j) s.l
      rw [List.length_take] at h1
      have := HK.out.good.len; have := HZ.out
      show _ ≤ _; omega
     generalize (l.take j).foldl (Kv.step (s.rev + 1)) s.l = L at *
     clear AP
     have Q1 := zh (heap_alloc_new wr (.cells #[.string x.key, .string x.val, .int .i64 x.rev, .bool x.drop] 158))
     have BN := zh ((Below.refl wr.heap.size wr).alloc (Nat.le_refl _) (.cells #[.string x.key, .string x.val, .int .i64 x.rev, .bool x.drop] 158))
     have M2 := zh (MD.out.on BN.out)
     have K2 := zh (KE.out.trans (Kept.of_below (F := fun _ => False) BN.out) fun _ _ hf => hf.elim)
     have CP := zh (jer _ q oq _ ty m _ L x M2.out RI.out LB.out KS.out)
     rw [← LS.out] at CP
     go_wp2_with (go_at_call 158; (with_reducible refine CP.out.mono ?_); rintro e w4 ⟨rfl, hm4, hk4⟩; have M4 := zh hm4; have K4 := zh (K2.out.trans hk4 (fun i hi e => by subst e; exact .inr (HM1.out hi))); clear hm4 hk4)
     exact ⟨⟨j + 1, by omega, by go_num, M4.out, K4.out, HM1.out⟩, by simp [intOf]; omega⟩
    ·have E : Hid (l.take j = l) := List.take_of_length_le (by have := HN.out; omega)
     rw [E.out] at MD
     obtain ⟨d0, d1, d2, d3⟩ := MD.out.cells
     go_wp2_with fail
     have hok := Kv.doS_ok H0.out
     have hgd := Kv.doS_good HK.out.good l
     have hp : KbDo q oq cs ty none s l W (.returned (.tuple #[.int .i64 (s.rev + 1), .int .i64 0])) wr := by
      refine ⟨some m, by rw [hok.2, H0.out]; rfl, ?_, KE.out, fun k hk => .inr ?_⟩
      ·rw [hok.1] at hgd ⊢
       exact ⟨MD.out.row, MD.out.k0, MD.out.k1, MD.out.nos, MD.out.map, hgd⟩
      ·injection hk with hk
       rcases Nat.lt_or_ge m W.heap.size with h | h
       ·exact absurd (HM1.out h) (by simp)
       ·omega
     exact bodyPost_ret (v := .tuple #[.int .i64 (s.rev + 1), .int .i64 0]) (by simp [results, Tryz.results106, go_sem]) rfl hp
 ·have H0 := zh h0
  obtain ⟨z, hz⟩ : ∃ z, z = Kv.doE s l := ⟨_, rfl⟩
  rw [← hz] at h0 CA
  have hz0 : ((z : Int) == 0) = false := by rw [beq_eq_false_iff_ne]; omega
  have HZ1 := zh hz
  clear hz
  go_enter Tryz.func106, Tryz.ntmps106
  go_wp2_with (go_at_call 157; (with_reducible refine CA.out.mono ?_); rintro e w2 ⟨rfl, hb2⟩; have B2 := zh hb2; clear hb2)
  have hs := ST.out B2.out H0.out
  rw [← HZ1.out] at hs
  exact bodyPost_ret (v := .tuple #[.int .i64 0, .int .i64 (z : Nat)]) (by simp [results, Tryz.results106, go_sem]) rfl hs
end Go.Proofs.YtnacjhnfkkddcaaGreatDoor
