import Derived.Laws.Strings
import Derived.Maps.OwnSet
import Derived.Maps.OwnOps
import Derived.Maps.RangeWalk
import Derived.StringKeys
import Derived.Test.YtnacjhnfkkddcaaGreatDoorRows
import Derived.WalkKit
import Derived.Below
import Derived.Deep.Draws
import Derived.Laws.Rows
import Derived.Lib.Hide
import Derived.ProofKit
import Derived.OpenShut
import Derived.Outline
import Derived.OwnWalk
import Derived.Laws.OwnMore
import Derived.Laws.AppendOwnNone
import Derived.Deep.QuietTactic
import Derived.BigQuiet
import Derived.Deep.DeepFit
import Derived.ScopeJumps
import Derived.WalkMore
import Derived.Laws.BytesArg
import Derived.Maps.AppendAt
import Derived.Deep.Slices
import Derived.BigRegion
import Derived.Deep.Cut
import Derived.Deep.DeepCutAuto
import Derived.Laws.ByValue
import Derived.Shelf.Abstract
import Derived.Test.YtnacjhnfkkddcaaGreatDoorSu01
import Derived.Test.YtnacjhnfkkddcaaGreatDoorSu16
import Derived.Test.YtnacjhnfkkddcaaGreatDoorSu17
import Derived.Sort.OwnSorted
import Derived.Sort.KeysCollected
import Derived.Shelf.Strconv.Atoi
import Derived.Shelf.Strconv.Itoa0
import Derived.Shelf.Strconv.Itoa1
import Derived.Shelf.LaysM
import Derived.Shelf.Strconv.Itoa2
import Derived.Shelf.Strconv.Itoa3
import Derived.Shelf.Sort.Plain
import Derived.Shelf.Slices.Equal
import Derived.Shelf.Slices.In.SortNone
import Derived.Shelf.Slices.Empties2
import Derived.Test.YtnacjhnfkkddcaaGreatDoorProg
import Derived.Laws.IdiomRangeMap
import Derived.Laws.Cover3
import Derived.Test.YtnacjhnfkkddcaaGreatDoorSu07
import Derived.Test.YtnacjhnfkkddcaaGreatDoorSu02
namespace Go.Proofs.YtnacjhnfkkddcaaGreatDoor
open Go.RowKit Go.Deep Go.Maps Go.Shelf
set_option maxRecDepth 100000
set_option maxHeartbeats 3200000 in
theorem kvref_any (w : World) (q oq : Nat) (cs : Array Value) (ty : TypeId) (mo : Option Nat) (s : Kv.St) (l : List Kv.Po) (n c : Nat) (A : Option Addr) (w0 : World) (hk : KvIs w q oq cs ty mo s) (h : SlP w0 A n c l) (hb0 : Below w0.heap.size w0 w) (hz : l.length ≤ 70) :
  Calls Tryz.prog 157 #[.pointer (some ⟨q, oq, none⟩), .slice A n c] w (KInt (Kv.doE s l : Nat) w) := by
 have hn := h.len
 have hmx := h.max
 have hcp := h.cap
 unfold maxLen at hmx
 have HA := Lib.hid h
 have HN := Lib.hid hn
 have HZ := Lib.hid hz
 have B0 := Lib.hid hb0
 have HK := Lib.hid hk.ask
 have GD := Lib.hid hk.good
 have B := Lib.hid (Below.refl w.heap.size w)
 clear h hn hb0 hk hz
 by_cases h0 : n = 0
 ·have NE : Hid (Kv.doE s l = 1) := Kv.doE_right fun h => by have := h.1; have := HN.out; omega
  subst h0
  go_enter Tryz.func157, Tryz.ntmps157
  go_wp2_with fail
  go_ret
  exact ⟨by rw [NE.out]; rfl, B.out⟩
 have hn0 : ((n : Int) == 0) = false := by rw [beq_eq_false_iff_ne]; omega
 have CB : Hid (∀ w1, Below w.heap.size w w1 → Calls Tryz.prog 178 #[.slice A n c, .func (.func 179) #[] #[]] w1 (fun e w' => e = .returned (.bool (l.any Kv.badB)) ∧ Below w1.heap.size w1 w')) := fun w1 hb => kvcontains_any 179 #[] Kv.badB (enters_of Tryz.func179 (by kernel_rfl) rfl) l n c A w0 w1 HA.out (B0.out.trans (hb.mono B0.out.size)) (bad_fn HA.out)
 cases hbad : l.any Kv.badB with
 | true =>
  rw [hbad] at CB
  have NE : Hid (Kv.doE s l = 1) := Kv.doE_right fun h => by
   obtain ⟨o, ho, hb⟩ := List.any_eq_true.1 hbad
   exact Kv.badB_iff.1 hb (h.2.1 o ho)
  clear hbad
  go_enter Tryz.func157, Tryz.ntmps157
  go_wp2_with (first
    | (go_at_call 178; (with_reducible refine (CB.out _ B.out).mono ?_); rintro e w1 ⟨rfl, hb⟩; have B := Lib.hid (B.out.trans (hb.mono B.out.size)); clear hb))
  go_ret
  exact ⟨by rw [NE.out]; rfl, B.out⟩
 | false =>
 rw [hbad] at CB
 have OK : Hid (∀ o ∈ l, Kv.PoOk o) := fun o ho => by
  have h1 := List.any_eq_false.1 hbad o ho
  exact Classical.byContradiction fun h2 => h1 (Kv.badB_iff.2 h2)
 clear hbad
 by_cases hpw : l.Pairwise fun a b => a.key ≠ b.key
 case neg =>
  have CT : Hid (∀ w1, Below w.heap.size w w1 → Calls Tryz.prog 180 #[.slice A n c] w1 (fun e w' => e = .returned (.bool true) ∧ Below w1.heap.size w1 w')) := fun w1 hb => (kvtwice_any l n c A w0 w1 HA.out (B0.out.trans (hb.mono B0.out.size)) HZ.out).mono fun e w' ⟨⟨x, h1, h2⟩, h3⟩ => ⟨by rw [h1, h2.2 hpw], h3⟩
  have NE : Hid (Kv.doE s l = 1) := Kv.doE_right fun h => hpw h.2.2
  clear hpw
  go_enter Tryz.func157, Tryz.ntmps157
  go_wp2_with (first
    | (go_at_call 178; (with_reducible refine (CB.out _ B.out).mono ?_); rintro e w1 ⟨rfl, hb⟩; have B := Lib.hid (B.out.trans (hb.mono B.out.size)); clear hb)
    | (go_at_call 180; (with_reducible refine (CT.out _ B.out).mono ?_); rintro e w1 ⟨rfl, hb⟩; have B := Lib.hid (B.out.trans (hb.mono B.out.size)); clear hb))
  go_ret
  exact ⟨by rw [NE.out]; rfl, B.out⟩
 have CT : Hid (∀ w1, Below w.heap.size w w1 → Calls Tryz.prog 180 #[.slice A n c] w1 (fun e w' => e = .returned (.bool false) ∧ Below w1.heap.size w1 w')) := fun w1 hb => (kvtwice_any l n c A w0 w1 HA.out (B0.out.trans (hb.mono B0.out.size)) HZ.out).mono fun e w' ⟨⟨x, h1, h2⟩, h3⟩ => ⟨by
   rw [h1]
   cases x with
   | false => rfl
   | true => exact absurd hpw (h2.1 rfl), h3⟩
 have RT : Hid (Kv.Right l) := ⟨by have := HN.out; omega, OK.out, hpw⟩
 clear hpw
 have CO : Hid (∀ w1, Below w.heap.size w w1 → Calls Tryz.prog 178 #[.slice A n c, .func (.func 181) #[.pointer (some ⟨q, oq, none⟩)] #[]] w1 (fun e w' => e = .returned (.bool (l.any (Kv.oddB s))) ∧ Below w1.heap.size w1 w')) := fun w1 hb => kvcontains_any 181 #[.pointer (some ⟨q, oq, none⟩)] (Kv.oddB s) (enters_of Tryz.func181 (by kernel_rfl) rfl) l n c A w0 w1 HA.out (B0.out.trans (hb.mono B0.out.size)) (odd_fn HA.out (HK.out.on hb))
 cases hodd : l.any (Kv.oddB s) with
 | true =>
  rw [hodd] at CO
  have NE : Hid (Kv.doE s l = 7) := by
   obtain ⟨o, ho, hb⟩ := List.any_eq_true.1 hodd
   exact Kv.doE_odd RT.out ⟨o, ho, Kv.oddB_iff.1 hb⟩
  clear hodd
  go_enter Tryz.func157, Tryz.ntmps157
  go_wp2_with (first
    | (go_at_call 178; (with_reducible refine (CB.out _ B.out).mono ?_); rintro e w1 ⟨rfl, hb⟩; have B := Lib.hid (B.out.trans (hb.mono B.out.size)); clear hb)
    | (go_at_call 180; (with_reducible refine (CT.out _ B.out).mono ?_); rintro e w1 ⟨rfl, hb⟩; have B := Lib.hid (B.out.trans (hb.mono B.out.size)); clear hb)
    | (go_at_call 178; (with_reducible refine (CO.out _ B.out).mono ?_); rintro e w1 ⟨rfl, hb⟩; have B := Lib.hid (B.out.trans (hb.mono B.out.size)); clear hb))
  go_ret
  exact ⟨by rw [NE.out]; rfl, B.out⟩
 | false =>
 rw [hodd] at CO
 have OD : Hid (∀ o ∈ l, ¬ Kv.Odd s o) := fun o ho h => List.any_eq_false.1 hodd o ho (Kv.oddB_iff.2 h)
 clear hodd
 have CL : Hid (∀ w1, Below w.heap.size w w1 → Calls Tryz.prog 178 #[.slice A n c, .func (.func 182) #[.pointer (some ⟨q, oq, none⟩)] #[]] w1 (fun e w' => e = .returned (.bool (l.any (Kv.lackB s))) ∧ Below w1.heap.size w1 w')) := fun w1 hb => kvcontains_any 182 #[.pointer (some ⟨q, oq, none⟩)] (Kv.lackB s) (enters_of Tryz.func182 (by kernel_rfl) rfl) l n c A w0 w1 HA.out (B0.out.trans (hb.mono B0.out.size)) (lack_fn HA.out (HK.out.on hb))
 cases hlk : l.any (Kv.lackB s) with
 | true =>
  rw [hlk] at CL
  have NE : Hid (Kv.doE s l = 5) := by
   obtain ⟨o, ho, hb⟩ := List.any_eq_true.1 hlk
   exact Kv.doE_lacks RT.out OD.out ⟨o, ho, (Kv.lackB_iff GD.out).1 hb⟩
  clear hlk
  go_enter Tryz.func157, Tryz.ntmps157
  go_wp2_with (first
    | (go_at_call 178; (with_reducible refine (CB.out _ B.out).mono ?_); rintro e w1 ⟨rfl, hb⟩; have B := Lib.hid (B.out.trans (hb.mono B.out.size)); clear hb)
    | (go_at_call 180; (with_reducible refine (CT.out _ B.out).mono ?_); rintro e w1 ⟨rfl, hb⟩; have B := Lib.hid (B.out.trans (hb.mono B.out.size)); clear hb)
    | (go_at_call 178; (with_reducible refine (CO.out _ B.out).mono ?_); rintro e w1 ⟨rfl, hb⟩; have B := Lib.hid (B.out.trans (hb.mono B.out.size)); clear hb)
    | (go_at_call 178; (with_reducible refine (CL.out _ B.out).mono ?_); rintro e w1 ⟨rfl, hb⟩; have B := Lib.hid (B.out.trans (hb.mono B.out.size)); clear hb))
  go_ret
  exact ⟨by rw [NE.out]; rfl, B.out⟩
 | false =>
 rw [hlk] at CL
 have LK : Hid (∀ o ∈ l, ¬ Kv.Lacks s o) := fun o ho h => List.any_eq_false.1 hlk o ho ((Kv.lackB_iff GD.out).2 h)
 clear hlk
 have CN : Hid (∀ w1, Below w.heap.size w w1 → Calls Tryz.prog 183 #[.pointer (some ⟨q, oq, none⟩), .slice A n c] w1 (KInt ((Kv.after s l).l.length : Nat) w1)) := fun w1 hb => kvlenb_any w1 _ mo s l n c A w0 (HK.out.on hb) HA.out (B0.out.trans (hb.mono B0.out.size)) RT.out LK.out HZ.out
 by_cases hf : 64 < (Kv.after s l).l.length
 ·have NE : Hid (Kv.doE s l = 4) := Kv.doE_full RT.out OD.out LK.out hf
  generalize (Kv.after s l).l.length = ln at *
  have hg : decide ((64 : Int) < (ln : Nat)) = true := decide_eq_true (by omega)
  go_enter Tryz.func157, Tryz.ntmps157
  go_wp2_with (first
    | (go_at_call 178; (with_reducible refine (CB.out _ B.out).mono ?_); rintro e w1 ⟨rfl, hb⟩; have B := Lib.hid (B.out.trans (hb.mono B.out.size)); clear hb)
    | (go_at_call 180; (with_reducible refine (CT.out _ B.out).mono ?_); rintro e w1 ⟨rfl, hb⟩; have B := Lib.hid (B.out.trans (hb.mono B.out.size)); clear hb)
    | (go_at_call 178; (with_reducible refine (CO.out _ B.out).mono ?_); rintro e w1 ⟨rfl, hb⟩; have B := Lib.hid (B.out.trans (hb.mono B.out.size)); clear hb)
    | (go_at_call 178; (with_reducible refine (CL.out _ B.out).mono ?_); rintro e w1 ⟨rfl, hb⟩; have B := Lib.hid (B.out.trans (hb.mono B.out.size)); clear hb)
    | (go_at_call 183; (with_reducible refine (CN.out _ B.out).mono ?_); rintro e w1 ⟨rfl, hb⟩; have B := Lib.hid (B.out.trans (hb.mono B.out.size)); clear hb))
  go_ret
  exact ⟨by rw [NE.out]; rfl, B.out⟩
 ·have NE : Hid (Kv.doE s l = 0) := Kv.doE_ok RT.out OD.out LK.out hf
  generalize (Kv.after s l).l.length = ln at *
  have hg : decide ((64 : Int) < (ln : Nat)) = false := decide_eq_false (by omega)
  go_enter Tryz.func157, Tryz.ntmps157
  go_wp2_with (first
    | (go_at_call 178; (with_reducible refine (CB.out _ B.out).mono ?_); rintro e w1 ⟨rfl, hb⟩; have B := Lib.hid (B.out.trans (hb.mono B.out.size)); clear hb)
    | (go_at_call 180; (with_reducible refine (CT.out _ B.out).mono ?_); rintro e w1 ⟨rfl, hb⟩; have B := Lib.hid (B.out.trans (hb.mono B.out.size)); clear hb)
    | (go_at_call 178; (with_reducible refine (CO.out _ B.out).mono ?_); rintro e w1 ⟨rfl, hb⟩; have B := Lib.hid (B.out.trans (hb.mono B.out.size)); clear hb)
    | (go_at_call 178; (with_reducible refine (CL.out _ B.out).mono ?_); rintro e w1 ⟨rfl, hb⟩; have B := Lib.hid (B.out.trans (hb.mono B.out.size)); clear hb)
    | (go_at_call 183; (with_reducible refine (CN.out _ B.out).mono ?_); rintro e w1 ⟨rfl, hb⟩; have B := Lib.hid (B.out.trans (hb.mono B.out.size)); clear hb))
  go_ret
  exact ⟨by rw [NE.out]; rfl, B.out⟩
end Go.Proofs.YtnacjhnfkkddcaaGreatDoor
namespace Go.Proofs.YtnacjhnfkkddcaaGreatDoor
open Go.RowKit Go.Deep Go.Maps
set_option maxRecDepth 100000
structure KvMid (w : World) (q oq : Nat) (cs : Array Value) (ty : TypeId) (m : Nat) (r : Int) (l : List Kv.En) : Prop where
 row : w.heap[q]? = some (.cells cs ty (0, 0))
 k0 : cs[oq]? = some (.int .i64 r)
 k1 : cs[oq + 1]? = some (.map (some m))
 nos : NoStr cs
 map : MapIs Tryz.prog 9 w m l
theorem KvMid.ne {w : World} {q oq m : Nat} {cs : Array Value} {ty : TypeId} {r : Int} {l : List Kv.En} (h : KvMid w q oq cs ty m r l) : q ≠ m := fun e => by
 obtain ⟨D, ⟨es, clock, hb, _⟩, _⟩ := h.map
 have := h.row
 rw [e, hb] at this
 injection this with this
 cases this
theorem KvMid.cells {w : World} {q oq m : Nat} {cs : Array Value} {ty : TypeId} {r : Int} {l : List Kv.En} (h : KvMid w q oq cs ty m r l) : w.cell? ⟨q, oq, none⟩ = some (.int .i64 r) ∧ w.cell? ⟨q, oq + 1, none⟩ = some (.map (some m)) ∧ w.frozen? ⟨q, oq, none⟩ = false ∧ q < w.heap.size :=
 ⟨by rw [cell_of_row w q oq _ _ _ h.row]; exact h.k0, by rw [cell_of_row w q (oq + 1) _ _ _ h.row]; exact h.k1, frozen_of_row _ _ _ _ _ h.row, (Array.getElem?_eq_some_iff.1 h.row).1⟩
theorem KvMid.on {w w' : World} {q oq m : Nat} {cs : Array Value} {ty : TypeId} {r : Int} {l : List Kv.En} (h : KvMid w q oq cs ty m r l) (hb : Below w.heap.size w w') : KvMid w' q oq cs ty m r l := ⟨(hb.block q h.cells.2.2.2).trans h.row, h.k0, h.k1, h.nos, h.map.keep (hb.block m h.map.lt)⟩
theorem KvMid.turned {w w' : World} {q oq m : Nat} {cs : Array Value} {ty : TypeId} {r : Int} {l l' : List Kv.En} (h : KvMid w q oq cs ty m r l) (ht : w.mapTurned w' m) (hm : MapIs Tryz.prog 9 w' m l') : KvMid w' q oq cs ty m r l' :=
 ⟨(ht.grown.block q h.cells.2.2.2 (fun e => h.ne (by injection e))).trans h.row, h.k0, h.k1, h.nos, hm⟩
theorem cell_heap {w w' : World} {b i : Nat} (h : w'.heap[b]? = w.heap[b]?) : w'.cell? ⟨b, i, none⟩ = w.cell? ⟨b, i, none⟩ := by unfold World.cell?; rw [h]
theorem SlR.poH {w : World} {b o n c : Nat} {l : List Kv.Po} (h : SlP w (some ⟨b, o, none⟩) n c l) {j : Nat} {x : Kv.Po} (hx : l[j]? = some x) {w' : World} (hb : w'.heap[b]? = w.heap[b]?) :
  w'.cell? ⟨b, o + j * 4, none⟩ = some (.string x.key) ∧ w'.cell? ⟨b, o + j * 4 + 1, none⟩ = some (.string x.val) ∧ w'.cell? ⟨b, o + j * 4 + 2, none⟩ = some (.int .i64 x.rev) ∧ w'.cell? ⟨b, o + j * 4 + 3, none⟩ = some (.bool x.drop) := by
 obtain ⟨h0, h1, h2, h3⟩ := h.po hx (Below.refl _ _)
 exact ⟨(cell_heap hb).trans h0, (cell_heap hb).trans h1, (cell_heap hb).trans h2, (cell_heap hb).trans h3⟩
theorem run_eql_map_nil (t k e : TypeId) (m : Option Nat) (w : World) (h : Tryz.prog.underlying t = some (.map k e)) : (binOp .eql t (.map m) (.map none)).run Tryz.prog w = .ok (.bool m.isNone) w := by
 simp only [binOp]
 simp [run_equal_map_nil w t k e m h]
theorem ops_apart {w : World} {q oq b o n c : Nat} {cs : Array Value} {ty : TypeId} {mo : Option Nat} {s : Kv.St} {l : List Kv.Po} (hk : KvIs w q oq cs ty mo s) (h : SlP w (some ⟨b, o, none⟩) n c l) (hl : 0 < l.length) : b ≠ q ∧ mo ≠ some b ∧ b < w.heap.size := by
 obtain ⟨h0, _⟩ := h.po (List.getElem?_eq_getElem hl) (Below.refl _ _)
 refine ⟨fun e => ?_, fun e => ?_, (h.cell hl).1⟩
 ·subst e
  rw [cell_of_row _ _ _ _ _ _ hk.row] at h0
  exact hk.nos _ _ h0
 ·subst e
  obtain ⟨D, ⟨es, clock, hb, _⟩, _⟩ := show MapIs Tryz.prog 9 w b s.l from hk.map
  simp [World.cell?, hb] at h0
set_option maxHeartbeats 1600000 in
set_option maxRecDepth 100000 in
theorem kvapply_any (w : World) (q oq : Nat) (cs : Array Value) (ty : TypeId) (m : Nat) (r : Int) (L : List Kv.En) (x : Kv.Po) (h : KvMid w q oq cs ty m r L) (hr : Kv.Rise L) (hl : L.length ≤ 1000000) (hk : x.key.size ≤ maxLen) :
  Calls Tryz.prog 158 #[.pointer (some ⟨q, oq, none⟩), opV x] w (fun e w' => e = .returned (.tuple #[]) ∧ KvMid w' q oq cs ty m r (Kv.step r L x) ∧ Kept (fun i => i = m) w w') := by
 have Q1 := heap_alloc_new w (.cells #[.string x.key, .string x.val, .int .i64 x.rev, .bool x.drop] 158)
 have BN := Lib.hid ((Below.refl w.heap.size w).alloc (Nat.le_refl _) (.cells #[.string x.key, .string x.val, .int .i64 x.rev, .bool x.drop] 158))
 have M2 := Lib.hid (h.on BN.out)
 have KS := Lib.hid hk
 have RI := Lib.hid hr
 have LB := Lib.hid hl
 have QH := Lib.hid Q1
 clear h hk hr hl Q1
 obtain ⟨ws, hws⟩ : ∃ ws, ws = w.alloc (.cells #[.string x.key, .string x.val, .int .i64 x.rev, .bool x.drop] 158) := ⟨_, rfl⟩
 obtain ⟨g, hg⟩ : ∃ g, g = w.heap.size := ⟨_, rfl⟩
 rw [← hws, ← hg] at QH
 rw [← hws] at BN M2
 have c0 : ws.cell? ⟨g, 0, none⟩ = some (.string x.key) := by rw [cell_of_row ws g 0 _ _ _ QH.out]; rfl
 have c1 : ws.cell? ⟨g, 1, none⟩ = some (.string x.val) := by rw [cell_of_row ws g 1 _ _ _ QH.out]; rfl
 have c3 : ws.cell? ⟨g, 3, none⟩ = some (.bool x.drop) := by rw [cell_of_row ws g 3 _ _ _ QH.out]; rfl
 obtain ⟨d0, d1, d2, d3⟩ := M2.out.cells
 have M3 := Lib.hid (M2.out.on (Below.refl ws.heap.size ws).drew)
 have K3 := Lib.hid ((Kept.of_below (F := fun i => i = m) BN.out).trans (Kept.of_below (F := fun _ => False) (Below.refl ws.heap.size ws).drew) fun _ _ hf => hf.elim)
 have HWS := Lib.hid hws
 have HG := Lib.hid hg
 cases hd : x.drop with
 | true =>
  have SE : Hid (Kv.step r L x = Kv.dropK L x.key) := by show _ = _; unfold Kv.step; rw [if_pos hd]
  obtain ⟨wd, hrun, hmd, htd⟩ := drop_run Tryz.underlying9 Tryz.underlying81 M3.out.map RI.out x.key KS.out 0
  have M4 := Lib.hid (M3.out.turned htd hmd)
  have K4 := Lib.hid (K3.out.trans (G := fun i => i = m) (Kept.of_grown htd.grown (fun k hk => by injection hk with hk; exact hk.symm)) fun _ _ hi => hi)
  rw [hd] at c3
  clear hmd htd hws hg
  rw [SE.out]
  unfold opV
  obtain ⟨key, val, rev, drop⟩ := x
  simp only at *
  obtain rfl := hd
  go_enter Tryz.func158, Tryz.ntmps158
  go_upto_region 1 with fail
  rw [← HWS.out, ← HG.out]
  clear HWS HG
  go_wp2_with fail
  go_region
  go_wp2_with fail
  go_end0
  exact ⟨rfl, M4.out, K4.out⟩
 | false =>
  have SE : Hid (Kv.step r L x = Kv.putK (Kv.dropK L x.key) ⟨x.key, x.val, r⟩) := by show _ = _; unfold Kv.step; rw [if_neg (by rw [hd]; simp)]
  obtain ⟨wd, hrun, hmd, htd⟩ := put_run Tryz.underlying9 Tryz.underlying81 M3.out.map RI.out LB.out x.key x.val r KS.out
  have M4 := Lib.hid (M3.out.turned htd hmd)
  have K4 := Lib.hid (K3.out.trans (G := fun i => i = m) (Kept.of_grown htd.grown (fun k hk => by injection hk with hk; exact hk.symm)) fun _ _ hi => hi)
  rw [hd] at c3
  clear hmd htd hws hg
  rw [SE.out]
  unfold opV
  obtain ⟨key, val, rev, drop⟩ := x
  simp only at *
  obtain rfl := hd
  go_enter Tryz.func158, Tryz.ntmps158
  go_upto_region 1 with fail
  rw [← HWS.out, ← HG.out]
  clear HWS HG
  go_wp2_with fail
  go_region
  go_wp2_with fail
  go_end0
  exact ⟨rfl, M4.out, K4.out⟩
def putKv (cs : Array Value) (oq : Nat) (r : Int) (mo : Option Nat) : Array Value := (cs.setIfInBounds (oq + 1) (.map mo)).setIfInBounds oq (.int .i64 r)
theorem putKv_same {cs : Array Value} {oq : Nat} {r : Int} {mo : Option Nat} (h0 : cs[oq]? = some (.int .i64 r)) (h1 : cs[oq + 1]? = some (.map mo)) : putKv cs oq r mo = cs := by unfold putKv; rw [setB_same h1, setB_same h0]
theorem putKv_rev {cs : Array Value} {oq : Nat} (r : Int) {mo : Option Nat} (h1 : cs[oq + 1]? = some (.map mo)) : putKv cs oq r mo = cs.setIfInBounds oq (.int .i64 r) := by unfold putKv; rw [setB_same h1]
def KbDo (q oq : Nat) (cs : Array Value) (ty : TypeId) (mo : Option Nat) (s : Kv.St) (ops : List Kv.Po) (W : World) (e : Ending) (w' : World) : Prop :=
 ∃ mo', e = .returned (.tuple #[.int .i64 (Kv.doN s ops), .int .i64 (Kv.doE s ops : Nat)]) ∧ KvIs w' q oq (putKv cs oq (Kv.doS s ops).rev mo') ty mo' (Kv.doS s ops) ∧ Kept (fun i => i = q ∨ mo = some i) W w' ∧ ∀ m, mo' = some m → mo = some m ∨ W.heap.size ≤ m
set_option maxHeartbeats 3200000 in
set_option maxRecDepth 100000 in
theorem kvdo_any (W : World) (q oq : Nat) (cs : Array Value) (ty : TypeId) (mo : Option Nat) (s : Kv.St) (n c : Nat) (A : Option Addr) (l : List Kv.Po) (hk : KvIs W q oq cs ty mo s) (hrv : s.rev ≤ 1000) (h : SlP W A n c l) (hz : l.length ≤ 70) :
  Calls Tryz.prog 106 #[.pointer (some ⟨q, oq, none⟩), .slice A n c] W (KbDo q oq cs ty mo s l W) := by
 have hn := h.len
 have hmx := h.max
 have hcp := h.cap
 unfold maxLen at hmx
 have hr0 := hk.good.rev0
 have HA := Lib.hid h
 have HN := Lib.hid hn
 have HZ := Lib.hid hz
 have HK := Lib.hid hk
 have HK0 := Lib.hid hk.k0
 have HK1 := Lib.hid hk.k1
 have NS := Lib.hid hk.nos
 have STAY : ∀ {w' : World}, Below W.heap.size W w' → Kv.doE s l ≠ 0 → KbDo q oq cs ty mo s l W (.returned (.tuple #[.int .i64 0, .int .i64 (Kv.doE s l : Nat)])) w' := fun {w'} hb h0 => by
  refine ⟨mo, by rw [(Kv.doS_no h0).2], ?_, Kept.of_below hb, fun _ h => .inl h⟩
  rw [(Kv.doS_no h0).1, putKv_same HK0.out HK1.out]
  exact HK.out.on hb
 have ST : Hid (∀ {w' : World}, Below W.heap.size W w' → Kv.doE s l ≠ 0 → KbDo q oq cs ty mo s l W (.returned (.tuple #[.int .i64 0, .int .i64 (Kv.doE s l : Nat)])) w') := STAY
 have CA := Lib.hid (kvref_any W q oq cs ty mo s l n c A W HK.out HA.out (Below.refl _ _) HZ.out)
 have heq := fun m w => run_eql_map_nil _ _ _ m w Tryz.underlying81
 clear h hn hk hz STAY
 by_cases h0 : Kv.doE s l = 0
 ·have H0 := Lib.hid h0
  rw [h0] at CA
  clear h0
  cases mo with
  | some m =>
   go_enter Tryz.func106, Tryz.ntmps106
   go_upto_region 4 with (go_at_call 157; (with_reducible refine CA.out.mono ?_); rintro e w2 ⟨rfl, hb2⟩; have B2 := Lib.hid hb2; clear hb2)
   obtain ⟨c0, c1, f0, hq⟩ := (HK.out.on B2.out).cells
   have MID : Hid (KvMid (w2.setCell ⟨q, oq, none⟩ (.int .i64 (s.rev + 1))) q oq (cs.setIfInBounds oq (.int .i64 (s.rev + 1))) ty m (s.rev + 1) s.l) := ⟨heap_setCell_same _ _ _ _ _ _ (HK.out.on B2.out).row, setB_at HK0.out, setB_off HK1.out (by omega), NS.out.set _ (fun _ e => by cases e), MapIs.keep (HK.out.on B2.out).map (heap_setCell_other _ _ _ _ (by simpa using (HK.out.on B2.out).ne.symm))⟩
   have KP : Hid (Kept (fun i => i = q ∨ some m = some i) W (w2.setCell ⟨q, oq, none⟩ (.int .i64 (s.rev + 1)))) := (Kept.of_below (F := fun i => i = q ∨ some m = some i) B2.out).trans (G := fun i => i = q) (Kept.of_grown (row := some q) (grown_set _ _ _ _) (fun k hk => by injection hk with hk; exact hk.symm)) fun i _ hi => .inl hi
   have HM0 : Hid (m < W.heap.size → some m = some m) := fun _ => rfl
   go_wp2_with fail
   generalize w2.setCell ⟨q, oq, none⟩ (.int .i64 (s.rev + 1)) = w3 at *
   clear c0 c1 f0 hq
   go_loopw [33] (fun i wr => ∃ j : Nat, j ≤ n ∧ i = .int .i64 j ∧ KvMid wr q oq (cs.setIfInBounds oq (.int .i64 (s.rev + 1))) ty m (s.rev + 1) ((l.take j).foldl (Kv.step (s.rev + 1)) s.l) ∧ Kept (fun i => i = q ∨ some m = some i) W wr ∧ (m < W.heap.size → some m = some m)) (fun i _ => n - (intOf i).toNat)
   case atStart => exact ⟨0, by omega, rfl, MID.out, KP.out, fun _ => rfl⟩
   case round =>
    obtain ⟨j, hj, rfl, hm, hkp, hm0⟩ := hrel
    have MD := Lib.hid hm
    have KE := Lib.hid hkp
    have HM1 := Lib.hid hm0
    clear hm hkp hm0
    by_cases hlt : j < n
    ·obtain ⟨b1, o1, rfl⟩ := HA.out.addr (by have := HN.out; omega)
     have EA : Hid (l[j]? = some (l[j]'(by have := HN.out; omega))) := List.getElem?_eq_getElem _
     generalize l[j]'(by have := HN.out; omega) = x at *
     have AP := ops_apart HK.out HA.out (by have := HN.out; omega)
     obtain ⟨p0, p1, p2, p3⟩ := HA.out.poH EA.out (KE.out.block b1 AP.2.2 (by rintro (e | e); exact AP.1 e; exact AP.2.1 e))
     have KS := Lib.hid (HA.out.poOk (List.mem_of_getElem? EA.out)).1
     have LS := Lib.hid (Kv.steps_snoc (s.rev + 1) EA.out s.l)
     have RI := Lib.hid (Kv.steps_rise (r := s.rev + 1) (ops := l.take j) HK.out.good.rise)
     have LB : Hid (((l.take j).foldl (Kv.step (s.rev + 1)) s.l).length ≤ 1000000) := by
      have h1 := Kv.steps_length (s.rev + 1) (l.take j) s.l
      rw [List.length_take] at h1
      have := HK.out.good.len; have := HZ.out
      show _ ≤ _; omega
     generalize (l.take j).foldl (Kv.step (s.rev + 1)) s.l = L at *
     clear AP
     have Q1 := Lib.hid (heap_alloc_new wr (.cells #[.string x.key, .string x.val, .int .i64 x.rev, .bool x.drop] 158))
     have BN := Lib.hid ((Below.refl wr.heap.size wr).alloc (Nat.le_refl _) (.cells #[.string x.key, .string x.val, .int .i64 x.rev, .bool x.drop] 158))
     have M2 := Lib.hid (MD.out.on BN.out)
     have K2 := Lib.hid (KE.out.trans (Kept.of_below (F := fun _ => False) BN.out) fun _ _ hf => hf.elim)
     have CP := Lib.hid (kvapply_any _ q oq _ ty m _ L x M2.out RI.out LB.out KS.out)
     rw [← LS.out] at CP
     go_wp2_with (go_at_call 158; (with_reducible refine CP.out.mono ?_); rintro e w4 ⟨rfl, hm4, hk4⟩; have M4 := Lib.hid hm4; have K4 := Lib.hid (K2.out.trans hk4 (fun i hi e => by subst e; exact .inr rfl)); clear hm4 hk4)
     exact ⟨⟨j + 1, by omega, by go_num, M4.out, K4.out, by simp⟩, by simp [intOf]; omega⟩
    ·have E : Hid (l.take j = l) := List.take_of_length_le (by have := HN.out; omega)
     rw [E.out] at MD
     obtain ⟨d0, d1, d2, d3⟩ := MD.out.cells
     go_wp2_with fail
     have hok := Kv.doS_ok H0.out
     have hgd := Kv.doS_good HK.out.good l
     have hp : KbDo q oq cs ty (some m) s l W (.returned (.tuple #[.int .i64 (s.rev + 1), .int .i64 0])) wr := by
      refine ⟨some m, by rw [hok.2, H0.out]; rfl, ?_, KE.out, fun _ h => .inl h⟩
      rw [hok.1] at hgd ⊢
      rw [putKv_rev _ HK1.out]
      exact ⟨MD.out.row, MD.out.k0, MD.out.k1, MD.out.nos, MD.out.map, hgd⟩
     exact bodyPost_ret (v := .tuple #[.int .i64 (s.rev + 1), .int .i64 0]) (by simp [results, Tryz.results106, go_sem]) rfl hp
  | none =>
   go_enter Tryz.func106, Tryz.ntmps106
   have hmm := @run_makeMap Tryz.prog
   go_upto_region 4 with (go_at_call 157; (with_reducible refine CA.out.mono ?_); rintro e w2 ⟨rfl, hb2⟩; have B2 := Lib.hid hb2; clear hb2)
   obtain ⟨c0, c1, f0, hq⟩ := (HK.out.on B2.out).cells
   have f1 : w2.frozen? ⟨q, oq + 1, none⟩ = false := frozen_of_row _ _ _ _ _ (HK.out.on B2.out).row
   have BM := Lib.hid ((Below.refl w2.heap.size w2).alloc (Nat.le_refl _) (.map #[] 0))
   have S0 := Lib.hid (MapIs.made (P := Tryz.prog) (kt := 9) w2)
   have RW := Lib.hid ((HK.out.on B2.out).on BM.out).row
   have EL : Hid (s.l = []) := HK.out.map
   have MID : Hid (KvMid ((w2.alloc (.map #[] 0)).setCell ⟨q, oq + 1, none⟩ (.map (some w2.heap.size))) q oq (cs.setIfInBounds (oq + 1) (.map (some w2.heap.size))) ty w2.heap.size s.rev s.l) := ⟨heap_setCell_same _ _ _ _ _ _ RW.out, setB_off HK0.out (by omega), setB_at HK1.out, NS.out.set _ (fun _ e => by cases e), by rw [EL.out]; exact S0.out.keep (heap_setCell_other _ _ _ _ (by simp; omega))⟩
   have KP : Hid (Kept (fun i => i = q ∨ none = some i) W ((w2.alloc (.map #[] 0)).setCell ⟨q, oq + 1, none⟩ (.map (some w2.heap.size)))) := (Kept.of_below (F := fun i => i = q ∨ none = some i) (B2.out.trans (BM.out.mono B2.out.size))).trans (G := fun i => i = q) (Kept.of_grown (row := some q) (grown_set _ _ _ _) (fun k hk => by injection hk with hk; exact hk.symm)) fun i _ hi => .inl hi
   have HM0 : Hid (w2.heap.size < W.heap.size → none = some w2.heap.size) := fun h => by have := B2.out.size; omega
   have EW : Hid ((w2.alloc (.map #[] 0)).setCell ⟨q, oq + 1, none⟩ (.map (some w2.heap.size)) = (w2.setCell ⟨q, oq + 1, none⟩ (.map (some w2.heap.size))).alloc (.map #[] 0)) := World.setCell_alloc_past _ _ _ _ hq
   rw [EW.out] at MID KP
   go_upto_region 6 with fail
   obtain ⟨m, hm⟩ : ∃ m, m = w2.heap.size := ⟨_, rfl⟩
   rw [← hm] at MID KP HM0 ⊢
   clear hm hmm c0 c1 f0 f1 hq BM S0 RW EW
   generalize (w2.setCell ⟨q, oq + 1, none⟩ (.map (some m))).alloc (.map #[] 0) = w5 at *
   obtain ⟨c0, c1, f0, hq⟩ := MID.out.cells
   have MID : Hid (KvMid (w5.setCell ⟨q, oq, none⟩ (.int .i64 (s.rev + 1))) q oq (putKv cs oq (s.rev + 1) (some m)) ty m (s.rev + 1) s.l) := ⟨heap_setCell_same _ _ _ _ _ _ MID.out.row, setB_at MID.out.k0, setB_off MID.out.k1 (by omega), MID.out.nos.set _ (fun _ e => by cases e), MID.out.map.keep (heap_setCell_other _ _ _ _ (by simpa using MID.out.ne.symm))⟩
   have KP : Hid (Kept (fun i => i = q ∨ none = some i) W (w5.setCell ⟨q, oq, none⟩ (.int .i64 (s.rev + 1)))) := KP.out.trans (G := fun i => i = q) (Kept.of_grown (row := some q) (grown_set _ _ _ _) (fun k hk => by injection hk with hk; exact hk.symm)) fun i _ hi => .inl hi
   go_wp2_with fail
   generalize w5.setCell ⟨q, oq, none⟩ (.int .i64 (s.rev + 1)) = w3 at *
   clear c0 c1 f0 hq
   go_loopw [33] (fun i wr => ∃ j : Nat, j ≤ n ∧ i = .int .i64 j ∧ KvMid wr q oq (putKv cs oq (s.rev + 1) (some m)) ty m (s.rev + 1) ((l.take j).foldl (Kv.step (s.rev + 1)) s.l) ∧ Kept (fun i => i = q ∨ none = some i) W wr ∧ (m < W.heap.size → none = some m)) (fun i _ => n - (intOf i).toNat)
   case atStart => exact ⟨0, by omega, rfl, MID.out, KP.out, HM0.out⟩
   case round =>
    obtain ⟨j, hj, rfl, hm, hkp, hm0⟩ := hrel
    have MD := Lib.hid hm
    have KE := Lib.hid hkp
    have HM1 := Lib.hid hm0
    clear hm hkp hm0
    by_cases hlt : j < n
    ·obtain ⟨b1, o1, rfl⟩ := HA.out.addr (by have := HN.out; omega)
     have EA : Hid (l[j]? = some (l[j]'(by have := HN.out; omega))) := List.getElem?_eq_getElem _
     generalize l[j]'(by have := HN.out; omega) = x at *
     have AP := ops_apart HK.out HA.out (by have := HN.out; omega)
     obtain ⟨p0, p1, p2, p3⟩ := HA.out.poH EA.out (KE.out.block b1 AP.2.2 (by rintro (e | e); exact AP.1 e; exact AP.2.1 e))
     have KS := Lib.hid (HA.out.poOk (List.mem_of_getElem? EA.out)).1
     have LS := Lib.hid (Kv.steps_snoc (s.rev + 1) EA.out s.l)
     have RI := Lib.hid (Kv.steps_rise (r := s.rev + 1) (ops := l.take j) HK.out.good.rise)
     have LB : Hid (((l.take j).foldl (Kv.step (s.rev + 1)) s.l).length ≤ 1000000) := by
      have h1 := Kv.steps_length (s.rev + 1) (l.take j) s.l
      rw [List.length_take] at h1
      have := HK.out.good.len; have := HZ.out
      show _ ≤ _; omega
     generalize (l.take j).foldl (Kv.step (s.rev + 1)) s.l = L at *
     clear AP
     have Q1 := Lib.hid (heap_alloc_new wr (.cells #[.string x.key, .string x.val, .int .i64 x.rev, .bool x.drop] 158))
     have BN := Lib.hid ((Below.refl wr.heap.size wr).alloc (Nat.le_refl _) (.cells #[.string x.key, .string x.val, .int .i64 x.rev, .bool x.drop] 158))
     have M2 := Lib.hid (MD.out.on BN.out)
     have K2 := Lib.hid (KE.out.trans (Kept.of_below (F := fun _ => False) BN.out) fun _ _ hf => hf.elim)
     have CP := Lib.hid (kvapply_any _ q oq _ ty m _ L x M2.out RI.out LB.out KS.out)
     rw [← LS.out] at CP
     go_wp2_with (go_at_call 158; (with_reducible refine CP.out.mono ?_); rintro e w4 ⟨rfl, hm4, hk4⟩; have M4 := Lib.hid hm4; have K4 := Lib.hid (K2.out.trans hk4 (fun i hi e => by subst e; exact .inr (HM1.out hi))); clear hm4 hk4)
     exact ⟨⟨j + 1, by omega, by go_num, M4.out, K4.out, HM1.out⟩, by simp [intOf]; omega⟩
    ·have E : Hid (l.take j = l) := List.take_of_length_le (by have := HN.out; omega)
     rw [E.out] at MD
     obtain ⟨d0, d1, d2, d3⟩ := MD.out.cells
     go_wp2_with fail
     have hok := Kv.doS_ok H0.out
     have hgd := Kv.doS_good HK.out.good l
     have hp : KbDo q oq cs ty none s l W (.returned (.tuple #[.int .i64 (s.rev + 1), .int .i64 0])) wr := by
      refine ⟨some m, by rw [hok.2, H0.out]; rfl, ?_, KE.out, fun k hk => .inr ?_⟩
      ·rw [hok.1] at hgd ⊢
       exact ⟨MD.out.row, MD.out.k0, MD.out.k1, MD.out.nos, MD.out.map, hgd⟩
      ·injection hk with hk
       rcases Nat.lt_or_ge m W.heap.size with h | h
       ·exact absurd (HM1.out h) (by simp)
       ·omega
     exact bodyPost_ret (v := .tuple #[.int .i64 (s.rev + 1), .int .i64 0]) (by simp [results, Tryz.results106, go_sem]) rfl hp
 ·have H0 := Lib.hid h0
  obtain ⟨z, hz⟩ : ∃ z, z = Kv.doE s l := ⟨_, rfl⟩
  rw [← hz] at h0 CA
  have hz0 : ((z : Int) == 0) = false := by rw [beq_eq_false_iff_ne]; omega
  have HZ1 := Lib.hid hz
  clear hz
  go_enter Tryz.func106, Tryz.ntmps106
  go_wp2_with (go_at_call 157; (with_reducible refine CA.out.mono ?_); rintro e w2 ⟨rfl, hb2⟩; have B2 := Lib.hid hb2; clear hb2)
  have hs := ST.out B2.out H0.out
  rw [← HZ1.out] at hs
  exact bodyPost_ret (v := .tuple #[.int .i64 0, .int .i64 (z : Nat)]) (by simp [results, Tryz.results106, go_sem]) rfl hs
end Go.Proofs.YtnacjhnfkkddcaaGreatDoor
