import Derived.Lib.MinMax
import Derived.Handy
import Derived.BigRegion
import Derived.Test.YtnacjhnfkkddcaaGreatDoorQp02
import Derived.Deep.Cut
import Derived.Deep.DeepCutAuto
import Derived.Deep.RegionHeld3
import Derived.Laws.Cover1
set_option maxHeartbeats 6400000
set_option maxRecDepth 100000
set_option linter.unusedSimpArgs false
set_option linter.unusedVariables false
namespace Go.Proofs.YtnacjhnfkkddcaaGreatDoor
open Go.RowKit
structure Kept (F : Nat → Prop) (w w' : World) : Prop where
 os : w'.os = w.os
 tape : w'.tape = w.tape
 output : w'.output = w.output
 size : w.heap.size ≤ w'.heap.size
 block : ∀ i, i < w.heap.size → ¬ F i → w'.heap[i]? = w.heap[i]?
theorem Kept.trans {F G : Nat → Prop} {a b c : World} (h : Kept F a b) (k : Kept G b c) (hG : ∀ i, i < a.heap.size → G i → F i) : Kept F a c :=
 ⟨k.os.trans h.os, k.tape.trans h.tape, k.output.trans h.output, Nat.le_trans h.size k.size, fun i hi hF => (k.block i (Nat.lt_of_lt_of_le hi h.size) (fun hg => hF (hG i hi hg))).trans (h.block i hi hF)⟩
theorem Kept.more {F G : Nat → Prop} {a b : World} (h : Kept F a b) (hG : ∀ i, i < a.heap.size → F i → G i) : Kept G a b := ⟨h.os, h.tape, h.output, h.size, fun i hi hg => h.block i hi (fun hf => hg (hG i hi hf))⟩
theorem Kept.of_grown {F : Nat → Prop} {w w' : World} {row : Option Nat} (h : w.grownBy w' row) (hr : ∀ k, row = some k → F k) : Kept F w w' :=
 ⟨h.os, h.tape, h.output, h.size, fun i hi hF => h.block i hi (fun e => hF (hr i e.symm))⟩
theorem Kept.of_below {F : Nat → Prop} {w w' : World} (h : Below w.heap.size w w') : Kept F w w' := ⟨h.os, h.tape, h.output, h.size, fun i hi _ => h.block i hi⟩
theorem Kept.below {F : Nat → Prop} {w w' : World} {B : Nat} (h : Kept F w w') (hB : B ≤ w.heap.size) (hF : ∀ i, F i → B ≤ i) : Below B w w' :=
 ⟨h.os, h.tape, h.output, h.size, fun i hi => h.block i (by omega) (fun hf => by have := hF i hf; omega)⟩
theorem jaf {W W' : World} {g : Nat} {o : Obj} (h : W.heap[g]? = some o) (hb : Below W.heap.size W W') : W'.heap[g]? = some o := (hb.block g (Array.getElem?_eq_some_iff.1 h).1).trans h
def i64P (n : Int) : Prop := -9223372036854775808 ≤ n ∧ n ≤ 9223372036854775807
def jdy (w : World) (a : Value) (b : Value) (e : Ending) (w' : World) : Prop := e = .returned (.tuple #[a, b]) ∧ Below w.heap.size w w'
def jbb (w : World) (a : Value) (e : Ending) (w' : World) : Prop := e = .returned a ∧ Below w.heap.size w w'
theorem jbd (p e : Int) (w : World) : Calls Tryz.prog 54 #[.int .i64 p, .int .i64 e] w fun x w' => x = .returned (.tuple #[.int .i64 (Ph.next p e), .bool (Ph.did p e)]) ∧ w' = w := by
 by_cases hd : Ph.to_ p e = -1
 ·rw [(Ph.next_no hd).1, (Ph.next_no hd).2]
  by_cases he : 0 ≤ e ∧ e ≤ 8
  ·have hk : e = 0 ∨ e = 1 ∨ e = 2 ∨ e = 3 ∨ e = 4 ∨ e = 5 ∨ e = 6 ∨ e = 7 ∨ e = 8 := by omega
   clear he
   rcases hk with rfl | rfl | rfl | rfl | rfl | rfl | rfl | rfl | rfl
   ·have q0 : (p == 0) = false := by rw [beq_eq_false_iff_ne]; rintro rfl; revert hd; decide
    have q3 : (p == 3) = false := by rw [beq_eq_false_iff_ne]; rintro rfl; revert hd; decide
    have q5 : (p == 5) = false := by rw [beq_eq_false_iff_ne]; rintro rfl; revert hd; decide
    clear hd
    go_enter Tryz.func54, Tryz.ntmps54
    go_wp2_with fail
    go_ret2
    exact ⟨rfl, rfl⟩
   ·have q1 : (p == 1) = false := by rw [beq_eq_false_iff_ne]; rintro rfl; revert hd; decide
    clear hd
    go_enter Tryz.func54, Tryz.ntmps54
    go_wp2_with fail
    go_ret2
    exact ⟨rfl, rfl⟩
   ·have q2 : (p == 2) = false := by rw [beq_eq_false_iff_ne]; rintro rfl; revert hd; decide
    clear hd
    go_enter Tryz.func54, Tryz.ntmps54
    go_wp2_with fail
    go_ret2
    exact ⟨rfl, rfl⟩
   ·have q1 : (p == 1) = false := by rw [beq_eq_false_iff_ne]; rintro rfl; revert hd; decide
    clear hd
    go_enter Tryz.func54, Tryz.ntmps54
    go_wp2_with fail
    go_ret2
    exact ⟨rfl, rfl⟩
   ·have q1 : (p == 1) = false := by rw [beq_eq_false_iff_ne]; rintro rfl; revert hd; decide
    clear hd
    go_enter Tryz.func54, Tryz.ntmps54
    go_wp2_with fail
    go_ret2
    exact ⟨rfl, rfl⟩
   ·have q1 : (p == 1) = false := by rw [beq_eq_false_iff_ne]; rintro rfl; revert hd; decide
    clear hd
    go_enter Tryz.func54, Tryz.ntmps54
    go_wp2_with fail
    go_ret2
    exact ⟨rfl, rfl⟩
   ·have q1 : (p == 1) = false := by rw [beq_eq_false_iff_ne]; rintro rfl; revert hd; decide
    have q2 : (p == 2) = false := by rw [beq_eq_false_iff_ne]; rintro rfl; revert hd; decide
    clear hd
    go_enter Tryz.func54, Tryz.ntmps54
    go_wp2_with fail
    go_ret2
    exact ⟨rfl, rfl⟩
   ·have q1 : (p == 1) = false := by rw [beq_eq_false_iff_ne]; rintro rfl; revert hd; decide
    clear hd
    go_enter Tryz.func54, Tryz.ntmps54
    go_wp2_with fail
    go_ret2
    exact ⟨rfl, rfl⟩
   ·have q4 : (p == 4) = false := by rw [beq_eq_false_iff_ne]; rintro rfl; revert hd; decide
    clear hd
    go_enter Tryz.func54, Tryz.ntmps54
    go_wp2_with fail
    go_ret2
    exact ⟨rfl, rfl⟩
  ·have r0 : (e == 0) = false := by rw [beq_eq_false_iff_ne]; omega
   have r1 : (e == 1) = false := by rw [beq_eq_false_iff_ne]; omega
   have r2 : (e == 2) = false := by rw [beq_eq_false_iff_ne]; omega
   have r3 : (e == 3) = false := by rw [beq_eq_false_iff_ne]; omega
   have r4 : (e == 4) = false := by rw [beq_eq_false_iff_ne]; omega
   have r5 : (e == 5) = false := by rw [beq_eq_false_iff_ne]; omega
   have r6 : (e == 6) = false := by rw [beq_eq_false_iff_ne]; omega
   have r7 : (e == 7) = false := by rw [beq_eq_false_iff_ne]; omega
   have r8 : (e == 8) = false := by rw [beq_eq_false_iff_ne]; omega
   clear hd he
   go_enter Tryz.func54, Tryz.ntmps54
   go_wp2_with fail
   go_ret2
   exact ⟨rfl, rfl⟩
 ·have hp := Ph.pairs hd
  clear hd
  rcases hp with ⟨rfl, rfl⟩ | ⟨rfl, rfl⟩ | ⟨rfl, rfl⟩ | ⟨rfl, rfl⟩ | ⟨rfl, rfl⟩ | ⟨rfl, rfl⟩ | ⟨rfl, rfl⟩ | ⟨rfl, rfl⟩ | ⟨rfl, rfl⟩ | ⟨rfl, rfl⟩ | ⟨rfl, rfl⟩ | ⟨rfl, rfl⟩
  all_goals
   go_enter Tryz.func54, Tryz.ntmps54
   go_wp2_with fail
   go_ret2
   exact ⟨rfl, rfl⟩
structure LeAt (w : World) (b o : Nat) (l : Le) : Prop where
 c0 : w.cell? ⟨b, o, none⟩ = some (.string Bk.lead)
 c1 : w.cell? ⟨b, o + 1, none⟩ = some (.int .i64 l.who)
 c2 : w.cell? ⟨b, o + 2, none⟩ = some (.int .i64 l.ep)
 c3 : w.cell? ⟨b, o + 3, none⟩ = some (.int .i64 l.till)
 c4 : w.cell? ⟨b, o + 4, none⟩ = some (.bool false)
 lt : b < w.heap.size
theorem LeAt.of {w : World} {A : Option Addr} {c : Nat} {l : Le} (h : SlF Bk.leC w A 1 c [l]) : ∃ b o, A = some ⟨b, o, none⟩ ∧ 1 ≤ c ∧ LeAt w b o l := by
 obtain ⟨b, o, h1, h2, h3⟩ := h.rd (by simp)
 refine ⟨b, o, h1, h.cap, h3 0 _ rfl, h3 1 _ rfl, h3 2 _ rfl, h3 3 _ rfl, h3 4 _ rfl, h2⟩
theorem LeAt.on {w w' : World} {b o : Nat} {l : Le} (h : LeAt w b o l) (hb : Below w.heap.size w w') : LeAt w' b o l :=
 ⟨(hb.cell (p := ⟨b, o, none⟩) h.lt).trans h.c0, (hb.cell (p := ⟨b, o + 1, none⟩) h.lt).trans h.c1, (hb.cell (p := ⟨b, o + 2, none⟩) h.lt).trans h.c2, (hb.cell (p := ⟨b, o + 3, none⟩) h.lt).trans h.c3, (hb.cell (p := ⟨b, o + 4, none⟩) h.lt).trans h.c4, Nat.lt_of_lt_of_le h.lt hb.size⟩
abbrev rlT (m : Int) (A : Option Addr) (n c : Nat) : Value := .agg #[.int .i64 m, .slice A n c]
theorem jef : (Bk.lead.toList == Bk.lead.toList) = true := by rw [beq_iff_eq]
theorem jct (m : Int) (b o c : Nat) (l : Le) (w : World) (h : LeAt w b o l) (hc : 1 ≤ c) : Calls Tryz.prog 145 #[rlT m (some ⟨b, o, none⟩) 1 c, .string Bk.lead] w (jbb w (.int .i64 0)) := by
 have B := zh ((Below.refl w.heap.size w).alloc (Nat.le_refl _) (.cells #[.int .i64 m, .slice (some ⟨b, o, none⟩) 1 c] 31))
 obtain ⟨h0, h1, h2, h3, h4, hlt⟩ := h
 have hs := jef
 generalize Bk.lead = ld at *
 unfold rlT
 go_enter Tryz.func145, Tryz.ntmps145
 go_wp2_with fail
 go_rounds 1
 go_ret
 exact ⟨rfl, B.out⟩
theorem jkj (m : Int) (A : Option Addr) (c : Nat) (w : World) (ld : ByteArray) : Calls Tryz.prog 145 #[rlT m A 0 c, .string ld] w (jbb w (.int .i64 (-1))) := by
 have B := zh ((Below.refl w.heap.size w).alloc (Nat.le_refl _) (.cells #[.int .i64 m, .slice A 0 c] 31))
 unfold rlT
 go_enter Tryz.func145, Tryz.ntmps145
 go_wp2_with fail
 go_rounds 1
 go_ret
 exact ⟨rfl, B.out⟩
theorem jcu (a b : Int) (ha : 0 ≤ a ∧ a ≤ 1099511627776) (hb : 0 ≤ b ∧ b ≤ 1099511627776) (w : World) : Calls Tryz.prog 146 #[.int .i64 a, .int .i64 b] w fun e w' => e = .returned (.int .i64 (Bk.late a b)) ∧ w' = w := by
 have E : Hid (Bk.late a b = min (a + b) 1099511627776) := rfl
 have hw : IntKind.i64.wrap (a + b) = a + b := IntWalk.i64_in _ (by omega)
 go_enter Tryz.func146, Tryz.ntmps146
 go_wp2_with fail
 go_ret
 rw [E.out]
 exact ⟨rfl, rfl⟩
theorem jix (n : Int) (hn : 0 ≤ n ∧ n ≤ 1099511627776) (w : World) : Calls Tryz.prog 177 #[.int .i64 n] w fun e w' => e = .returned (.bool true) ∧ w' = w := by
 obtain ⟨h1, h2⟩ := hn
 go_enter Tryz.func177, Tryz.ntmps177
 go_wp2_with fail
 go_ret
 exact ⟨rfl, rfl⟩
theorem jbq (h n t : Int) (hh : 0 ≤ h ∧ h ≤ 63) (hn : 0 ≤ n ∧ n ≤ 1099511627776) (ht : 1 ≤ t ∧ t ≤ 1048576) (w : World) : Calls Tryz.prog 144 #[.string Bk.lead, .int .i64 h, .int .i64 n, .int .i64 t] w fun e w' => e = .returned (.bool true) ∧ w' = w := by
 have CT := zh (fun W => jix n hn W)
 obtain ⟨h1, h2⟩ := hh
 obtain ⟨t1, t2⟩ := ht
 have hz : Bk.lead.size = 4 := rfl
 generalize Bk.lead = ld at *
 clear hn
 go_enter Tryz.func144, Tryz.ntmps144
 go_wp2_with (go_at_call 177; (with_reducible refine (CT.out _).mono ?_); rintro e w1 ⟨rfl, rfl⟩)
 go_ret
 exact ⟨rfl, rfl⟩
theorem jkk (m now : Int) (A : Option Addr) (c : Nat) (w : World) : Calls Tryz.prog 148 #[rlT m A 0 c, .string Bk.lead, .int .i64 now] w (jbb w (.bool true)) := by
 have B := zh ((Below.refl w.heap.size w).alloc (Nat.le_refl _) (.cells #[.int .i64 m, .slice A 0 c] 31))
 have CA := zh (fun W => jkj m A c W Bk.lead)
 unfold rlT at *
 generalize Bk.lead = ld at *
 go_enter Tryz.func148, Tryz.ntmps148
 go_wp2_with (go_at_call 145; (with_reducible refine (CA.out _).mono ?_); rintro e w1 ⟨rfl, hb⟩; have B1 := zh (B.out.trans (hb.mono B.out.size)); clear hb)
 go_quiet (fail)
 go_wp2_with fail
 go_ret
 exact ⟨rfl, jbo B1.out _⟩
theorem je8 (m now : Int) (b o c : Nat) (l : Le) (hm : 0 ≤ m ∧ m ≤ 1048576) (ht : 0 ≤ l.till ∧ l.till ≤ 1099511627776) (w : World) (h : LeAt w b o l) (hc : 1 ≤ c) : Calls Tryz.prog 148 #[rlT m (some ⟨b, o, none⟩) 1 c, .string Bk.lead, .int .i64 now] w (jbb w (.bool (decide (Bk.late l.till m ≤ now)))) := by
 have hb1 := (Below.refl w.heap.size w).alloc (Nat.le_refl _) (.cells #[.int .i64 m, .slice (some ⟨b, o, none⟩) 1 c] 31)
 have B := zh hb1
 have HA := zh (h.on hb1)
 have ha := HA.out
 have CA := zh (jct m b o c l (w.alloc (.cells #[.int .i64 m, .slice (some ⟨b, o, none⟩) 1 c] 31)) ha hc)
 have CL := zh (fun W => jcu l.till m ht (by omega) W)
 have hrow : (w.alloc (.cells #[.int .i64 m, .slice (some ⟨b, o, none⟩) 1 c] 31)).heap[w.heap.size]? = some (.cells #[.int .i64 m, .slice (some ⟨b, o, none⟩) 1 c] 31 (0, 0)) := heap_alloc_new w _
 have HR := zh hrow
 clear h hb1 ha hrow
 unfold rlT at *
 generalize Bk.lead = ld at *
 generalize Bk.late l.till m = lt at *
 go_enter Tryz.func148, Tryz.ntmps148
 go_upto_region 1 with fail
 obtain ⟨g, hg⟩ : ∃ g, g = w.heap.size := ⟨_, rfl⟩
 rw [← hg] at HR ⊢
 clear hg
 generalize w.alloc (.cells #[.int .i64 m, .slice (some ⟨b, o, none⟩) 1 c] 31) = w1 at *
 obtain ⟨x0, x1, x2⟩ : w1.cell? ⟨g, 0, none⟩ = some (.int .i64 m) ∧ w1.cell? ⟨g, 1, none⟩ = some (.slice (some ⟨b, o, none⟩) 1 c) ∧ g < w1.heap.size := ⟨by rw [cell_of_row w1 g 0 _ _ _ HR.out]; rfl, by rw [cell_of_row w1 g 1 _ _ _ HR.out]; rfl, (Array.getElem?_eq_some_iff.1 HR.out).1⟩
 go_upto_region 2 with (go_at_call 145; (with_reducible refine CA.out.mono ?_); rintro e w2 ⟨rfl, hb⟩; have B1 := zh (B.out.trans (hb.mono B.out.size)); have q0 := (hb.cell (p := ⟨g, 0, none⟩) x2).trans x0; have q1 := (hb.cell (p := ⟨g, 1, none⟩) x2).trans x1; obtain ⟨h0, h1, h2, h3, h4, hlt⟩ := HA.out.on hb; clear hb x0 x1 x2)
 clear HA HR CA B
 go_quiet ((go_at_call 146; exact Calls.quiet_of_same (CL.out _)))
 go_wp2_with fail
 go_ret
 exact ⟨rfl, jbo B1.out _⟩
def jkl (w : World) (m : Int) (ll : List Le) (e : Ending) (w' : World) : Prop := ∃ A c, e = .returned (rlT m A ll.length c) ∧ SlF Bk.leC w' A ll.length c ll ∧ Below w.heap.size w w' ∧ ∀ b o, A = some ⟨b, o, none⟩ → w.heap.size ≤ b
def jch (w : World) (m : Int) (ll : List Le) (n x : Int) (e : Ending) (w' : World) : Prop := ∃ A c, e = .returned (.tuple #[rlT m A ll.length c, .int .i64 n, .int .i64 x]) ∧ SlF Bk.leC w' A ll.length c ll ∧ Below w.heap.size w w' ∧ (x = 0 → ∀ b o, A = some ⟨b, o, none⟩ → w.heap.size ≤ b)
abbrev bkLe (l : Le) : Value := .agg #[.string Bk.lead, .int .i64 l.who, .int .i64 l.ep, .int .i64 l.till, .bool false]
theorem jga : Op.bytesLess Bk.lead.toList Bk.lead.toList = false := by
 have : ∀ l : List UInt8, Op.bytesLess l l = false := by
  intro l
  induction l <;> simp_all [Op.bytesLess]
 exact this _
theorem LeAt.low {w w' : World} {b o B : Nat} {l : Le} (h : LeAt w b o l) (hb : Below B w w') (hB : b < B) : LeAt w' b o l :=
 ⟨(hb.cell (p := ⟨b, o, none⟩) hB).trans h.c0, (hb.cell (p := ⟨b, o + 1, none⟩) hB).trans h.c1, (hb.cell (p := ⟨b, o + 2, none⟩) hB).trans h.c2, (hb.cell (p := ⟨b, o + 3, none⟩) hB).trans h.c3, (hb.cell (p := ⟨b, o + 4, none⟩) hB).trans h.c4, Nat.lt_of_lt_of_le h.lt hb.size⟩
theorem jbe {w W : World} {a b : Obj} (h : W = (w.alloc a).alloc b) : W.heap[w.heap.size]? = some a ∧ W.heap[w.heap.size + 1]? = some b ∧ Below w.heap.size w W ∧ W.heap.size = w.heap.size + 1 + 1 := by
 subst h
 have h1 : (w.alloc a).heap.size = w.heap.size + 1 := by simp
 have b1 := (Below.refl w.heap.size w).alloc (Nat.le_refl _) a
 have b2 := (Below.refl (w.alloc a).heap.size (w.alloc a)).alloc (Nat.le_refl _) b
 refine ⟨jaf (heap_alloc_new w a) b2, by rw [← h1]; exact heap_alloc_new _ b, b1.trans (b2.mono b1.size), by simp⟩
theorem jal {w W : World} {a b c : Obj} (h : W = ((w.alloc a).alloc b).alloc c) : W.heap[w.heap.size]? = some a ∧ W.heap[w.heap.size + 1]? = some b ∧ W.heap[w.heap.size + 1 + 1]? = some c ∧ Below w.heap.size w W ∧ W.heap.size = w.heap.size + 1 + 1 + 1 := by
 subst h
 obtain ⟨h1, h2, h3, h4⟩ := jbe (w := w) (a := a) (b := b) rfl
 have b2 := (Below.refl ((w.alloc a).alloc b).heap.size ((w.alloc a).alloc b)).alloc (Nat.le_refl _) c
 refine ⟨jaf h1 b2, jaf h2 b2, by rw [← h4]; exact heap_alloc_new _ c, h3.trans (b2.mono h3.size), by rw [← h4]; simp⟩
theorem jni (m : Int) (A : Option Addr) (c : Nat) (l' : Le) (w : World) : Calls Tryz.prog 147 #[rlT m A 0 c, bkLe l'] w (jkl w m [l']) := by
 have hz := jef
 have hz2 := jga
 unfold rlT bkLe
 go_enter Tryz.func147, Tryz.ntmps147
 go_upto_region 1 with fail
 obtain ⟨W, hW⟩ : ∃ W, W = ((w.alloc (.cells #[.int .i64 m, .slice A 0 c] 31)).alloc (.cells #[.string Bk.lead, .int .i64 l'.who, .int .i64 l'.ep, .int .i64 l'.till, .bool false] 116)).alloc (.cells #[.int .i64 0, .slice none 0 0] 31) := ⟨_, rfl⟩
 rw [← hW]
 obtain ⟨r1, r2, r3, hb, hs⟩ := jal hW
 clear hW
 have B := zh hb
 obtain ⟨n, hn⟩ : ∃ n, n = w.heap.size := ⟨_, rfl⟩
 rw [← hn] at r1 r2 r3 hs ⊢
 have NB := zh (Nat.le_of_eq hn.symm)
 clear hn hb
 have PF : Hid (∀ W : World, W.heap[n]? = some (.cells #[.int .i64 m, .slice A 0 c] 31 (0, 0)) → W.heap[n + 1]? = some (.cells #[.string Bk.lead, .int .i64 l'.who, .int .i64 l'.ep, .int .i64 l'.till, .bool false] 116 (0, 0)) → W.heap[n + 1 + 1]? = some (.cells #[.int .i64 0, .slice none 0 0] 31 (0, 0)) →
   W.cell? ⟨n, 0, none⟩ = some (.int .i64 m) ∧ W.cell? ⟨n, 1, none⟩ = some (.slice A 0 c) ∧ W.cell? ⟨n + 1, 0, none⟩ = some (.string Bk.lead) ∧ W.cell? ⟨n + 1, 1, none⟩ = some (.int .i64 l'.who) ∧ W.cell? ⟨n + 1, 2, none⟩ = some (.int .i64 l'.ep) ∧ W.cell? ⟨n + 1, 3, none⟩ = some (.int .i64 l'.till) ∧ W.cell? ⟨n + 1, 4, none⟩ = some (.bool false) ∧
   W.cell? ⟨n + 1 + 1, 0, none⟩ = some (.int .i64 0) ∧ W.cell? ⟨n + 1 + 1, 1, none⟩ = some (.slice none 0 0) ∧ (∀ i, W.frozen? ⟨n, i, none⟩ = false) ∧ (∀ i, W.frozen? ⟨n + 1 + 1, i, none⟩ = false)) :=
  fun W r1 r2 r3 => ⟨cell_of_row W _ 0 _ _ _ r1, cell_of_row W _ 1 _ _ _ r1, cell_of_row W _ 0 _ _ _ r2, cell_of_row W _ 1 _ _ _ r2, cell_of_row W _ 2 _ _ _ r2, cell_of_row W _ 3 _ _ _ r2, cell_of_row W _ 4 _ _ _ r2, cell_of_row W _ 0 _ _ _ r3, cell_of_row W _ 1 _ _ _ r3, fun i => frozen_of_row W _ i _ _ r1, fun i => frozen_of_row W _ i _ _ r3⟩
 obtain ⟨x0, x1, e0, e1, e2, e3, e4, y0, y1, f1, f3⟩ := PF.out W r1 r2 r3
 have R1 := zh r1
 have R2 := zh r2
 have R3 := zh r3
 have HS := zh hs
 clear hs
 clear r1 r2 r3
 go_upto_region 2 with fail
 have hov : OwF Bk.leC 5 116 W W.heap.size (.slice none 0 0) [] := OwF.none_ _ _ _
 generalize Value.slice none 0 0 = v0 at hov ⊢
 have OV := zh hov
 clear hov
 go_wp2_with fail
 refine wp_loop_rounds 2 ?_
 rw [rounds_succ]
 go_wp2_with (at_builtin; refine jad Bk.leC_len Bk.leC_one Tryz.underlying29 jkc rfl (by omega) rfl (.tmp 51) (.tmp 53) rfl W.heap.size v0 [] rfl OV.out l' rfl (by decide) (by decide) (Nat.le_refl _) ?_; intro v3 w3 ho3 hb3 hg3 _; obtain ⟨A3, k3, rfl⟩ : ∃ A c, v3 = .slice A 1 c := ho3.form; have O3 := zh ho3; have B3 : Hid (Below W.heap.size W w3) := zh hb3; clear ho3 hb3 hg3 x0 x1 e0 e1 e2 e3 e4 y0 y1 f1 f3; have r1 := jaf R1.out B3.out; have r2 := jaf R2.out B3.out; have r3 := jaf R3.out B3.out; obtain ⟨x0, x1, e0, e1, e2, e3, e4, y0, y1, f1, f3⟩ := PF.out w3 r1 r2 r3; clear r1 r2 r3)
 exact bodyPost_ret (v := rlT m A3 1 k3) (by simp [results, Tryz.results147, go_sem, x0, x1, y0, y1, f1, f3]) rfl ⟨A3, k3, rfl, (O3.out.keep (fun k hk => by
  have := (O3.out.lt k hk).1
  have := HS.out
  show (World.setCell _ _ _).heap[k]? = _
  rw [Below.heap_setCell _ _ _ _ (by simp; omega), Below.heap_setCell _ _ _ _ (by simp; omega), Below.heap_setCell _ _ _ _ (by simp; omega)])).sl, (((B.out.trans (B3.out.mono B.out.size)).setCell NB.out _).setCell (by have := NB.out; show w.heap.size ≤ n + 1 + 1; omega) _).setCell (by have := NB.out; show w.heap.size ≤ n + 1 + 1; omega) _, fun b' o' e => by
  have h1 := (O3.out.lt b' (by rw [e]; rfl)).1
  have h2 := NB.out
  have h3 := HS.out
  omega⟩
theorem jgb (m : Int) (b o c : Nat) (l : Le) (l' : Le) (w : World) (h : LeAt w b o l) (hc : 1 ≤ c) : Calls Tryz.prog 147 #[rlT m (some ⟨b, o, none⟩) 1 c, bkLe l'] w (jkl w m [l']) := by
 have hz := jef
 have hz2 := jga
 unfold rlT bkLe
 go_enter Tryz.func147, Tryz.ntmps147
 go_upto_region 1 with fail
 obtain ⟨W, hW⟩ : ∃ W, W = ((w.alloc (.cells #[.int .i64 m, .slice (some ⟨b, o, none⟩) 1 c] 31)).alloc (.cells #[.string Bk.lead, .int .i64 l'.who, .int .i64 l'.ep, .int .i64 l'.till, .bool false] 116)).alloc (.cells #[.int .i64 0, .slice none 0 0] 31) := ⟨_, rfl⟩
 rw [← hW]
 obtain ⟨r1, r2, r3, hb, hs⟩ := jal hW
 clear hW
 have B := zh hb
 have LA := zh (h.on hb)
 have LL := zh h.lt
 obtain ⟨n, hn⟩ : ∃ n, n = w.heap.size := ⟨_, rfl⟩
 rw [← hn] at r1 r2 r3 hs ⊢
 have NB := zh (Nat.le_of_eq hn.symm)
 clear hn hb
 have PF : Hid (∀ W : World, W.heap[n]? = some (.cells #[.int .i64 m, .slice (some ⟨b, o, none⟩) 1 c] 31 (0, 0)) → W.heap[n + 1]? = some (.cells #[.string Bk.lead, .int .i64 l'.who, .int .i64 l'.ep, .int .i64 l'.till, .bool false] 116 (0, 0)) → W.heap[n + 1 + 1]? = some (.cells #[.int .i64 0, .slice none 0 0] 31 (0, 0)) →
   W.cell? ⟨n, 0, none⟩ = some (.int .i64 m) ∧ W.cell? ⟨n, 1, none⟩ = some (.slice (some ⟨b, o, none⟩) 1 c) ∧ W.cell? ⟨n + 1, 0, none⟩ = some (.string Bk.lead) ∧ W.cell? ⟨n + 1, 1, none⟩ = some (.int .i64 l'.who) ∧ W.cell? ⟨n + 1, 2, none⟩ = some (.int .i64 l'.ep) ∧ W.cell? ⟨n + 1, 3, none⟩ = some (.int .i64 l'.till) ∧ W.cell? ⟨n + 1, 4, none⟩ = some (.bool false) ∧
   W.cell? ⟨n + 1 + 1, 0, none⟩ = some (.int .i64 0) ∧ W.cell? ⟨n + 1 + 1, 1, none⟩ = some (.slice none 0 0) ∧ (∀ i, W.frozen? ⟨n, i, none⟩ = false) ∧ (∀ i, W.frozen? ⟨n + 1 + 1, i, none⟩ = false)) :=
  fun W r1 r2 r3 => ⟨cell_of_row W _ 0 _ _ _ r1, cell_of_row W _ 1 _ _ _ r1, cell_of_row W _ 0 _ _ _ r2, cell_of_row W _ 1 _ _ _ r2, cell_of_row W _ 2 _ _ _ r2, cell_of_row W _ 3 _ _ _ r2, cell_of_row W _ 4 _ _ _ r2, cell_of_row W _ 0 _ _ _ r3, cell_of_row W _ 1 _ _ _ r3, fun i => frozen_of_row W _ i _ _ r1, fun i => frozen_of_row W _ i _ _ r3⟩
 obtain ⟨x0, x1, e0, e1, e2, e3, e4, y0, y1, f1, f3⟩ := PF.out W r1 r2 r3
 obtain ⟨h0, h1, h2, h3, h4, hlt⟩ := LA.out
 have R1 := zh r1
 have R2 := zh r2
 have R3 := zh r3
 have HS := zh hs
 clear hs
 clear r1 r2 r3
 go_upto_region 2 with fail
 have hov : OwF Bk.leC 5 116 W W.heap.size (.slice none 0 0) [] := OwF.none_ _ _ _
 generalize Value.slice none 0 0 = v0 at hov ⊢
 have OV := zh hov
 clear hov
 go_wp2_with fail
 refine wp_loop_rounds 2 ?_
 rw [rounds_succ]
 go_wp2_with fail
 go_region
 obtain ⟨W1, hW1⟩ : ∃ W1, W1 = W.drew := ⟨_, rfl⟩
 rw [← hW1]
 have hb1 : Below W.heap.size W W1 := by rw [hW1]; exact (Below.refl _ _).drew
 clear hW1 x0 x1 e0 e1 e2 e3 e4 y0 y1 f1 f3 h0 h1 h2 h3 h4 hlt
 have R1 := zh (jaf R1.out hb1)
 have R2 := zh (jaf R2.out hb1)
 have R3 := zh (jaf R3.out hb1)
 have LA := zh (LA.out.on hb1)
 have OV := zh ((OV.out.below hb1).lower (B' := n + 1 + 1 + 1) (by have := HS.out; omega))
 have B := zh (B.out.trans (hb1.mono B.out.size))
 have HS : Hid (n + 1 + 1 + 1 ≤ W1.heap.size) := by show _ ≤ _; have := hb1.size; have := HS.out; omega
 clear hb1
 obtain ⟨x0, x1, e0, e1, e2, e3, e4, y0, y1, f1, f3⟩ := PF.out W1 R1.out R2.out R3.out
 obtain ⟨h0, h1, h2, h3, h4, hlt⟩ := LA.out
 go_wp2_with (at_builtin; refine jad Bk.leC_len Bk.leC_one Tryz.underlying29 jkc rfl (by omega) rfl (.tmp 28) (.tmp 30) rfl (n + 1 + 1 + 1) v0 [] rfl OV.out l' rfl (by decide) (by decide) HS.out ?_; intro v3 w3 ho3 hb3 hg3 _; obtain ⟨A3, k3, rfl⟩ : ∃ A c, v3 = .slice A 1 c := ho3.form; have O3 := zh ho3; have B3 := zh hb3; clear ho3 hb3 hg3 x0 x1 e0 e1 e2 e3 e4 y0 y1 f1 f3 h0 h1 h2 h3 h4 hlt; have r1 := (B3.out.block n (by omega)).trans R1.out; have r2 := (B3.out.block (n + 1) (by omega)).trans R2.out; have r3 := (B3.out.block (n + 1 + 1) (by omega)).trans R3.out; obtain ⟨x0, x1, e0, e1, e2, e3, e4, y0, y1, f1, f3⟩ := PF.out w3 r1 r2 r3; clear r1 r2 r3; obtain ⟨h0, h1, h2, h3, h4, hlt⟩ := LA.out.low B3.out (by have := LL.out; have := NB.out; omega))
 go_region
 go_wp2_with fail
 rw [rounds_succ]
 go_wp2_with fail
 exact bodyPost_ret (v := rlT m A3 1 k3) (by simp [results, Tryz.results147, go_sem, x0, x1, y0, y1, f1, f3]) rfl ⟨A3, k3, rfl, (O3.out.keep (fun k hk => by
  have := (O3.out.lt k hk).1
  have := HS.out
  show (World.setCell _ _ _).heap[k]? = _
  rw [Below.heap_setCell _ _ _ _ (by simp; omega), Below.heap_setCell _ _ _ _ (by simp; omega), Below.heap_setCell _ _ _ _ (by simp; omega)])).sl, (((B.out.trans (B3.out.mono (by have := NB.out; omega))).drew.setCell NB.out _).setCell (by have := NB.out; show w.heap.size ≤ n + 1 + 1; omega) _).setCell (by have := NB.out; show w.heap.size ≤ n + 1 + 1; omega) _, fun b' o' e => by
  have h1 := (O3.out.lt b' (by rw [e]; rfl)).1
  have h2 := NB.out
  have h3 := HS.out
  omega⟩
end Go.Proofs.YtnacjhnfkkddcaaGreatDoor
