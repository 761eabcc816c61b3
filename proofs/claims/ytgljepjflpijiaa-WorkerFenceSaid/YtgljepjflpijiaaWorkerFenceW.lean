/-
  WorkerFence. Written by wip/tools/gen/wkfence.py. No condition.
-/
import Derived.Test.YtgljepjflpijiaaWkLaw0
import Derived.Test.YtgljepjflpijiaaWkPure2
import Derived.Lib.MinMax
namespace Go.Proofs.Ytgljepjflpijiaa
open Go.RowKit Go.Deep
set_option linter.unusedSimpArgs false
set_option linter.unusedVariables false
set_option maxRecDepth 100000

theorem WIn.cell {L : WkP} (hC : WC L) {w0 W : World} {F : Nat → Prop} {q : Nat} {s : Wk.W} (h : WIn L w0 F q s W) {g : Nat} (hg : F g) (h0 : w0.heap.size ≤ g) (k : Nat) (v : Value) : WIn L w0 F q s (W.setCell ⟨g, k, none⟩ v) := by
  obtain ⟨X, h1, h2, h3, h4⟩ := h
  have hz : (W.setCell ⟨g, k, none⟩ v).heap.size = W.heap.size := by simp [World.setCell]
  exact ⟨X, hC.keep _ _ _ _ _ h1 (by omega) fun i hi => Below.heap_setCell _ _ _ _ (fun e => (h3 g hg).1 (by have e' : i = g := (by first | exact e | exact e.symm); exact e' ▸ hi)), h2, fun b hb => ⟨(h3 b hb).1, by rw [hz]; exact (h3 b hb).2⟩, h4.setCell h0 v⟩
theorem msg_on {w w' : World} {b o : Nat} {cs : List Value} (h : w.rangeAt b o cs) (hb : w'.heap[b]? = w.heap[b]?) : w'.rangeAt b o cs := fun j v hv => (World.cell?_of_block hb).trans (h j v hv)
theorem Nt.good_command (m : Nt.M) : Nt.right ⟨1, (Nt.good m).e, (Nt.good m).s, (Nt.good m).u, (Nt.good m).v, (Nt.good m).t⟩ = true := by
  obtain ⟨h1, h2, h3, h4, h5⟩ : 0 ≤ (Nt.good m).e ∧ 0 ≤ (Nt.good m).s ∧ 0 ≤ (Nt.good m).u ∧ 0 ≤ (Nt.good m).v ∧ 0 ≤ (Nt.good m).t := by unfold Nt.good; simp only; omega
  generalize Nt.good m = y at *
  unfold Nt.right Nt.mn
  simp only [Bool.and_eq_true, Bool.or_eq_true, decide_eq_true_eq]
  exact ⟨.inl (by first | exact trivial | rfl), by show (0 : Int) ≤ min (min (min (min y.e y.s) y.u) y.v) y.t; omega⟩
set_option maxHeartbeats 12800000 in
theorem wkfence_walk {L : WkP} (hC : WC L) (A : Option Addr) (k c : Nat) (l : List Nt.M) (W : World) (hs : SlM W A k c l) : Calls Try.prog 4 #[.slice A k c] W (WkAns (.bool true) W) := by
  have CL := Lib.hid (fun W => wklives_any hC W)
  have HOK : Wk.mayNew 0 1 := by unfold Wk.mayNew; omega
  have C1 := Lib.hid (fun w (hb : Below W.heap.size W w) => win_make (n := 0) (many := 1) (F := fun _ => False) hC (by unfold Nt.i64; omega) (by unfold Nt.i64; omega) HOK hb (fun _ h => h.elim))
  have B := Lib.hid (Below.refl W.heap.size W)
  have HC := Lib.hid hC
  have SW := Lib.hid hs
  have KL := hs.1.len
  have KC := hs.1.cap
  have KM := hs.1.max
  unfold maxLen at KM
  clear hC hs HOK
  go_enter Try.func4, Try.ntmps4
  go_upto_region 4 with (first
    | (go_at_call 9; (with_reducible refine (CL.out _).mono ?_); rintro e w2 ⟨rfl, hb⟩; replace B := Lib.hid (B.out.trans (hb.mono B.out.size)); clear hb)
    | (go_at_call 10; (with_reducible refine (C1.out _ B.out).mono ?_); rintro e w3 ⟨q, rfl, hi, hb⟩; have I := Lib.hid hi; clear hb hi))
  have NM : Hid ((Wk.new 0 1).n = 0 ∧ (Wk.new 0 1).many = 1) := ⟨rfl, rfl⟩
  generalize Wk.new 0 1 = r0 at *
  clear B
  go_wp2_with fail
  go_loopw [5] (fun i wr => ∃ (j : Nat) (x : Wk.W), i = .int .i64 (j : Nat) ∧ j ≤ 60 ∧ j ≤ k ∧ WIn L W (fun _ => False) q x wr ∧ x.n = 0 ∧ x.many = 1) (fun i wr => k - (intOf i).toNat)
  case atStart => exact ⟨0, r0, rfl, by omega, by omega, I.out, NM.out.1, NM.out.2⟩
  case round =>
    obtain ⟨j, x, rfl, hj60, hjk, hi, hn0, hm1⟩ := hrel
    replace I := Lib.hid hi
    replace NM : Hid (x.n = 0 ∧ x.many = 1) := ⟨hn0, hm1⟩
    clear hi hn0 hm1
    have q0 : (0 : Int) ≤ (j : Int) := by omega
    have q1 : ((j : Nat) : Int) ≤ 60 := by omega
    by_cases hlt : j < k
    · by_cases h60 : j < 60
      · have hjl : j < l.length := by rw [← KL]; exact hlt
        obtain ⟨bq, oq, rfl, hbl, hrg⟩ := nt_range SW.out.1 (List.getElem?_eq_getElem hjl)
        generalize l[j] = m0 at *
        have MR := Lib.hid (msg_on hrg (I.out.below.block _ hbl))
        have CG := Lib.hid (fun W => rtgood_any m0 W)
        have GK := Lib.hid (Nt.good_command m0)
        have GI := Lib.hid (Nt.good_in m0)
        have GU := Lib.hid (Nt.good_u m0)
        generalize Nt.good m0 = y at *
        have q2 : ((j : Nat) : Int) < ((k : Nat) : Int) := by omega
        have q3 : ((j : Nat) : Int) < 60 := by omega
        clear hbl hrg hjl
        go_upto_region 8 with (first
          | ((with_reducible show wpList _ _ _ ({ dst := some 32, op := .load _ _, type := _, pos := _, after := _, guard := _ } :: _) _ _); refine wpList_load_msg rfl (.tmp 31) rfl bq (oq + j * 6) rfl m0 MR.out ?_)
          | (go_at_call 14; (with_reducible refine (CG.out _).mono ?_); rintro e w2 ⟨rfl, hb⟩; replace I := Lib.hid (I.out.on HC.out hb); clear hb))
        have hb := (Below.refl w2.heap.size w2).alloc (Nat.le_refl _) (.cells #[.int .i64 y.k, .int .i64 y.e, .int .i64 y.s, .int .i64 y.u, .int .i64 y.v, .int .i64 y.t] 38)
        have J2 := I.out.more HC.out hb
        have N := Lib.hid (NtAt.new w2 y)
        unfold Nt.cs at N
        have hz2 : (w2.alloc (.cells #[.int .i64 y.k, .int .i64 y.e, .int .i64 y.s, .int .i64 y.u, .int .i64 y.v, .int .i64 y.t] 38)).heap.size = w2.heap.size + 1 := by simp
        obtain ⟨g6, hg6⟩ : ∃ g, g = w2.heap.size := ⟨_, rfl⟩
        have G6 : Hid (W.heap.size ≤ g6) := by have := I.out.below.size; show _ ≤ _; omega
        replace I := Lib.hid (J2.less (G := fun b => b = g6) (fun b e => .inr ⟨by omega, by omega⟩))
        rw [← hg6] at N ⊢
        clear hb J2 hz2 hg6
        generalize w2.alloc (.cells #[.int .i64 y.k, .int .i64 y.e, .int .i64 y.s, .int .i64 y.u, .int .i64 y.v, .int .i64 y.t] 38) = w3 at *
        obtain ⟨y0, y1, y2, y3, y4, y5, yl⟩ := N.out.cs
        have fz : ∀ i, w3.frozen? ⟨g6, i, none⟩ = false := fun i => frozen_of_row _ _ _ _ _ N.out.row
        go_upto_region 9 with fail
        obtain ⟨m, hm⟩ : ∃ m : Nt.M, m = ⟨1, y.e, y.s, y.u, y.v, y.t⟩ := ⟨_, rfl⟩
        have N4 : NtAt (w3.setCell ⟨g6, 0, none⟩ (.int .i64 1)) g6 m := by rw [hm]; exact ⟨heap_setCell_same w3 g6 0 _ _ _ N.out.row⟩
        replace I := Lib.hid (I.out.cell HC.out (g := g6) rfl G6.out 0 (.int .i64 1))
        replace N := Lib.hid N4
        have MI : Hid (Nt.In m) := by show Nt.In m; rw [hm]; exact ⟨by show Nt.i64 1; decide, GI.out.e, GI.out.s, GI.out.u, GI.out.v, GI.out.t⟩
        have FN := Lib.hid (Wk.fence (x := x) (m := m) (u := m.u.toNat) NM.out.1 NM.out.2 (by rw [hm]; exact GK.out) (by rw [hm]) (by rw [hm]; have := GU.out; show y.u = ((y.u.toNat : Nat) : Int); omega) (by rw [hm]; have := GU.out; show y.u.toNat < 16; omega))
        have OW := Lib.hid (Wk.own_all NM.out.1 NM.out.2 (u := m.u) (by rw [hm]; exact GU.out.1) (by rw [hm]; have := GU.out; show y.u ≤ 15; omega))
        clear y0 y1 y2 y3 y4 y5 yl fz N4 hm
        generalize w3.setCell ⟨g6, 0, none⟩ (.int .i64 1) = w4 at *
        have NM1 : Hid ((Wk.applyS x m).n = 0 ∧ (Wk.applyS x m).many = 1) := ⟨(Wk.applyS_nm x m).1.trans NM.out.1, (Wk.applyS_nm x m).2.trans NM.out.2⟩
        have NM2 : Hid ((Wk.applyS (Wk.applyS x m) m).n = 0 ∧ (Wk.applyS (Wk.applyS x m) m).many = 1) := ⟨(Wk.applyS_nm _ m).1.trans NM1.out.1, (Wk.applyS_nm _ m).2.trans NM1.out.2⟩
        have K1 := Lib.hid (fun F w (h : WIn L W F q x w) => win_seen HC.out h)
        have K2 := Lib.hid (fun F w (h : WIn L W F q x w) => win_slot HC.out h MI.out.u)
        have K3 := Lib.hid (fun F w (h : WIn L W F q x w) => win_apply HC.out h MI.out)
        have K4 := Lib.hid (fun F w (h : WIn L W F q (Wk.applyS x m) w) => win_slot HC.out h MI.out.u)
        have K5 := Lib.hid (fun F w (h : WIn L W F q (Wk.applyS x m) w) => win_seen HC.out h)
        have K6 := Lib.hid (fun F w (h : WIn L W F q (Wk.applyS x m) w) => win_apply HC.out h MI.out)
        have K7 := Lib.hid (fun F w (h : WIn L W F q (Wk.applyS (Wk.applyS x m) m) w) => win_seen HC.out h)
        have E2 : Wk.slotOf x m.u = x.l m.u.toNat := if_pos OW.out
        have OW1 : Wk.own (Wk.applyS x m) m.u := (Wk.own_of (s := x) (t := Wk.applyS x m) (Wk.applyS_nm x m).1 (Wk.applyS_nm x m).2 m.u).2 OW.out
        have E4 : Wk.slotOf (Wk.applyS x m) m.u = (Wk.applyS x m).l m.u.toNat := if_pos OW1
        rw [E2, decide_eq_true OW.out] at K2
        rw [E4, decide_eq_true OW1] at K4
        rw [FN.out.seen] at K5
        rw [FN.out.seen2] at K7
        have F1 := Lib.hid FN.out.e
        have F2 := Lib.hid FN.out.same
        have F4 := Lib.hid FN.out.done
        have F5 := Lib.hid FN.out.again
        clear E2 E4 OW1 OW FN MI NM NM1
        generalize Wk.applyE x m = e1 at *
        generalize Wk.applyE (Wk.applyS x m) m = e2 at *
        generalize Wk.applyS (Wk.applyS x m) m = x2 at *
        generalize Wk.applyS x m = x1 at *
        generalize x.l m.u.toNat = s at *
        generalize x1.l m.u.toNat = t at *
        generalize x.seen = sn at *
        unfold suV suC at K2 K4
        obtain ⟨y0, y1, y2, y3, y4, y5, yl⟩ := N.out.cs
        go_upto_region 10 with (go_at_call 15; (with_reducible refine (K1.out _ _ I.out).mono ?_); rintro e w5 ⟨rfl, hb⟩; replace I := Lib.hid (I.out.on HC.out hb); replace N := Lib.hid (N.out.on hb); clear hb y0 y1 y2 y3 y4 y5 yl; obtain ⟨y0, y1, y2, y3, y4, y5, yl⟩ := N.out.cs)
        go_upto_region 11 with (go_at_call 16; (with_reducible refine (K2.out _ _ I.out).mono ?_); rintro e w6 ⟨rfl, hb⟩; replace I := Lib.hid (I.out.on HC.out hb); replace N := Lib.hid (N.out.on hb); clear hb y0 y1 y2 y3 y4 y5 yl)
        have hb := (Below.refl w6.heap.size w6).alloc (Nat.le_refl _) (.cells #[.int .i64 s.st, .int .i64 s.v, .int .i64 s.wa, .int .i64 s.sq] 46)
        have J2 := I.out.more HC.out hb
        have S8 := Lib.hid (SuAt.new 46 w6 s)
        unfold suC at S8
        have hz2 : (w6.alloc (.cells #[.int .i64 s.st, .int .i64 s.v, .int .i64 s.wa, .int .i64 s.sq] 46)).heap.size = w6.heap.size + 1 := by simp
        replace N := Lib.hid (N.out.on hb)
        obtain ⟨g8, hg8⟩ : ∃ g, g = w6.heap.size := ⟨_, rfl⟩
        replace I := Lib.hid (J2.less (G := fun b => b = g6 ∨ b = g8) (fun b e => e.elim .inl fun e => .inr ⟨by omega, by omega⟩))
        rw [← hg8] at S8 ⊢
        clear hb J2 hz2 hg8
        generalize w6.alloc (.cells #[.int .i64 s.st, .int .i64 s.v, .int .i64 s.wa, .int .i64 s.sq] 46) = w7 at *
        go_upto_region 12 with (first
          | ((with_reducible show wpList _ _ _ ({ dst := some 45, op := .load _ _, type := _, pos := _, after := _, guard := _ } :: _) _ _); refine wpList_load_msg rfl (.tmp 6) rfl g6 0 rfl m N.out.range ?_)
          | (go_at_call 17; (with_reducible refine (K3.out _ _ I.out).mono ?_); rintro e w8 ⟨rfl, hi, hk⟩; replace I := Lib.hid hi; replace N := Lib.hid (N.out.keep (hk _ (.inl rfl))); replace S8 : Hid (SuAt 46 w8 g8 s) := (hk _ (.inr rfl)).trans S8.out; clear hi hk))
        obtain ⟨y0, y1, y2, y3, y4, y5, yl⟩ := N.out.cs
        go_upto_region 13 with (go_at_call 16; (with_reducible refine (K4.out _ _ I.out).mono ?_); rintro e w9 ⟨rfl, hb⟩; replace I := Lib.hid (I.out.on HC.out hb); replace N := Lib.hid (N.out.on hb); replace S8 := Lib.hid (S8.out.on hb); clear hb y0 y1 y2 y3 y4 y5 yl)
        have hb := (Below.refl w9.heap.size w9).alloc (Nat.le_refl _) (.cells #[.int .i64 t.st, .int .i64 t.v, .int .i64 t.wa, .int .i64 t.sq] 46)
        have J2 := I.out.more HC.out hb
        have S11 := Lib.hid (SuAt.new 46 w9 t)
        unfold suC at S11
        have hz2 : (w9.alloc (.cells #[.int .i64 t.st, .int .i64 t.v, .int .i64 t.wa, .int .i64 t.sq] 46)).heap.size = w9.heap.size + 1 := by simp
        replace N := Lib.hid (N.out.on hb)
        replace S8 := Lib.hid (S8.out.on hb)
        obtain ⟨g11, hg11⟩ : ∃ g, g = w9.heap.size := ⟨_, rfl⟩
        replace I := Lib.hid (J2.less (G := fun b => b = g6) (fun b e => .inl (.inl e)))
        rw [← hg11] at S11 ⊢
        clear hb J2 hz2 hg11
        generalize w9.alloc (.cells #[.int .i64 t.st, .int .i64 t.v, .int .i64 t.wa, .int .i64 t.sq] 46) = w10 at *
        have hmax := @Go.Lib.run_max_ints Try.prog
        rcases F1.out with ⟨rfl, h8⟩ | ⟨rfl, h8⟩ | ⟨rfl, h8⟩
        · obtain rfl : t = s := F2.out (by omega)
          clear F1 F2 F4
          refine wp_region_held_drew (S := fun V => Below w10.heap.size w10 V) (by kernel_rfl) (Below.refl w10.heap.size w10).drew (fun hS => ?_)
          refine tkYes 0 (v := ?_) rfl (by kernel_rfl) (fun _ _ _ h => h) rfl ?_ hS ?_
          rotate_left
          · intro W hW; go_simp; (try with_reducible rfl)
          simp only [Act.put, List.setIfInBounds_toArray, List.set_cons_zero, List.set_cons_succ]
          refine tkYes 1 (v := ?_) rfl (by kernel_rfl) (fun _ _ _ h => h) rfl ?_ hS ?_
          rotate_left
          · intro W hW; go_simp; (try with_reducible rfl)
          simp only [Act.put, List.setIfInBounds_toArray, List.set_cons_zero, List.set_cons_succ]
          refine tkYes 2 (v := ?_) rfl (by kernel_rfl) (fun _ _ _ h => h) rfl ?_ hS ?_
          rotate_left
          · intro W hW; go_simp; (try with_reducible rfl)
          simp only [Act.put, List.setIfInBounds_toArray, List.set_cons_zero, List.set_cons_succ]
          refine tkYes 3 (v := ?_) rfl (by kernel_rfl) (fun _ _ _ h => h) rfl ?_ hS ?_
          rotate_left
          · intro W hW; obtain ⟨y0, y1, y2, y3, y4, y5, yl⟩ := (N.out.on hW).cs; go_simp; (try with_reducible rfl)
          simp only [Act.put, List.setIfInBounds_toArray, List.set_cons_zero, List.set_cons_succ]
          refine tkYes 4 (v := ?_) rfl (by kernel_rfl) (fun _ _ _ h => h) rfl ?_ hS ?_
          rotate_left
          · intro W hW; go_simp; (try with_reducible rfl)
          simp only [Act.put, List.setIfInBounds_toArray, List.set_cons_zero, List.set_cons_succ]
          refine tkYes 5 (v := ?_) rfl (by kernel_rfl) (fun _ _ _ h => h) rfl ?_ hS ?_
          rotate_left
          · intro W hW; go_simp; (try with_reducible rfl)
          simp only [Act.put, List.setIfInBounds_toArray, List.set_cons_zero, List.set_cons_succ]
          refine tkYes 6 (v := ?_) rfl (by kernel_rfl) (fun _ _ _ h => h) rfl ?_ hS ?_
          rotate_left
          · intro W hW; go_simp; (try with_reducible rfl)
          simp only [Act.put, List.setIfInBounds_toArray, List.set_cons_zero, List.set_cons_succ]
          refine tkYes 7 (v := ?_) rfl (by kernel_rfl) (fun _ _ _ h => h) rfl ?_ hS ?_
          rotate_left
          · intro W hW; go_simp; (try with_reducible rfl)
          simp only [Act.put, List.setIfInBounds_toArray, List.set_cons_zero, List.set_cons_succ]
          refine tkYes 8 (v := ?_) rfl (by kernel_rfl) (fun _ _ _ h => h) rfl ?_ hS ?_
          rotate_left
          · intro W hW; go_simp; (try with_reducible rfl)
          simp only [Act.put, List.setIfInBounds_toArray, List.set_cons_zero, List.set_cons_succ]
          refine tkYes 9 (v := ?_) rfl (by kernel_rfl) (fun _ _ _ h => h) rfl ?_ hS ?_
          rotate_left
          · intro W hW; go_simp; (try with_reducible rfl)
          simp only [Act.put, List.setIfInBounds_toArray, List.set_cons_zero, List.set_cons_succ]
          refine tkYes 10 (v := ?_) rfl (by kernel_rfl) (fun _ _ _ h => h) rfl ?_ hS ?_
          rotate_left
          · intro W hW; go_simp; (try with_reducible rfl)
          simp only [Act.put, List.setIfInBounds_toArray, List.set_cons_zero, List.set_cons_succ]
          refine tkYes 11 (v := ?_) rfl (by kernel_rfl) (fun _ _ _ h => h) rfl ?_ hS ?_
          rotate_left
          · intro W hW; obtain ⟨d0, d1, d2, d3, dl⟩ := (S8.out.on hW).cells; go_simp; (try with_reducible rfl)
          simp only [Act.put, List.setIfInBounds_toArray, List.set_cons_zero, List.set_cons_succ]
          refine tkYes 12 (v := ?_) rfl (by kernel_rfl) (fun _ _ _ h => h) rfl ?_ hS ?_
          rotate_left
          · intro W hW; obtain ⟨d0, d1, d2, d3, dl⟩ := (S11.out.on hW).cells; go_simp; (try with_reducible rfl)
          simp only [Act.put, List.setIfInBounds_toArray, List.set_cons_zero, List.set_cons_succ]
          refine tkYes 13 (v := ?_) rfl (by kernel_rfl) (fun _ _ _ h => h) rfl ?_ hS ?_
          rotate_left
          · intro W hW; have e9 := fun W => slot_neq (a := t) (b := t) (x := false) (by simp) W; unfold suV suC at e9; go_simp; (try with_reducible rfl)
          simp only [Act.put, List.setIfInBounds_toArray, List.set_cons_zero, List.set_cons_succ]
          refine tkYes 14 (v := ?_) rfl (by kernel_rfl) (fun _ _ _ h => h) rfl ?_ hS ?_
          rotate_left
          · intro W hW; go_simp; (try with_reducible rfl)
          simp only [Act.put, List.setIfInBounds_toArray, List.set_cons_zero, List.set_cons_succ]
          refine tkYes 15 (v := ?_) rfl (by kernel_rfl) (fun _ _ _ h => h) rfl ?_ hS ?_
          rotate_left
          · intro W hW; go_simp; (try with_reducible rfl)
          simp only [Act.put, List.setIfInBounds_toArray, List.set_cons_zero, List.set_cons_succ]
          refine tkYes 16 (v := ?_) rfl (by kernel_rfl) (fun _ _ _ h => h) rfl ?_ hS ?_
          rotate_left
          · intro W hW; go_simp; (try with_reducible rfl)
          simp only [Act.put, List.setIfInBounds_toArray, List.set_cons_zero, List.set_cons_succ]
          refine tkYes 17 (v := ?_) rfl (by kernel_rfl) (fun _ _ _ h => h) rfl ?_ hS ?_
          rotate_left
          · intro W hW; go_simp; (try with_reducible rfl)
          simp only [Act.put, List.setIfInBounds_toArray, List.set_cons_zero, List.set_cons_succ]
          refine tkYes 19 (v := ?_) rfl (by kernel_rfl) (fun _ _ _ h => h) rfl ?_ hS ?_
          rotate_left
          · intro W hW; go_simp; (try with_reducible rfl)
          simp only [Act.put, List.setIfInBounds_toArray, List.set_cons_zero, List.set_cons_succ]
          refine tkYes 20 (v := ?_) rfl (by kernel_rfl) (fun _ _ _ h => h) rfl ?_ hS ?_
          rotate_left
          · intro W hW; go_simp; (try with_reducible rfl)
          simp only [Act.put, List.setIfInBounds_toArray, List.set_cons_zero, List.set_cons_succ]
          refine tkYes 21 (v := ?_) rfl (by kernel_rfl) (fun _ _ _ h => h) rfl ?_ hS ?_
          rotate_left
          · intro W hW; obtain ⟨y0, y1, y2, y3, y4, y5, yl⟩ := (N.out.on hW).cs; go_simp; (try with_reducible rfl)
          simp only [Act.put, List.setIfInBounds_toArray, List.set_cons_zero, List.set_cons_succ]
          refine tkYes 22 (v := ?_) rfl (by kernel_rfl) (fun _ _ _ h => h) rfl ?_ hS ?_
          rotate_left
          · intro W hW; go_simp; (try with_reducible rfl)
          simp only [Act.put, List.setIfInBounds_toArray, List.set_cons_zero, List.set_cons_succ]
          refine rnOne 18 rfl (by kernel_rfl) rfl (fun K hK => ?_)
          go_simp
          with_reducible refine (K5.out _ _ (I.out.on HC.out hS)).mono ?_
          rintro e w11 ⟨rfl, hb⟩
          replace hS := hS.trans (hb.mono hS.size)
          clear hb
          try go_simp
          refine hK.out _ _ hS (fun _ => ?_)
          clear hK K
          try simp only [Act.put, List.setIfInBounds_toArray, List.set_cons_zero, List.set_cons_succ]
          refine tkYes 23 (v := ?_) rfl (by kernel_rfl) (fun _ _ _ h => h) rfl ?_ hS ?_
          rotate_left
          · intro W hW; go_simp; (try with_reducible rfl)
          simp only [Act.put, List.setIfInBounds_toArray, List.set_cons_zero, List.set_cons_succ]
          refine tkYes 24 (v := ?_) rfl (by kernel_rfl) (fun _ _ _ h => h) rfl ?_ hS ?_
          rotate_left
          · intro W hW; go_simp; (try with_reducible rfl)
          simp only [Act.put, List.setIfInBounds_toArray, List.set_cons_zero, List.set_cons_succ]
          refine tkYes 25 (v := ?_) rfl (by kernel_rfl) (fun _ _ _ h => h) rfl ?_ hS ?_
          rotate_left
          · intro W hW; go_simp; (try with_reducible rfl)
          simp only [Act.put, List.setIfInBounds_toArray, List.set_cons_zero, List.set_cons_succ]
          refine tkYes 26 (v := ?_) rfl (by kernel_rfl) (fun _ _ _ h => h) rfl ?_ hS ?_
          rotate_left
          · intro W hW; go_simp; (try with_reducible rfl)
          simp only [Act.put, List.setIfInBounds_toArray, List.set_cons_zero, List.set_cons_succ]
          refine tkYes 27 (v := ?_) rfl (by kernel_rfl) (fun _ _ _ h => h) rfl ?_ hS ?_
          rotate_left
          · intro W hW; go_simp; (try with_reducible rfl)
          simp only [Act.put, List.setIfInBounds_toArray, List.set_cons_zero, List.set_cons_succ]
          refine tkYes 28 (v := ?_) rfl (by kernel_rfl) (fun _ _ _ h => h) rfl ?_ hS ?_
          rotate_left
          · intro W hW; go_simp; (try with_reducible rfl)
          simp only [Act.put, List.setIfInBounds_toArray, List.set_cons_zero, List.set_cons_succ]
          refine tkNo 29 rfl (by kernel_rfl) (fun _ _ _ h => h) rfl hS ?_
          simp only [Act.put, List.setIfInBounds_toArray, List.set_cons_zero, List.set_cons_succ]
          refine tkNo 30 rfl (by kernel_rfl) (fun _ _ _ h => h) rfl hS ?_
          simp only [Act.put, List.setIfInBounds_toArray, List.set_cons_zero, List.set_cons_succ]
          refine tkNo 31 rfl (by kernel_rfl) (fun _ _ _ h => h) rfl hS ?_
          simp only [Act.put, List.setIfInBounds_toArray, List.set_cons_zero, List.set_cons_succ]
          refine tkNo 32 rfl (by kernel_rfl) (fun _ _ _ h => h) rfl hS ?_
          simp only [Act.put, List.setIfInBounds_toArray, List.set_cons_zero, List.set_cons_succ]
          refine tkNo 33 rfl (by kernel_rfl) (fun _ _ _ h => h) rfl hS ?_
          simp only [Act.put, List.setIfInBounds_toArray, List.set_cons_zero, List.set_cons_succ]
          refine tkNo 34 rfl (by kernel_rfl) (fun _ _ _ h => h) rfl hS ?_
          simp only [Act.put, List.setIfInBounds_toArray, List.set_cons_zero, List.set_cons_succ]
          refine tkNo 35 rfl (by kernel_rfl) (fun _ _ _ h => h) rfl hS ?_
          simp only [Act.put, List.setIfInBounds_toArray, List.set_cons_zero, List.set_cons_succ]
          refine tkNo 36 rfl (by kernel_rfl) (fun _ _ _ h => h) rfl hS ?_
          simp only [Act.put, List.setIfInBounds_toArray, List.set_cons_zero, List.set_cons_succ]
          refine tkNo 37 rfl (by kernel_rfl) (fun _ _ _ h => h) rfl hS ?_
          simp only [Act.put, List.setIfInBounds_toArray, List.set_cons_zero, List.set_cons_succ]
          refine tkNo 38 rfl (by kernel_rfl) (fun _ _ _ h => h) rfl hS ?_
          simp only [Act.put, List.setIfInBounds_toArray, List.set_cons_zero, List.set_cons_succ]
          refine tkNo 39 rfl (by kernel_rfl) (fun _ _ _ h => h) rfl hS ?_
          simp only [Act.put, List.setIfInBounds_toArray, List.set_cons_zero, List.set_cons_succ]
          refine tkNo 40 rfl (by kernel_rfl) (fun _ _ _ h => h) rfl hS ?_
          simp only [Act.put, List.setIfInBounds_toArray, List.set_cons_zero, List.set_cons_succ]
          refine tkYes 41 (v := ?_) rfl (by kernel_rfl) (fun _ _ _ h => h) rfl ?_ hS ?_
          rotate_left
          · intro W hW; go_simp; (try with_reducible rfl)
          simp only [Act.put, List.setIfInBounds_toArray, List.set_cons_zero, List.set_cons_succ]
          refine tkYes 42 (v := ?_) rfl (by kernel_rfl) (fun _ _ _ h => h) rfl ?_ hS ?_
          rotate_left
          · intro W hW; go_simp; (try with_reducible rfl)
          simp only [Act.put, List.setIfInBounds_toArray, List.set_cons_zero, List.set_cons_succ]
          refine wpAnyH_done (by kernel_rfl) ?_ _
          go_upto_region 15 with fail
          replace I := Lib.hid (I.out.on HC.out hS)
          replace N := Lib.hid (N.out.on hS)
          clear hS
          refine wp_region_held_drew (S := fun V => NtAt V g6 m) (by kernel_rfl) (N.out.on (Below.refl _ _).drew) (fun hS => ?_)
          replace I := Lib.hid (I.out.on HC.out (Below.refl w11.heap.size w11).drew)
          obtain ⟨w12, hw12⟩ : ∃ w12, w12 = w11.drew := ⟨_, rfl⟩
          rw [← hw12] at I hS ⊢
          clear hw12 N
          rcases F5.out with rfl | rfl
          · refine tkYes 0 (v := ?_) rfl (by kernel_rfl) (fun _ _ _ h => h) rfl ?_ hS ?_
            rotate_left
            · intro W hW; go_simp; (try with_reducible rfl)
            simp only [Act.put, List.setIfInBounds_toArray, List.set_cons_zero, List.set_cons_succ]
            refine tkYes 1 (v := Nt.val m) rfl (by kernel_rfl) (fun _ _ _ h => h) rfl (fun W hW => take_msg (.tmp 6) rfl g6 0 m rfl hW.range) hS ?_
            simp only [Act.put, List.setIfInBounds_toArray, List.set_cons_zero, List.set_cons_succ]
            refine rnOne 2 rfl (by kernel_rfl) rfl (fun K hK => ?_)
            go_simp
            with_reducible refine (K6.out _ _ I.out).mono ?_
            rintro e w13 ⟨rfl, hi, hk⟩
            replace I := Lib.hid hi
            replace hS := hS.keep (hk _ rfl)
            clear hi hk
            try go_simp
            refine hK.out _ _ hS (fun _ => ?_)
            clear hK K
            try simp only [Act.put, List.setIfInBounds_toArray, List.set_cons_zero, List.set_cons_succ]
            refine tkYes 3 (v := ?_) rfl (by kernel_rfl) (fun _ _ _ h => h) rfl ?_ hS ?_
            rotate_left
            · intro W hW; go_simp; (try with_reducible rfl)
            simp only [Act.put, List.setIfInBounds_toArray, List.set_cons_zero, List.set_cons_succ]
            refine tkYes 4 (v := ?_) rfl (by kernel_rfl) (fun _ _ _ h => h) rfl ?_ hS ?_
            rotate_left
            · intro W hW; go_simp; (try with_reducible rfl)
            simp only [Act.put, List.setIfInBounds_toArray, List.set_cons_zero, List.set_cons_succ]
            refine tkYes 5 (v := ?_) rfl (by kernel_rfl) (fun _ _ _ h => h) rfl ?_ hS ?_
            rotate_left
            · intro W hW; go_simp; (try with_reducible rfl)
            simp only [Act.put, List.setIfInBounds_toArray, List.set_cons_zero, List.set_cons_succ]
            refine tkYes 7 (v := ?_) rfl (by kernel_rfl) (fun _ _ _ h => h) rfl ?_ hS ?_
            rotate_left
            · intro W hW; go_simp; (try with_reducible rfl)
            simp only [Act.put, List.setIfInBounds_toArray, List.set_cons_zero, List.set_cons_succ]
            refine tkYes 8 (v := ?_) rfl (by kernel_rfl) (fun _ _ _ h => h) rfl ?_ hS ?_
            rotate_left
            · intro W hW; go_simp; (try with_reducible rfl)
            simp only [Act.put, List.setIfInBounds_toArray, List.set_cons_zero, List.set_cons_succ]
            refine tkYes 9 (v := ?_) rfl (by kernel_rfl) (fun _ _ _ h => h) rfl ?_ hS ?_
            rotate_left
            · intro W hW; obtain ⟨y0, y1, y2, y3, y4, y5, yl⟩ := hW.cs; go_simp; (try with_reducible rfl)
            simp only [Act.put, List.setIfInBounds_toArray, List.set_cons_zero, List.set_cons_succ]
            refine tkYes 10 (v := ?_) rfl (by kernel_rfl) (fun _ _ _ h => h) rfl ?_ hS ?_
            rotate_left
            · intro W hW; go_simp; (try with_reducible rfl)
            simp only [Act.put, List.setIfInBounds_toArray, List.set_cons_zero, List.set_cons_succ]
            refine rnOne 6 rfl (by kernel_rfl) rfl (fun K hK => ?_)
            go_simp
            with_reducible refine (K7.out _ _ I.out).mono ?_
            rintro e w14 ⟨rfl, hb⟩
            replace I := Lib.hid (I.out.on HC.out hb)
            replace hS := hS.on hb
            clear hb
            try go_simp
            refine hK.out _ _ hS (fun _ => ?_)
            clear hK K
            try simp only [Act.put, List.setIfInBounds_toArray, List.set_cons_zero, List.set_cons_succ]
            refine tkYes 11 (v := ?_) rfl (by kernel_rfl) (fun _ _ _ h => h) rfl ?_ hS ?_
            rotate_left
            · intro W hW; go_simp; (try with_reducible rfl)
            simp only [Act.put, List.setIfInBounds_toArray, List.set_cons_zero, List.set_cons_succ]
            refine tkYes 12 (v := ?_) rfl (by kernel_rfl) (fun _ _ _ h => h) rfl ?_ hS ?_
            rotate_left
            · intro W hW; go_simp; (try with_reducible rfl)
            simp only [Act.put, List.setIfInBounds_toArray, List.set_cons_zero, List.set_cons_succ]
            refine wpAnyH_done (by kernel_rfl) ?_ _
            go_wp2_with fail
            exact ⟨⟨j + 1, x2, by go_num, by omega, by omega, I.out.less (fun _ h => h.elim), NM2.out.1, NM2.out.2⟩, by simp [intOf]; omega⟩
          · refine tkYes 0 (v := ?_) rfl (by kernel_rfl) (fun _ _ _ h => h) rfl ?_ hS ?_
            rotate_left
            · intro W hW; go_simp; (try with_reducible rfl)
            simp only [Act.put, List.setIfInBounds_toArray, List.set_cons_zero, List.set_cons_succ]
            refine tkYes 1 (v := Nt.val m) rfl (by kernel_rfl) (fun _ _ _ h => h) rfl (fun W hW => take_msg (.tmp 6) rfl g6 0 m rfl hW.range) hS ?_
            simp only [Act.put, List.setIfInBounds_toArray, List.set_cons_zero, List.set_cons_succ]
            refine rnOne 2 rfl (by kernel_rfl) rfl (fun K hK => ?_)
            go_simp
            with_reducible refine (K6.out _ _ I.out).mono ?_
            rintro e w13 ⟨rfl, hi, hk⟩
            replace I := Lib.hid hi
            replace hS := hS.keep (hk _ rfl)
            clear hi hk
            try go_simp
            refine hK.out _ _ hS (fun _ => ?_)
            clear hK K
            try simp only [Act.put, List.setIfInBounds_toArray, List.set_cons_zero, List.set_cons_succ]
            refine tkYes 3 (v := ?_) rfl (by kernel_rfl) (fun _ _ _ h => h) rfl ?_ hS ?_
            rotate_left
            · intro W hW; go_simp; (try with_reducible rfl)
            simp only [Act.put, List.setIfInBounds_toArray, List.set_cons_zero, List.set_cons_succ]
            refine tkYes 4 (v := ?_) rfl (by kernel_rfl) (fun _ _ _ h => h) rfl ?_ hS ?_
            rotate_left
            · intro W hW; go_simp; (try with_reducible rfl)
            simp only [Act.put, List.setIfInBounds_toArray, List.set_cons_zero, List.set_cons_succ]
            refine tkYes 5 (v := ?_) rfl (by kernel_rfl) (fun _ _ _ h => h) rfl ?_ hS ?_
            rotate_left
            · intro W hW; go_simp; (try with_reducible rfl)
            simp only [Act.put, List.setIfInBounds_toArray, List.set_cons_zero, List.set_cons_succ]
            refine tkYes 7 (v := ?_) rfl (by kernel_rfl) (fun _ _ _ h => h) rfl ?_ hS ?_
            rotate_left
            · intro W hW; go_simp; (try with_reducible rfl)
            simp only [Act.put, List.setIfInBounds_toArray, List.set_cons_zero, List.set_cons_succ]
            refine tkYes 8 (v := ?_) rfl (by kernel_rfl) (fun _ _ _ h => h) rfl ?_ hS ?_
            rotate_left
            · intro W hW; go_simp; (try with_reducible rfl)
            simp only [Act.put, List.setIfInBounds_toArray, List.set_cons_zero, List.set_cons_succ]
            refine tkYes 9 (v := ?_) rfl (by kernel_rfl) (fun _ _ _ h => h) rfl ?_ hS ?_
            rotate_left
            · intro W hW; obtain ⟨y0, y1, y2, y3, y4, y5, yl⟩ := hW.cs; go_simp; (try with_reducible rfl)
            simp only [Act.put, List.setIfInBounds_toArray, List.set_cons_zero, List.set_cons_succ]
            refine tkYes 10 (v := ?_) rfl (by kernel_rfl) (fun _ _ _ h => h) rfl ?_ hS ?_
            rotate_left
            · intro W hW; go_simp; (try with_reducible rfl)
            simp only [Act.put, List.setIfInBounds_toArray, List.set_cons_zero, List.set_cons_succ]
            refine rnOne 6 rfl (by kernel_rfl) rfl (fun K hK => ?_)
            go_simp
            with_reducible refine (K7.out _ _ I.out).mono ?_
            rintro e w14 ⟨rfl, hb⟩
            replace I := Lib.hid (I.out.on HC.out hb)
            replace hS := hS.on hb
            clear hb
            try go_simp
            refine hK.out _ _ hS (fun _ => ?_)
            clear hK K
            try simp only [Act.put, List.setIfInBounds_toArray, List.set_cons_zero, List.set_cons_succ]
            refine tkYes 11 (v := ?_) rfl (by kernel_rfl) (fun _ _ _ h => h) rfl ?_ hS ?_
            rotate_left
            · intro W hW; go_simp; (try with_reducible rfl)
            simp only [Act.put, List.setIfInBounds_toArray, List.set_cons_zero, List.set_cons_succ]
            refine tkYes 12 (v := ?_) rfl (by kernel_rfl) (fun _ _ _ h => h) rfl ?_ hS ?_
            rotate_left
            · intro W hW; go_simp; (try with_reducible rfl)
            simp only [Act.put, List.setIfInBounds_toArray, List.set_cons_zero, List.set_cons_succ]
            refine wpAnyH_done (by kernel_rfl) ?_ _
            go_wp2_with fail
            exact ⟨⟨j + 1, x2, by go_num, by omega, by omega, I.out.less (fun _ h => h.elim), NM2.out.1, NM2.out.2⟩, by simp [intOf]; omega⟩
        · obtain ⟨F4S, F4W⟩ := F4.out rfl
          have hA : decide (m.e < sn) = false := decide_eq_false (by omega)
          clear F1 F2 F4
          refine wp_region_held_drew (S := fun V => Below w10.heap.size w10 V) (by kernel_rfl) (Below.refl w10.heap.size w10).drew (fun hS => ?_)
          refine tkYes 0 (v := ?_) rfl (by kernel_rfl) (fun _ _ _ h => h) rfl ?_ hS ?_
          rotate_left
          · intro W hW; go_simp; (try with_reducible rfl)
          simp only [Act.put, List.setIfInBounds_toArray, List.set_cons_zero, List.set_cons_succ]
          refine tkYes 1 (v := ?_) rfl (by kernel_rfl) (fun _ _ _ h => h) rfl ?_ hS ?_
          rotate_left
          · intro W hW; go_simp; (try with_reducible rfl)
          simp only [Act.put, List.setIfInBounds_toArray, List.set_cons_zero, List.set_cons_succ]
          refine tkYes 2 (v := ?_) rfl (by kernel_rfl) (fun _ _ _ h => h) rfl ?_ hS ?_
          rotate_left
          · intro W hW; go_simp; (try with_reducible rfl)
          simp only [Act.put, List.setIfInBounds_toArray, List.set_cons_zero, List.set_cons_succ]
          refine tkYes 3 (v := ?_) rfl (by kernel_rfl) (fun _ _ _ h => h) rfl ?_ hS ?_
          rotate_left
          · intro W hW; obtain ⟨y0, y1, y2, y3, y4, y5, yl⟩ := (N.out.on hW).cs; go_simp; (try with_reducible rfl)
          simp only [Act.put, List.setIfInBounds_toArray, List.set_cons_zero, List.set_cons_succ]
          refine tkYes 4 (v := ?_) rfl (by kernel_rfl) (fun _ _ _ h => h) rfl ?_ hS ?_
          rotate_left
          · intro W hW; go_simp; (try with_reducible rfl)
          simp only [Act.put, List.setIfInBounds_toArray, List.set_cons_zero, List.set_cons_succ]
          refine tkYes 5 (v := ?_) rfl (by kernel_rfl) (fun _ _ _ h => h) rfl ?_ hS ?_
          rotate_left
          · intro W hW; go_simp; (try with_reducible rfl)
          simp only [Act.put, List.setIfInBounds_toArray, List.set_cons_zero, List.set_cons_succ]
          refine tkYes 6 (v := ?_) rfl (by kernel_rfl) (fun _ _ _ h => h) rfl ?_ hS ?_
          rotate_left
          · intro W hW; go_simp; (try with_reducible rfl)
          simp only [Act.put, List.setIfInBounds_toArray, List.set_cons_zero, List.set_cons_succ]
          refine tkYes 7 (v := ?_) rfl (by kernel_rfl) (fun _ _ _ h => h) rfl ?_ hS ?_
          rotate_left
          · intro W hW; go_simp; (try with_reducible rfl)
          simp only [Act.put, List.setIfInBounds_toArray, List.set_cons_zero, List.set_cons_succ]
          refine tkYes 8 (v := ?_) rfl (by kernel_rfl) (fun _ _ _ h => h) rfl ?_ hS ?_
          rotate_left
          · intro W hW; go_simp; (try with_reducible rfl)
          simp only [Act.put, List.setIfInBounds_toArray, List.set_cons_zero, List.set_cons_succ]
          refine tkYes 9 (v := ?_) rfl (by kernel_rfl) (fun _ _ _ h => h) rfl ?_ hS ?_
          rotate_left
          · intro W hW; go_simp; (try with_reducible rfl)
          simp only [Act.put, List.setIfInBounds_toArray, List.set_cons_zero, List.set_cons_succ]
          refine tkYes 10 (v := ?_) rfl (by kernel_rfl) (fun _ _ _ h => h) rfl ?_ hS ?_
          rotate_left
          · intro W hW; go_simp; (try with_reducible rfl)
          simp only [Act.put, List.setIfInBounds_toArray, List.set_cons_zero, List.set_cons_succ]
          refine tkNo 11 rfl (by kernel_rfl) (fun _ _ _ h => h) rfl hS ?_
          simp only [Act.put, List.setIfInBounds_toArray, List.set_cons_zero, List.set_cons_succ]
          refine tkNo 12 rfl (by kernel_rfl) (fun _ _ _ h => h) rfl hS ?_
          simp only [Act.put, List.setIfInBounds_toArray, List.set_cons_zero, List.set_cons_succ]
          refine tkNo 13 rfl (by kernel_rfl) (fun _ _ _ h => h) rfl hS ?_
          simp only [Act.put, List.setIfInBounds_toArray, List.set_cons_zero, List.set_cons_succ]
          refine tkYes 14 (v := ?_) rfl (by kernel_rfl) (fun _ _ _ h => h) rfl ?_ hS ?_
          rotate_left
          · intro W hW; go_simp; (try with_reducible rfl)
          simp only [Act.put, List.setIfInBounds_toArray, List.set_cons_zero, List.set_cons_succ]
          refine tkYes 15 (v := ?_) rfl (by kernel_rfl) (fun _ _ _ h => h) rfl ?_ hS ?_
          rotate_left
          · intro W hW; go_simp; (try with_reducible rfl)
          simp only [Act.put, List.setIfInBounds_toArray, List.set_cons_zero, List.set_cons_succ]
          refine tkYes 16 (v := ?_) rfl (by kernel_rfl) (fun _ _ _ h => h) rfl ?_ hS ?_
          rotate_left
          · intro W hW; go_simp; (try with_reducible rfl)
          simp only [Act.put, List.setIfInBounds_toArray, List.set_cons_zero, List.set_cons_succ]
          refine tkYes 17 (v := ?_) rfl (by kernel_rfl) (fun _ _ _ h => h) rfl ?_ hS ?_
          rotate_left
          · intro W hW; go_simp; (try with_reducible rfl)
          simp only [Act.put, List.setIfInBounds_toArray, List.set_cons_zero, List.set_cons_succ]
          refine tkYes 19 (v := ?_) rfl (by kernel_rfl) (fun _ _ _ h => h) rfl ?_ hS ?_
          rotate_left
          · intro W hW; go_simp; (try with_reducible rfl)
          simp only [Act.put, List.setIfInBounds_toArray, List.set_cons_zero, List.set_cons_succ]
          refine tkYes 20 (v := ?_) rfl (by kernel_rfl) (fun _ _ _ h => h) rfl ?_ hS ?_
          rotate_left
          · intro W hW; go_simp; (try with_reducible rfl)
          simp only [Act.put, List.setIfInBounds_toArray, List.set_cons_zero, List.set_cons_succ]
          refine tkYes 21 (v := ?_) rfl (by kernel_rfl) (fun _ _ _ h => h) rfl ?_ hS ?_
          rotate_left
          · intro W hW; obtain ⟨y0, y1, y2, y3, y4, y5, yl⟩ := (N.out.on hW).cs; go_simp; (try with_reducible rfl)
          simp only [Act.put, List.setIfInBounds_toArray, List.set_cons_zero, List.set_cons_succ]
          refine tkYes 22 (v := ?_) rfl (by kernel_rfl) (fun _ _ _ h => h) rfl ?_ hS ?_
          rotate_left
          · intro W hW; go_simp; (try with_reducible rfl)
          simp only [Act.put, List.setIfInBounds_toArray, List.set_cons_zero, List.set_cons_succ]
          refine rnOne 18 rfl (by kernel_rfl) rfl (fun K hK => ?_)
          go_simp
          with_reducible refine (K5.out _ _ (I.out.on HC.out hS)).mono ?_
          rintro e w11 ⟨rfl, hb⟩
          replace hS := hS.trans (hb.mono hS.size)
          clear hb
          try go_simp
          refine hK.out _ _ hS (fun _ => ?_)
          clear hK K
          try simp only [Act.put, List.setIfInBounds_toArray, List.set_cons_zero, List.set_cons_succ]
          refine tkYes 23 (v := ?_) rfl (by kernel_rfl) (fun _ _ _ h => h) rfl ?_ hS ?_
          rotate_left
          · intro W hW; go_simp; (try with_reducible rfl)
          simp only [Act.put, List.setIfInBounds_toArray, List.set_cons_zero, List.set_cons_succ]
          refine tkYes 24 (v := ?_) rfl (by kernel_rfl) (fun _ _ _ h => h) rfl ?_ hS ?_
          rotate_left
          · intro W hW; go_simp; (try with_reducible rfl)
          simp only [Act.put, List.setIfInBounds_toArray, List.set_cons_zero, List.set_cons_succ]
          refine tkYes 25 (v := ?_) rfl (by kernel_rfl) (fun _ _ _ h => h) rfl ?_ hS ?_
          rotate_left
          · intro W hW; go_simp; (try with_reducible rfl)
          simp only [Act.put, List.setIfInBounds_toArray, List.set_cons_zero, List.set_cons_succ]
          refine tkYes 26 (v := ?_) rfl (by kernel_rfl) (fun _ _ _ h => h) rfl ?_ hS ?_
          rotate_left
          · intro W hW; go_simp; (try with_reducible rfl)
          simp only [Act.put, List.setIfInBounds_toArray, List.set_cons_zero, List.set_cons_succ]
          refine tkYes 27 (v := ?_) rfl (by kernel_rfl) (fun _ _ _ h => h) rfl ?_ hS ?_
          rotate_left
          · intro W hW; go_simp; (try with_reducible rfl)
          simp only [Act.put, List.setIfInBounds_toArray, List.set_cons_zero, List.set_cons_succ]
          refine tkYes 28 (v := ?_) rfl (by kernel_rfl) (fun _ _ _ h => h) rfl ?_ hS ?_
          rotate_left
          · intro W hW; go_simp; (try with_reducible rfl)
          simp only [Act.put, List.setIfInBounds_toArray, List.set_cons_zero, List.set_cons_succ]
          refine tkYes 29 (v := ?_) rfl (by kernel_rfl) (fun _ _ _ h => h) rfl ?_ hS ?_
          rotate_left
          · intro W hW; go_simp; (try with_reducible rfl)
          simp only [Act.put, List.setIfInBounds_toArray, List.set_cons_zero, List.set_cons_succ]
          refine tkYes 30 (v := ?_) rfl (by kernel_rfl) (fun _ _ _ h => h) rfl ?_ hS ?_
          rotate_left
          · intro W hW; obtain ⟨d0, d1, d2, d3, dl⟩ := (S11.out.on hW).cells; rw [F4S] at d3; go_simp; (try with_reducible rfl)
          simp only [Act.put, List.setIfInBounds_toArray, List.set_cons_zero, List.set_cons_succ]
          refine tkYes 31 (v := ?_) rfl (by kernel_rfl) (fun _ _ _ h => h) rfl ?_ hS ?_
          rotate_left
          · intro W hW; go_simp; (try with_reducible rfl)
          simp only [Act.put, List.setIfInBounds_toArray, List.set_cons_zero, List.set_cons_succ]
          refine tkYes 32 (v := ?_) rfl (by kernel_rfl) (fun _ _ _ h => h) rfl ?_ hS ?_
          rotate_left
          · intro W hW; obtain ⟨y0, y1, y2, y3, y4, y5, yl⟩ := (N.out.on hW).cs; go_simp; (try with_reducible rfl)
          simp only [Act.put, List.setIfInBounds_toArray, List.set_cons_zero, List.set_cons_succ]
          refine tkYes 33 (v := ?_) rfl (by kernel_rfl) (fun _ _ _ h => h) rfl ?_ hS ?_
          rotate_left
          · intro W hW; go_simp; (try with_reducible rfl)
          simp only [Act.put, List.setIfInBounds_toArray, List.set_cons_zero, List.set_cons_succ]
          refine tkYes 34 (v := ?_) rfl (by kernel_rfl) (fun _ _ _ h => h) rfl ?_ hS ?_
          rotate_left
          · intro W hW; go_simp; (try with_reducible rfl)
          simp only [Act.put, List.setIfInBounds_toArray, List.set_cons_zero, List.set_cons_succ]
          refine tkYes 35 (v := ?_) rfl (by kernel_rfl) (fun _ _ _ h => h) rfl ?_ hS ?_
          rotate_left
          · intro W hW; go_simp; (try with_reducible rfl)
          simp only [Act.put, List.setIfInBounds_toArray, List.set_cons_zero, List.set_cons_succ]
          refine tkYes 36 (v := ?_) rfl (by kernel_rfl) (fun _ _ _ h => h) rfl ?_ hS ?_
          rotate_left
          · intro W hW; obtain ⟨d0, d1, d2, d3, dl⟩ := (S11.out.on hW).cells; rw [F4W] at d2; go_simp; (try with_reducible rfl)
          simp only [Act.put, List.setIfInBounds_toArray, List.set_cons_zero, List.set_cons_succ]
          refine tkYes 37 (v := ?_) rfl (by kernel_rfl) (fun _ _ _ h => h) rfl ?_ hS ?_
          rotate_left
          · intro W hW; go_simp; (try with_reducible rfl)
          simp only [Act.put, List.setIfInBounds_toArray, List.set_cons_zero, List.set_cons_succ]
          refine tkYes 38 (v := ?_) rfl (by kernel_rfl) (fun _ _ _ h => h) rfl ?_ hS ?_
          rotate_left
          · intro W hW; obtain ⟨y0, y1, y2, y3, y4, y5, yl⟩ := (N.out.on hW).cs; go_simp; (try with_reducible rfl)
          simp only [Act.put, List.setIfInBounds_toArray, List.set_cons_zero, List.set_cons_succ]
          refine tkYes 39 (v := ?_) rfl (by kernel_rfl) (fun _ _ _ h => h) rfl ?_ hS ?_
          rotate_left
          · intro W hW; go_simp; (try with_reducible rfl)
          simp only [Act.put, List.setIfInBounds_toArray, List.set_cons_zero, List.set_cons_succ]
          refine tkYes 40 (v := ?_) rfl (by kernel_rfl) (fun _ _ _ h => h) rfl ?_ hS ?_
          rotate_left
          · intro W hW; go_simp; (try with_reducible rfl)
          simp only [Act.put, List.setIfInBounds_toArray, List.set_cons_zero, List.set_cons_succ]
          refine tkYes 41 (v := ?_) rfl (by kernel_rfl) (fun _ _ _ h => h) rfl ?_ hS ?_
          rotate_left
          · intro W hW; go_simp; (try with_reducible rfl)
          simp only [Act.put, List.setIfInBounds_toArray, List.set_cons_zero, List.set_cons_succ]
          refine tkYes 42 (v := ?_) rfl (by kernel_rfl) (fun _ _ _ h => h) rfl ?_ hS ?_
          rotate_left
          · intro W hW; go_simp; (try with_reducible rfl)
          simp only [Act.put, List.setIfInBounds_toArray, List.set_cons_zero, List.set_cons_succ]
          refine wpAnyH_done (by kernel_rfl) ?_ _
          go_upto_region 15 with fail
          replace I := Lib.hid (I.out.on HC.out hS)
          replace N := Lib.hid (N.out.on hS)
          clear hS
          refine wp_region_held_drew (S := fun V => NtAt V g6 m) (by kernel_rfl) (N.out.on (Below.refl _ _).drew) (fun hS => ?_)
          replace I := Lib.hid (I.out.on HC.out (Below.refl w11.heap.size w11).drew)
          obtain ⟨w12, hw12⟩ : ∃ w12, w12 = w11.drew := ⟨_, rfl⟩
          rw [← hw12] at I hS ⊢
          clear hw12 N
          rcases F5.out with rfl | rfl
          · refine tkYes 0 (v := ?_) rfl (by kernel_rfl) (fun _ _ _ h => h) rfl ?_ hS ?_
            rotate_left
            · intro W hW; go_simp; (try with_reducible rfl)
            simp only [Act.put, List.setIfInBounds_toArray, List.set_cons_zero, List.set_cons_succ]
            refine tkYes 1 (v := Nt.val m) rfl (by kernel_rfl) (fun _ _ _ h => h) rfl (fun W hW => take_msg (.tmp 6) rfl g6 0 m rfl hW.range) hS ?_
            simp only [Act.put, List.setIfInBounds_toArray, List.set_cons_zero, List.set_cons_succ]
            refine rnOne 2 rfl (by kernel_rfl) rfl (fun K hK => ?_)
            go_simp
            with_reducible refine (K6.out _ _ I.out).mono ?_
            rintro e w13 ⟨rfl, hi, hk⟩
            replace I := Lib.hid hi
            replace hS := hS.keep (hk _ rfl)
            clear hi hk
            try go_simp
            refine hK.out _ _ hS (fun _ => ?_)
            clear hK K
            try simp only [Act.put, List.setIfInBounds_toArray, List.set_cons_zero, List.set_cons_succ]
            refine tkYes 3 (v := ?_) rfl (by kernel_rfl) (fun _ _ _ h => h) rfl ?_ hS ?_
            rotate_left
            · intro W hW; go_simp; (try with_reducible rfl)
            simp only [Act.put, List.setIfInBounds_toArray, List.set_cons_zero, List.set_cons_succ]
            refine tkYes 4 (v := ?_) rfl (by kernel_rfl) (fun _ _ _ h => h) rfl ?_ hS ?_
            rotate_left
            · intro W hW; go_simp; (try with_reducible rfl)
            simp only [Act.put, List.setIfInBounds_toArray, List.set_cons_zero, List.set_cons_succ]
            refine tkYes 5 (v := ?_) rfl (by kernel_rfl) (fun _ _ _ h => h) rfl ?_ hS ?_
            rotate_left
            · intro W hW; go_simp; (try with_reducible rfl)
            simp only [Act.put, List.setIfInBounds_toArray, List.set_cons_zero, List.set_cons_succ]
            refine tkYes 7 (v := ?_) rfl (by kernel_rfl) (fun _ _ _ h => h) rfl ?_ hS ?_
            rotate_left
            · intro W hW; go_simp; (try with_reducible rfl)
            simp only [Act.put, List.setIfInBounds_toArray, List.set_cons_zero, List.set_cons_succ]
            refine tkYes 8 (v := ?_) rfl (by kernel_rfl) (fun _ _ _ h => h) rfl ?_ hS ?_
            rotate_left
            · intro W hW; go_simp; (try with_reducible rfl)
            simp only [Act.put, List.setIfInBounds_toArray, List.set_cons_zero, List.set_cons_succ]
            refine tkYes 9 (v := ?_) rfl (by kernel_rfl) (fun _ _ _ h => h) rfl ?_ hS ?_
            rotate_left
            · intro W hW; obtain ⟨y0, y1, y2, y3, y4, y5, yl⟩ := hW.cs; go_simp; (try with_reducible rfl)
            simp only [Act.put, List.setIfInBounds_toArray, List.set_cons_zero, List.set_cons_succ]
            refine tkYes 10 (v := ?_) rfl (by kernel_rfl) (fun _ _ _ h => h) rfl ?_ hS ?_
            rotate_left
            · intro W hW; go_simp; (try with_reducible rfl)
            simp only [Act.put, List.setIfInBounds_toArray, List.set_cons_zero, List.set_cons_succ]
            refine rnOne 6 rfl (by kernel_rfl) rfl (fun K hK => ?_)
            go_simp
            with_reducible refine (K7.out _ _ I.out).mono ?_
            rintro e w14 ⟨rfl, hb⟩
            replace I := Lib.hid (I.out.on HC.out hb)
            replace hS := hS.on hb
            clear hb
            try go_simp
            refine hK.out _ _ hS (fun _ => ?_)
            clear hK K
            try simp only [Act.put, List.setIfInBounds_toArray, List.set_cons_zero, List.set_cons_succ]
            refine tkYes 11 (v := ?_) rfl (by kernel_rfl) (fun _ _ _ h => h) rfl ?_ hS ?_
            rotate_left
            · intro W hW; go_simp; (try with_reducible rfl)
            simp only [Act.put, List.setIfInBounds_toArray, List.set_cons_zero, List.set_cons_succ]
            refine tkYes 12 (v := ?_) rfl (by kernel_rfl) (fun _ _ _ h => h) rfl ?_ hS ?_
            rotate_left
            · intro W hW; go_simp; (try with_reducible rfl)
            simp only [Act.put, List.setIfInBounds_toArray, List.set_cons_zero, List.set_cons_succ]
            refine wpAnyH_done (by kernel_rfl) ?_ _
            go_wp2_with fail
            exact ⟨⟨j + 1, x2, by go_num, by omega, by omega, I.out.less (fun _ h => h.elim), NM2.out.1, NM2.out.2⟩, by simp [intOf]; omega⟩
          · refine tkYes 0 (v := ?_) rfl (by kernel_rfl) (fun _ _ _ h => h) rfl ?_ hS ?_
            rotate_left
            · intro W hW; go_simp; (try with_reducible rfl)
            simp only [Act.put, List.setIfInBounds_toArray, List.set_cons_zero, List.set_cons_succ]
            refine tkYes 1 (v := Nt.val m) rfl (by kernel_rfl) (fun _ _ _ h => h) rfl (fun W hW => take_msg (.tmp 6) rfl g6 0 m rfl hW.range) hS ?_
            simp only [Act.put, List.setIfInBounds_toArray, List.set_cons_zero, List.set_cons_succ]
            refine rnOne 2 rfl (by kernel_rfl) rfl (fun K hK => ?_)
            go_simp
            with_reducible refine (K6.out _ _ I.out).mono ?_
            rintro e w13 ⟨rfl, hi, hk⟩
            replace I := Lib.hid hi
            replace hS := hS.keep (hk _ rfl)
            clear hi hk
            try go_simp
            refine hK.out _ _ hS (fun _ => ?_)
            clear hK K
            try simp only [Act.put, List.setIfInBounds_toArray, List.set_cons_zero, List.set_cons_succ]
            refine tkYes 3 (v := ?_) rfl (by kernel_rfl) (fun _ _ _ h => h) rfl ?_ hS ?_
            rotate_left
            · intro W hW; go_simp; (try with_reducible rfl)
            simp only [Act.put, List.setIfInBounds_toArray, List.set_cons_zero, List.set_cons_succ]
            refine tkYes 4 (v := ?_) rfl (by kernel_rfl) (fun _ _ _ h => h) rfl ?_ hS ?_
            rotate_left
            · intro W hW; go_simp; (try with_reducible rfl)
            simp only [Act.put, List.setIfInBounds_toArray, List.set_cons_zero, List.set_cons_succ]
            refine tkYes 5 (v := ?_) rfl (by kernel_rfl) (fun _ _ _ h => h) rfl ?_ hS ?_
            rotate_left
            · intro W hW; go_simp; (try with_reducible rfl)
            simp only [Act.put, List.setIfInBounds_toArray, List.set_cons_zero, List.set_cons_succ]
            refine tkYes 7 (v := ?_) rfl (by kernel_rfl) (fun _ _ _ h => h) rfl ?_ hS ?_
            rotate_left
            · intro W hW; go_simp; (try with_reducible rfl)
            simp only [Act.put, List.setIfInBounds_toArray, List.set_cons_zero, List.set_cons_succ]
            refine tkYes 8 (v := ?_) rfl (by kernel_rfl) (fun _ _ _ h => h) rfl ?_ hS ?_
            rotate_left
            · intro W hW; go_simp; (try with_reducible rfl)
            simp only [Act.put, List.setIfInBounds_toArray, List.set_cons_zero, List.set_cons_succ]
            refine tkYes 9 (v := ?_) rfl (by kernel_rfl) (fun _ _ _ h => h) rfl ?_ hS ?_
            rotate_left
            · intro W hW; obtain ⟨y0, y1, y2, y3, y4, y5, yl⟩ := hW.cs; go_simp; (try with_reducible rfl)
            simp only [Act.put, List.setIfInBounds_toArray, List.set_cons_zero, List.set_cons_succ]
            refine tkYes 10 (v := ?_) rfl (by kernel_rfl) (fun _ _ _ h => h) rfl ?_ hS ?_
            rotate_left
            · intro W hW; go_simp; (try with_reducible rfl)
            simp only [Act.put, List.setIfInBounds_toArray, List.set_cons_zero, List.set_cons_succ]
            refine rnOne 6 rfl (by kernel_rfl) rfl (fun K hK => ?_)
            go_simp
            with_reducible refine (K7.out _ _ I.out).mono ?_
            rintro e w14 ⟨rfl, hb⟩
            replace I := Lib.hid (I.out.on HC.out hb)
            replace hS := hS.on hb
            clear hb
            try go_simp
            refine hK.out _ _ hS (fun _ => ?_)
            clear hK K
            try simp only [Act.put, List.setIfInBounds_toArray, List.set_cons_zero, List.set_cons_succ]
            refine tkYes 11 (v := ?_) rfl (by kernel_rfl) (fun _ _ _ h => h) rfl ?_ hS ?_
            rotate_left
            · intro W hW; go_simp; (try with_reducible rfl)
            simp only [Act.put, List.setIfInBounds_toArray, List.set_cons_zero, List.set_cons_succ]
            refine tkYes 12 (v := ?_) rfl (by kernel_rfl) (fun _ _ _ h => h) rfl ?_ hS ?_
            rotate_left
            · intro W hW; go_simp; (try with_reducible rfl)
            simp only [Act.put, List.setIfInBounds_toArray, List.set_cons_zero, List.set_cons_succ]
            refine wpAnyH_done (by kernel_rfl) ?_ _
            go_wp2_with fail
            exact ⟨⟨j + 1, x2, by go_num, by omega, by omega, I.out.less (fun _ h => h.elim), NM2.out.1, NM2.out.2⟩, by simp [intOf]; omega⟩
        · obtain rfl : t = s := F2.out (by omega)
          have hA : decide (m.e < sn) = false := decide_eq_false (by omega)
          clear F1 F2 F4
          refine wp_region_held_drew (S := fun V => Below w10.heap.size w10 V) (by kernel_rfl) (Below.refl w10.heap.size w10).drew (fun hS => ?_)
          refine tkYes 0 (v := ?_) rfl (by kernel_rfl) (fun _ _ _ h => h) rfl ?_ hS ?_
          rotate_left
          · intro W hW; go_simp; (try with_reducible rfl)
          simp only [Act.put, List.setIfInBounds_toArray, List.set_cons_zero, List.set_cons_succ]
          refine tkYes 1 (v := ?_) rfl (by kernel_rfl) (fun _ _ _ h => h) rfl ?_ hS ?_
          rotate_left
          · intro W hW; go_simp; (try with_reducible rfl)
          simp only [Act.put, List.setIfInBounds_toArray, List.set_cons_zero, List.set_cons_succ]
          refine tkYes 2 (v := ?_) rfl (by kernel_rfl) (fun _ _ _ h => h) rfl ?_ hS ?_
          rotate_left
          · intro W hW; go_simp; (try with_reducible rfl)
          simp only [Act.put, List.setIfInBounds_toArray, List.set_cons_zero, List.set_cons_succ]
          refine tkYes 3 (v := ?_) rfl (by kernel_rfl) (fun _ _ _ h => h) rfl ?_ hS ?_
          rotate_left
          · intro W hW; obtain ⟨y0, y1, y2, y3, y4, y5, yl⟩ := (N.out.on hW).cs; go_simp; (try with_reducible rfl)
          simp only [Act.put, List.setIfInBounds_toArray, List.set_cons_zero, List.set_cons_succ]
          refine tkYes 4 (v := ?_) rfl (by kernel_rfl) (fun _ _ _ h => h) rfl ?_ hS ?_
          rotate_left
          · intro W hW; go_simp; (try with_reducible rfl)
          simp only [Act.put, List.setIfInBounds_toArray, List.set_cons_zero, List.set_cons_succ]
          refine tkYes 5 (v := ?_) rfl (by kernel_rfl) (fun _ _ _ h => h) rfl ?_ hS ?_
          rotate_left
          · intro W hW; go_simp; (try with_reducible rfl)
          simp only [Act.put, List.setIfInBounds_toArray, List.set_cons_zero, List.set_cons_succ]
          refine tkYes 6 (v := ?_) rfl (by kernel_rfl) (fun _ _ _ h => h) rfl ?_ hS ?_
          rotate_left
          · intro W hW; go_simp; (try with_reducible rfl)
          simp only [Act.put, List.setIfInBounds_toArray, List.set_cons_zero, List.set_cons_succ]
          refine tkYes 7 (v := ?_) rfl (by kernel_rfl) (fun _ _ _ h => h) rfl ?_ hS ?_
          rotate_left
          · intro W hW; go_simp; (try with_reducible rfl)
          simp only [Act.put, List.setIfInBounds_toArray, List.set_cons_zero, List.set_cons_succ]
          refine tkYes 8 (v := ?_) rfl (by kernel_rfl) (fun _ _ _ h => h) rfl ?_ hS ?_
          rotate_left
          · intro W hW; go_simp; (try with_reducible rfl)
          simp only [Act.put, List.setIfInBounds_toArray, List.set_cons_zero, List.set_cons_succ]
          refine tkYes 9 (v := ?_) rfl (by kernel_rfl) (fun _ _ _ h => h) rfl ?_ hS ?_
          rotate_left
          · intro W hW; go_simp; (try with_reducible rfl)
          simp only [Act.put, List.setIfInBounds_toArray, List.set_cons_zero, List.set_cons_succ]
          refine tkYes 10 (v := ?_) rfl (by kernel_rfl) (fun _ _ _ h => h) rfl ?_ hS ?_
          rotate_left
          · intro W hW; go_simp; (try with_reducible rfl)
          simp only [Act.put, List.setIfInBounds_toArray, List.set_cons_zero, List.set_cons_succ]
          refine tkYes 11 (v := ?_) rfl (by kernel_rfl) (fun _ _ _ h => h) rfl ?_ hS ?_
          rotate_left
          · intro W hW; obtain ⟨d0, d1, d2, d3, dl⟩ := (S8.out.on hW).cells; go_simp; (try with_reducible rfl)
          simp only [Act.put, List.setIfInBounds_toArray, List.set_cons_zero, List.set_cons_succ]
          refine tkYes 12 (v := ?_) rfl (by kernel_rfl) (fun _ _ _ h => h) rfl ?_ hS ?_
          rotate_left
          · intro W hW; obtain ⟨d0, d1, d2, d3, dl⟩ := (S11.out.on hW).cells; go_simp; (try with_reducible rfl)
          simp only [Act.put, List.setIfInBounds_toArray, List.set_cons_zero, List.set_cons_succ]
          refine tkYes 13 (v := ?_) rfl (by kernel_rfl) (fun _ _ _ h => h) rfl ?_ hS ?_
          rotate_left
          · intro W hW; have e9 := fun W => slot_neq (a := t) (b := t) (x := false) (by simp) W; unfold suV suC at e9; go_simp; (try with_reducible rfl)
          simp only [Act.put, List.setIfInBounds_toArray, List.set_cons_zero, List.set_cons_succ]
          refine tkYes 14 (v := ?_) rfl (by kernel_rfl) (fun _ _ _ h => h) rfl ?_ hS ?_
          rotate_left
          · intro W hW; go_simp; (try with_reducible rfl)
          simp only [Act.put, List.setIfInBounds_toArray, List.set_cons_zero, List.set_cons_succ]
          refine tkYes 15 (v := ?_) rfl (by kernel_rfl) (fun _ _ _ h => h) rfl ?_ hS ?_
          rotate_left
          · intro W hW; go_simp; (try with_reducible rfl)
          simp only [Act.put, List.setIfInBounds_toArray, List.set_cons_zero, List.set_cons_succ]
          refine tkYes 16 (v := ?_) rfl (by kernel_rfl) (fun _ _ _ h => h) rfl ?_ hS ?_
          rotate_left
          · intro W hW; go_simp; (try with_reducible rfl)
          simp only [Act.put, List.setIfInBounds_toArray, List.set_cons_zero, List.set_cons_succ]
          refine tkYes 17 (v := ?_) rfl (by kernel_rfl) (fun _ _ _ h => h) rfl ?_ hS ?_
          rotate_left
          · intro W hW; go_simp; (try with_reducible rfl)
          simp only [Act.put, List.setIfInBounds_toArray, List.set_cons_zero, List.set_cons_succ]
          refine tkYes 19 (v := ?_) rfl (by kernel_rfl) (fun _ _ _ h => h) rfl ?_ hS ?_
          rotate_left
          · intro W hW; go_simp; (try with_reducible rfl)
          simp only [Act.put, List.setIfInBounds_toArray, List.set_cons_zero, List.set_cons_succ]
          refine tkYes 20 (v := ?_) rfl (by kernel_rfl) (fun _ _ _ h => h) rfl ?_ hS ?_
          rotate_left
          · intro W hW; go_simp; (try with_reducible rfl)
          simp only [Act.put, List.setIfInBounds_toArray, List.set_cons_zero, List.set_cons_succ]
          refine tkYes 21 (v := ?_) rfl (by kernel_rfl) (fun _ _ _ h => h) rfl ?_ hS ?_
          rotate_left
          · intro W hW; obtain ⟨y0, y1, y2, y3, y4, y5, yl⟩ := (N.out.on hW).cs; go_simp; (try with_reducible rfl)
          simp only [Act.put, List.setIfInBounds_toArray, List.set_cons_zero, List.set_cons_succ]
          refine tkYes 22 (v := ?_) rfl (by kernel_rfl) (fun _ _ _ h => h) rfl ?_ hS ?_
          rotate_left
          · intro W hW; go_simp; (try with_reducible rfl)
          simp only [Act.put, List.setIfInBounds_toArray, List.set_cons_zero, List.set_cons_succ]
          refine rnOne 18 rfl (by kernel_rfl) rfl (fun K hK => ?_)
          go_simp
          with_reducible refine (K5.out _ _ (I.out.on HC.out hS)).mono ?_
          rintro e w11 ⟨rfl, hb⟩
          replace hS := hS.trans (hb.mono hS.size)
          clear hb
          try go_simp
          refine hK.out _ _ hS (fun _ => ?_)
          clear hK K
          try simp only [Act.put, List.setIfInBounds_toArray, List.set_cons_zero, List.set_cons_succ]
          refine tkYes 23 (v := ?_) rfl (by kernel_rfl) (fun _ _ _ h => h) rfl ?_ hS ?_
          rotate_left
          · intro W hW; go_simp; (try with_reducible rfl)
          simp only [Act.put, List.setIfInBounds_toArray, List.set_cons_zero, List.set_cons_succ]
          refine tkYes 24 (v := ?_) rfl (by kernel_rfl) (fun _ _ _ h => h) rfl ?_ hS ?_
          rotate_left
          · intro W hW; go_simp; (try with_reducible rfl)
          simp only [Act.put, List.setIfInBounds_toArray, List.set_cons_zero, List.set_cons_succ]
          refine tkYes 25 (v := ?_) rfl (by kernel_rfl) (fun _ _ _ h => h) rfl ?_ hS ?_
          rotate_left
          · intro W hW; go_simp; (try with_reducible rfl)
          simp only [Act.put, List.setIfInBounds_toArray, List.set_cons_zero, List.set_cons_succ]
          refine tkYes 26 (v := ?_) rfl (by kernel_rfl) (fun _ _ _ h => h) rfl ?_ hS ?_
          rotate_left
          · intro W hW; go_simp; (try with_reducible rfl)
          simp only [Act.put, List.setIfInBounds_toArray, List.set_cons_zero, List.set_cons_succ]
          refine tkYes 27 (v := ?_) rfl (by kernel_rfl) (fun _ _ _ h => h) rfl ?_ hS ?_
          rotate_left
          · intro W hW; go_simp; (try with_reducible rfl)
          simp only [Act.put, List.setIfInBounds_toArray, List.set_cons_zero, List.set_cons_succ]
          refine tkYes 28 (v := ?_) rfl (by kernel_rfl) (fun _ _ _ h => h) rfl ?_ hS ?_
          rotate_left
          · intro W hW; go_simp; (try with_reducible rfl)
          simp only [Act.put, List.setIfInBounds_toArray, List.set_cons_zero, List.set_cons_succ]
          refine tkNo 29 rfl (by kernel_rfl) (fun _ _ _ h => h) rfl hS ?_
          simp only [Act.put, List.setIfInBounds_toArray, List.set_cons_zero, List.set_cons_succ]
          refine tkNo 30 rfl (by kernel_rfl) (fun _ _ _ h => h) rfl hS ?_
          simp only [Act.put, List.setIfInBounds_toArray, List.set_cons_zero, List.set_cons_succ]
          refine tkNo 31 rfl (by kernel_rfl) (fun _ _ _ h => h) rfl hS ?_
          simp only [Act.put, List.setIfInBounds_toArray, List.set_cons_zero, List.set_cons_succ]
          refine tkNo 32 rfl (by kernel_rfl) (fun _ _ _ h => h) rfl hS ?_
          simp only [Act.put, List.setIfInBounds_toArray, List.set_cons_zero, List.set_cons_succ]
          refine tkNo 33 rfl (by kernel_rfl) (fun _ _ _ h => h) rfl hS ?_
          simp only [Act.put, List.setIfInBounds_toArray, List.set_cons_zero, List.set_cons_succ]
          refine tkNo 34 rfl (by kernel_rfl) (fun _ _ _ h => h) rfl hS ?_
          simp only [Act.put, List.setIfInBounds_toArray, List.set_cons_zero, List.set_cons_succ]
          refine tkNo 35 rfl (by kernel_rfl) (fun _ _ _ h => h) rfl hS ?_
          simp only [Act.put, List.setIfInBounds_toArray, List.set_cons_zero, List.set_cons_succ]
          refine tkNo 36 rfl (by kernel_rfl) (fun _ _ _ h => h) rfl hS ?_
          simp only [Act.put, List.setIfInBounds_toArray, List.set_cons_zero, List.set_cons_succ]
          refine tkNo 37 rfl (by kernel_rfl) (fun _ _ _ h => h) rfl hS ?_
          simp only [Act.put, List.setIfInBounds_toArray, List.set_cons_zero, List.set_cons_succ]
          refine tkNo 38 rfl (by kernel_rfl) (fun _ _ _ h => h) rfl hS ?_
          simp only [Act.put, List.setIfInBounds_toArray, List.set_cons_zero, List.set_cons_succ]
          refine tkNo 39 rfl (by kernel_rfl) (fun _ _ _ h => h) rfl hS ?_
          simp only [Act.put, List.setIfInBounds_toArray, List.set_cons_zero, List.set_cons_succ]
          refine tkNo 40 rfl (by kernel_rfl) (fun _ _ _ h => h) rfl hS ?_
          simp only [Act.put, List.setIfInBounds_toArray, List.set_cons_zero, List.set_cons_succ]
          refine tkYes 41 (v := ?_) rfl (by kernel_rfl) (fun _ _ _ h => h) rfl ?_ hS ?_
          rotate_left
          · intro W hW; go_simp; (try with_reducible rfl)
          simp only [Act.put, List.setIfInBounds_toArray, List.set_cons_zero, List.set_cons_succ]
          refine tkYes 42 (v := ?_) rfl (by kernel_rfl) (fun _ _ _ h => h) rfl ?_ hS ?_
          rotate_left
          · intro W hW; go_simp; (try with_reducible rfl)
          simp only [Act.put, List.setIfInBounds_toArray, List.set_cons_zero, List.set_cons_succ]
          refine wpAnyH_done (by kernel_rfl) ?_ _
          go_upto_region 15 with fail
          replace I := Lib.hid (I.out.on HC.out hS)
          replace N := Lib.hid (N.out.on hS)
          clear hS
          refine wp_region_held_drew (S := fun V => NtAt V g6 m) (by kernel_rfl) (N.out.on (Below.refl _ _).drew) (fun hS => ?_)
          replace I := Lib.hid (I.out.on HC.out (Below.refl w11.heap.size w11).drew)
          obtain ⟨w12, hw12⟩ : ∃ w12, w12 = w11.drew := ⟨_, rfl⟩
          rw [← hw12] at I hS ⊢
          clear hw12 N
          rcases F5.out with rfl | rfl
          · refine tkYes 0 (v := ?_) rfl (by kernel_rfl) (fun _ _ _ h => h) rfl ?_ hS ?_
            rotate_left
            · intro W hW; go_simp; (try with_reducible rfl)
            simp only [Act.put, List.setIfInBounds_toArray, List.set_cons_zero, List.set_cons_succ]
            refine tkYes 1 (v := Nt.val m) rfl (by kernel_rfl) (fun _ _ _ h => h) rfl (fun W hW => take_msg (.tmp 6) rfl g6 0 m rfl hW.range) hS ?_
            simp only [Act.put, List.setIfInBounds_toArray, List.set_cons_zero, List.set_cons_succ]
            refine rnOne 2 rfl (by kernel_rfl) rfl (fun K hK => ?_)
            go_simp
            with_reducible refine (K6.out _ _ I.out).mono ?_
            rintro e w13 ⟨rfl, hi, hk⟩
            replace I := Lib.hid hi
            replace hS := hS.keep (hk _ rfl)
            clear hi hk
            try go_simp
            refine hK.out _ _ hS (fun _ => ?_)
            clear hK K
            try simp only [Act.put, List.setIfInBounds_toArray, List.set_cons_zero, List.set_cons_succ]
            refine tkYes 3 (v := ?_) rfl (by kernel_rfl) (fun _ _ _ h => h) rfl ?_ hS ?_
            rotate_left
            · intro W hW; go_simp; (try with_reducible rfl)
            simp only [Act.put, List.setIfInBounds_toArray, List.set_cons_zero, List.set_cons_succ]
            refine tkYes 4 (v := ?_) rfl (by kernel_rfl) (fun _ _ _ h => h) rfl ?_ hS ?_
            rotate_left
            · intro W hW; go_simp; (try with_reducible rfl)
            simp only [Act.put, List.setIfInBounds_toArray, List.set_cons_zero, List.set_cons_succ]
            refine tkYes 5 (v := ?_) rfl (by kernel_rfl) (fun _ _ _ h => h) rfl ?_ hS ?_
            rotate_left
            · intro W hW; go_simp; (try with_reducible rfl)
            simp only [Act.put, List.setIfInBounds_toArray, List.set_cons_zero, List.set_cons_succ]
            refine tkYes 7 (v := ?_) rfl (by kernel_rfl) (fun _ _ _ h => h) rfl ?_ hS ?_
            rotate_left
            · intro W hW; go_simp; (try with_reducible rfl)
            simp only [Act.put, List.setIfInBounds_toArray, List.set_cons_zero, List.set_cons_succ]
            refine tkYes 8 (v := ?_) rfl (by kernel_rfl) (fun _ _ _ h => h) rfl ?_ hS ?_
            rotate_left
            · intro W hW; go_simp; (try with_reducible rfl)
            simp only [Act.put, List.setIfInBounds_toArray, List.set_cons_zero, List.set_cons_succ]
            refine tkYes 9 (v := ?_) rfl (by kernel_rfl) (fun _ _ _ h => h) rfl ?_ hS ?_
            rotate_left
            · intro W hW; obtain ⟨y0, y1, y2, y3, y4, y5, yl⟩ := hW.cs; go_simp; (try with_reducible rfl)
            simp only [Act.put, List.setIfInBounds_toArray, List.set_cons_zero, List.set_cons_succ]
            refine tkYes 10 (v := ?_) rfl (by kernel_rfl) (fun _ _ _ h => h) rfl ?_ hS ?_
            rotate_left
            · intro W hW; go_simp; (try with_reducible rfl)
            simp only [Act.put, List.setIfInBounds_toArray, List.set_cons_zero, List.set_cons_succ]
            refine rnOne 6 rfl (by kernel_rfl) rfl (fun K hK => ?_)
            go_simp
            with_reducible refine (K7.out _ _ I.out).mono ?_
            rintro e w14 ⟨rfl, hb⟩
            replace I := Lib.hid (I.out.on HC.out hb)
            replace hS := hS.on hb
            clear hb
            try go_simp
            refine hK.out _ _ hS (fun _ => ?_)
            clear hK K
            try simp only [Act.put, List.setIfInBounds_toArray, List.set_cons_zero, List.set_cons_succ]
            refine tkYes 11 (v := ?_) rfl (by kernel_rfl) (fun _ _ _ h => h) rfl ?_ hS ?_
            rotate_left
            · intro W hW; go_simp; (try with_reducible rfl)
            simp only [Act.put, List.setIfInBounds_toArray, List.set_cons_zero, List.set_cons_succ]
            refine tkYes 12 (v := ?_) rfl (by kernel_rfl) (fun _ _ _ h => h) rfl ?_ hS ?_
            rotate_left
            · intro W hW; go_simp; (try with_reducible rfl)
            simp only [Act.put, List.setIfInBounds_toArray, List.set_cons_zero, List.set_cons_succ]
            refine wpAnyH_done (by kernel_rfl) ?_ _
            go_wp2_with fail
            exact ⟨⟨j + 1, x2, by go_num, by omega, by omega, I.out.less (fun _ h => h.elim), NM2.out.1, NM2.out.2⟩, by simp [intOf]; omega⟩
          · refine tkYes 0 (v := ?_) rfl (by kernel_rfl) (fun _ _ _ h => h) rfl ?_ hS ?_
            rotate_left
            · intro W hW; go_simp; (try with_reducible rfl)
            simp only [Act.put, List.setIfInBounds_toArray, List.set_cons_zero, List.set_cons_succ]
            refine tkYes 1 (v := Nt.val m) rfl (by kernel_rfl) (fun _ _ _ h => h) rfl (fun W hW => take_msg (.tmp 6) rfl g6 0 m rfl hW.range) hS ?_
            simp only [Act.put, List.setIfInBounds_toArray, List.set_cons_zero, List.set_cons_succ]
            refine rnOne 2 rfl (by kernel_rfl) rfl (fun K hK => ?_)
            go_simp
            with_reducible refine (K6.out _ _ I.out).mono ?_
            rintro e w13 ⟨rfl, hi, hk⟩
            replace I := Lib.hid hi
            replace hS := hS.keep (hk _ rfl)
            clear hi hk
            try go_simp
            refine hK.out _ _ hS (fun _ => ?_)
            clear hK K
            try simp only [Act.put, List.setIfInBounds_toArray, List.set_cons_zero, List.set_cons_succ]
            refine tkYes 3 (v := ?_) rfl (by kernel_rfl) (fun _ _ _ h => h) rfl ?_ hS ?_
            rotate_left
            · intro W hW; go_simp; (try with_reducible rfl)
            simp only [Act.put, List.setIfInBounds_toArray, List.set_cons_zero, List.set_cons_succ]
            refine tkYes 4 (v := ?_) rfl (by kernel_rfl) (fun _ _ _ h => h) rfl ?_ hS ?_
            rotate_left
            · intro W hW; go_simp; (try with_reducible rfl)
            simp only [Act.put, List.setIfInBounds_toArray, List.set_cons_zero, List.set_cons_succ]
            refine tkYes 5 (v := ?_) rfl (by kernel_rfl) (fun _ _ _ h => h) rfl ?_ hS ?_
            rotate_left
            · intro W hW; go_simp; (try with_reducible rfl)
            simp only [Act.put, List.setIfInBounds_toArray, List.set_cons_zero, List.set_cons_succ]
            refine tkYes 7 (v := ?_) rfl (by kernel_rfl) (fun _ _ _ h => h) rfl ?_ hS ?_
            rotate_left
            · intro W hW; go_simp; (try with_reducible rfl)
            simp only [Act.put, List.setIfInBounds_toArray, List.set_cons_zero, List.set_cons_succ]
            refine tkYes 8 (v := ?_) rfl (by kernel_rfl) (fun _ _ _ h => h) rfl ?_ hS ?_
            rotate_left
            · intro W hW; go_simp; (try with_reducible rfl)
            simp only [Act.put, List.setIfInBounds_toArray, List.set_cons_zero, List.set_cons_succ]
            refine tkYes 9 (v := ?_) rfl (by kernel_rfl) (fun _ _ _ h => h) rfl ?_ hS ?_
            rotate_left
            · intro W hW; obtain ⟨y0, y1, y2, y3, y4, y5, yl⟩ := hW.cs; go_simp; (try with_reducible rfl)
            simp only [Act.put, List.setIfInBounds_toArray, List.set_cons_zero, List.set_cons_succ]
            refine tkYes 10 (v := ?_) rfl (by kernel_rfl) (fun _ _ _ h => h) rfl ?_ hS ?_
            rotate_left
            · intro W hW; go_simp; (try with_reducible rfl)
            simp only [Act.put, List.setIfInBounds_toArray, List.set_cons_zero, List.set_cons_succ]
            refine rnOne 6 rfl (by kernel_rfl) rfl (fun K hK => ?_)
            go_simp
            with_reducible refine (K7.out _ _ I.out).mono ?_
            rintro e w14 ⟨rfl, hb⟩
            replace I := Lib.hid (I.out.on HC.out hb)
            replace hS := hS.on hb
            clear hb
            try go_simp
            refine hK.out _ _ hS (fun _ => ?_)
            clear hK K
            try simp only [Act.put, List.setIfInBounds_toArray, List.set_cons_zero, List.set_cons_succ]
            refine tkYes 11 (v := ?_) rfl (by kernel_rfl) (fun _ _ _ h => h) rfl ?_ hS ?_
            rotate_left
            · intro W hW; go_simp; (try with_reducible rfl)
            simp only [Act.put, List.setIfInBounds_toArray, List.set_cons_zero, List.set_cons_succ]
            refine tkYes 12 (v := ?_) rfl (by kernel_rfl) (fun _ _ _ h => h) rfl ?_ hS ?_
            rotate_left
            · intro W hW; go_simp; (try with_reducible rfl)
            simp only [Act.put, List.setIfInBounds_toArray, List.set_cons_zero, List.set_cons_succ]
            refine wpAnyH_done (by kernel_rfl) ?_ _
            go_wp2_with fail
            exact ⟨⟨j + 1, x2, by go_num, by omega, by omega, I.out.less (fun _ h => h.elim), NM2.out.1, NM2.out.2⟩, by simp [intOf]; omega⟩
      · have q3 : (60 : Int) ≤ (j : Int) := by omega
        have q2 : ((j : Nat) : Int) < ((k : Nat) : Int) := by omega
        go_wp2_with fail
        go_ret
        exact ⟨rfl, I.out.below⟩
    · have q2 : ((k : Nat) : Int) ≤ ((j : Nat) : Int) := by omega
      go_wp2_with fail
      go_ret
      exact ⟨rfl, I.out.below⟩
end Go.Proofs.Ytgljepjflpijiaa
