/-
  The walk of NetCounts. Written by wip/tools/gen/ntcounts.py. No condition.
-/
import Derived.Test.YtmhhjipdbfepiaaNetRowWalk
import Derived.Test.YtmhhjipdbfepiaaNtSt
namespace Go.Proofs.Ytmhhjipdbfepiaa
open Go.RowKit Go.Deep
set_option maxRecDepth 100000
set_option linter.unusedSimpArgs false
set_option linter.unusedVariables false

/-- What the law counts, behind so many steps. -/
structure Cn (room put took full : Int) (j : Nat) (s : Nt.St) : Prop where
  eq : (s.l.length : Int) = put - took - (s.lost - full)
  b : 0 ≤ put ∧ put ≤ j ∧ 0 ≤ took ∧ took ≤ j ∧ 0 ≤ full ∧ full ≤ j ∧ 0 ≤ s.lost ∧ s.lost ≤ j ∧ 0 ≤ s.sent ∧ s.sent ≤ j ∧ j ≤ 100
  rm : s.room = (Nt.new room).room
  ok : Nt.Ok s
section
variable {room put took full : Int} {j : Nat} {s : Nt.St}
theorem Cn.lo (h : Cn room put took full j s) : 0 ≤ s.lost ∧ s.lost ≤ 1000000 := by have := h.b; omega
theorem Cn.se (h : Cn room put took full j s) : 0 ≤ s.sent ∧ s.sent ≤ 1000000 := by have := h.b; omega
theorem Cn.top (h : Cn room put took full j s) : (s.l.length : Int) ≤ max (min room 64) 1 := by
  have h1 := h.ok.fits
  have h2 := h.rm
  have h3 : ((Nt.new room).room : Int) = max 1 (min room 64) := by show ((max 1 (min room 64)).toNat : Int) = _; omega
  omega
theorem Cn.next (h : Cn room put took full j s) (hj : j < 100) : Cn room put took full (j + 1) s := ⟨h.eq, by have := h.b; omega, h.rm, h.ok⟩
theorem Cn.send (h : Cn room put took full j s) (m : Nt.M) (hm : Nt.In m) (hj : j < 100) : (Nt.sendE s m = 1 ∧ Cn room put took full (j + 1) (Nt.sendS s m)) ∨ (Nt.sendE s m = 0 ∧ Cn room (put + 1) took full (j + 1) (Nt.sendS s m)) ∨ (Nt.sendE s m = 4 ∧ Cn room put took (full + 1) (j + 1) (Nt.sendS s m)) := by
  have ho := Nt.send_ok h.ok hm
  have hb := h.b
  have he := h.eq
  by_cases hr : Nt.right m = true
  · by_cases hl : s.l.length < s.room
    · have e1 : Nt.sendE s m = 0 := by unfold Nt.sendE Nt.putE; rw [if_pos hr, if_pos hl]
      have e2 : Nt.sendS s m = ⟨s.room, s.l ++ [m], s.sent + 1, s.lost⟩ := by unfold Nt.sendS; rw [if_pos hr, if_pos hl]
      rw [e2] at ho ⊢
      exact .inr (.inl ⟨e1, by simp only [List.length_append, List.length_singleton]; omega, by simp only; omega, h.rm, ho⟩)
    · have e1 : Nt.sendE s m = 4 := by unfold Nt.sendE Nt.putE; rw [if_pos hr, if_neg hl]
      have e2 : Nt.sendS s m = ⟨s.room, s.l, s.sent, s.lost + 1⟩ := by unfold Nt.sendS; rw [if_pos hr, if_neg hl]
      rw [e2] at ho ⊢
      exact .inr (.inr ⟨e1, by simp only; omega, by simp only; omega, h.rm, ho⟩)
  · have e1 : Nt.sendE s m = 1 := by unfold Nt.sendE; rw [if_neg hr]
    have e2 : Nt.sendS s m = s := by unfold Nt.sendS; rw [if_neg hr]
    rw [e2]
    exact .inl ⟨e1, h.next hj⟩
theorem Cn.twice (h : Cn room put took full j s) (at_ : Int) (hj : j < 100) : (Nt.twiceE s = 5 ∧ Cn room put took full (j + 1) (Nt.twiceS s at_)) ∨ (Nt.twiceE s = 0 ∧ Cn room (put + 1) took full (j + 1) (Nt.twiceS s at_)) ∨ (Nt.twiceE s = 4 ∧ Cn room put took (full + 1) (j + 1) (Nt.twiceS s at_)) := by
  have ho := Nt.twice_ok h.ok at_
  have hb := h.b
  have he := h.eq
  by_cases hr : 0 < s.l.length
  · by_cases hl : s.l.length < s.room
    · have e1 : Nt.twiceE s = 0 := by unfold Nt.twiceE Nt.putE; rw [if_pos hr, if_pos hl]
      have e2 : Nt.twiceS s at_ = ⟨s.room, s.l ++ [Nt.takeM s at_], s.sent, s.lost⟩ := by unfold Nt.twiceS Nt.putS; rw [if_pos hr, if_pos hl]
      rw [e2] at ho ⊢
      exact .inr (.inl ⟨e1, by simp only [List.length_append, List.length_singleton]; omega, by simp only; omega, h.rm, ho⟩)
    · have e1 : Nt.twiceE s = 4 := by unfold Nt.twiceE Nt.putE; rw [if_pos hr, if_neg hl]
      have e2 : Nt.twiceS s at_ = ⟨s.room, s.l, s.sent, s.lost + 1⟩ := by unfold Nt.twiceS Nt.putS; rw [if_pos hr, if_neg hl]
      rw [e2] at ho ⊢
      exact .inr (.inr ⟨e1, by simp only; omega, by simp only; omega, h.rm, ho⟩)
  · have e1 : Nt.twiceE s = 5 := by unfold Nt.twiceE; rw [if_neg hr]
    have e2 : Nt.twiceS s at_ = s := by unfold Nt.twiceS; rw [if_neg hr]
    rw [e2]
    exact .inl ⟨e1, h.next hj⟩
theorem Cn.take (h : Cn room put took full j s) (at_ : Int) (hj : j < 100) : (Nt.takeB s = true ∧ Cn room put (took + 1) full (j + 1) (Nt.takeS s at_)) ∨ (Nt.takeB s = false ∧ Cn room put took full (j + 1) (Nt.takeS s at_)) := by
  have ho := Nt.take_ok h.ok at_
  have hb := h.b
  have he := h.eq
  by_cases hr : 0 < s.l.length
  · have e2 : Nt.takeS s at_ = ⟨s.room, Nt.cutL s.l (Nt.pl s.l.length at_), s.sent, s.lost⟩ := by unfold Nt.takeS; rw [if_pos hr]
    have hc := Nt.cutL_len (Nt.pl_lt hr at_)
    rw [e2] at ho ⊢
    exact .inl ⟨decide_eq_true hr, by simp only; omega, by simp only; omega, h.rm, ho⟩
  · have e2 : Nt.takeS s at_ = s := by unfold Nt.takeS; rw [if_neg hr]
    rw [e2]
    exact .inr ⟨decide_eq_false hr, h.next hj⟩
theorem Cn.drop (h : Cn room put took full j s) (at_ : Int) (hj : j < 100) : (Nt.takeB s = true ∧ Cn room put took full (j + 1) (Nt.dropS s at_)) ∨ (Nt.takeB s = false ∧ Cn room put took full (j + 1) (Nt.dropS s at_)) := by
  have ho := Nt.drop_ok h.ok at_
  have hb := h.b
  have he := h.eq
  by_cases hr : 0 < s.l.length
  · have e2 : Nt.dropS s at_ = ⟨s.room, Nt.cutL s.l (Nt.pl s.l.length at_), s.sent, s.lost + 1⟩ := by unfold Nt.dropS; rw [if_pos hr]
    have hc := Nt.cutL_len (Nt.pl_lt hr at_)
    rw [e2] at ho ⊢
    exact .inl ⟨decide_eq_true hr, by simp only; omega, by simp only; omega, h.rm, ho⟩
  · have e2 : Nt.dropS s at_ = s := by unfold Nt.dropS; rw [if_neg hr]
    rw [e2]
    exact .inr ⟨decide_eq_false hr, h.next hj⟩
end
section
variable {w0 W : World} {F : Nat → Prop} {r : Nat} {s s' : Nt.St}
theorem nat_twice0 {at_ e : Int} (h : NAt w0 F r s W) (ha : Nt.i64 at_) (hlo : 0 ≤ s.lost ∧ s.lost ≤ 1000000) (h1 : Nt.twiceE s = e) (h2 : Nt.twiceS s at_ = s') : Calls Try.prog 22 #[.pointer (some ⟨r, 0, none⟩), .int .i64 at_] W (NRes w0 F r s' (.int .i64 e) W) := by
  have h3 := nat_twice h at_ ha hlo
  rw [h1, h2] at h3
  exact h3
theorem nat_drop0 {at_ : Int} {b : Bool} (h : NAt w0 F r s W) (ha : Nt.i64 at_) (hlo : 0 ≤ s.lost ∧ s.lost ≤ 1000000) (h1 : Nt.takeB s = b) (h2 : Nt.dropS s at_ = s') : Calls Try.prog 20 #[.pointer (some ⟨r, 0, none⟩), .int .i64 at_] W (NRes w0 F r s' (.bool b) W) := by
  have h3 := nat_drop h at_ ha hlo
  rw [h1, h2] at h3
  exact h3
theorem nlen1 {n : Nat} (h : NAt w0 F r s W) (hn : s.l.length = n) : Calls Try.prog 25 #[.pointer (some ⟨r, 0, none⟩)] W (fun e w' => e = .returned (.int .i64 (n : Nat)) ∧ w' = W) := by
  subst hn
  exact nlen_any _ _ _ _ _ h.ask
theorem nlost1 {n : Int} (h : NAt w0 F r s W) (hn : s.lost = n) : Calls Try.prog 27 #[.pointer (some ⟨r, 0, none⟩)] W (fun e w' => e = .returned (.int .i64 n) ∧ w' = W) := by
  subst hn
  exact nlost_any _ _ _ _ _ h.ask
end
set_option maxHeartbeats 12800000 in
theorem netcounts_walk (room : Int) (A : Option Addr) (k c : Nat) (l : List Np) (w : World) (hs : SlN w A k c l) : Calls Try.prog 4 #[.int .i64 room, .slice A k c] w (NPos w (.bool true)) := by
  have CL := Lib.hid (ntlives_any w)
  have CE := Lib.hid (fun W => npearly_any A k c l w W hs)
  obtain ⟨n, hn⟩ : ∃ n, n = min k 100 := ⟨_, rfl⟩
  rw [← hn] at CE
  have hs1 := hs.1.take npC_len (k := n) (by omega)
  have hcm := hs1.max
  have hkc := hs1.cap
  have hc63 : (c : Int) ≤ 9223372036854775807 := by unfold maxLen at hcm; omega
  have hn100 : n ≤ 100 := by omega
  have LN : Hid ((l.take n).length = n) := by show _ = _; have := hs.1.len; rw [List.length_take]; omega
  have INN : Hid (∀ x ∈ l.take n, NpIn x) := fun x hx => hs.2 x (List.mem_of_mem_take hx)
  have S := Lib.hid hs1
  clear hs hs1 hn hcm
  generalize l.take n = es at *
  go_enter Try.func4, Try.ntmps4
  go_upto_region 3 with (go_at_call 9; (with_reducible refine CL.out.mono ?_); rintro e w1 ⟨rfl, hb⟩; have B1 := Lib.hid hb; clear hb)
  have CN := Lib.hid (nat_new (w0 := w) (W := w1) (F := fun _ => False) room B1.out (fun b h => h.elim))
  go_upto_region 5 with (first
    | (go_at_call 10; (with_reducible refine CN.out.mono ?_); rintro e w2 ⟨r, rfl, hn, _⟩; have N2 := Lib.hid hn; clear hn)
    | (go_at_call 12; (with_reducible refine (CE.out _).mono ?_); rintro e wz ⟨rfl, hw⟩; rw [hw]; clear hw wz))
  have C0 : Hid (Cn room 0 0 0 0 (Nt.new room)) := ⟨rfl, by refine ⟨by omega, by omega, by omega, by omega, by omega, by omega, ?_, ?_, ?_, ?_, by omega⟩ <;> (unfold Nt.new; simp), rfl, Nt.new_ok room⟩
  clear CN CL B1 CE
  go_wp2_with fail
  go_loopw [6, 7, 8, 9] (fun a b d i wr => ∃ (j : Nat) (put took full : Int) (s : Nt.St), j ≤ n ∧ i = .int .i64 j ∧ a = .int .i64 put ∧ b = .int .i64 took ∧ d = .int .i64 full ∧ Cn room put took full j s ∧ NAt w (fun _ => False) r s wr) (fun _ _ _ i _ => n - (intOf i).toNat)
  case atStart => exact ⟨0, 0, 0, 0, Nt.new room, by omega, rfl, rfl, rfl, rfl, C0.out, N2.out⟩
  case round =>
    clear N2 C0
    obtain ⟨j, put, took, full, s, hj, rfl, rfl, rfl, rfl, hc, hm⟩ := hrel
    have C := Lib.hid hc
    have N := Lib.hid hm
    clear hc hm
    by_cases hlt : j < n
    · have hjl : j < es.length := by have := LN.out; omega
      have EX : Hid (es[j]? = some es[j]) := List.getElem?_eq_getElem hjl
      have HIN : Hid (NpIn es[j]) := INN.out _ (List.getElem_mem hjl)
      generalize es[j] = x at EX HIN
      obtain ⟨b, o, rfl, hbl, hrg⟩ := np_range (S.out.on N.out.below) EX.out
      have RG := Lib.hid hrg
      have i1 : (0 : Int) ≤ (j : Int) := by omega
      have i2 : (j : Int) < (n : Int) := by omega
      have hj1 : j < 100 := by omega
      have hb1 : Below wr.heap.size wr (wr.alloc (.cells (npCs x) 34)) := (Below.refl _ _).alloc (Nat.le_refl _) _
      have N1 := Lib.hid (N.out.on hb1)
      have X1 := Lib.hid (NpAt.new wr x)
      have CK := Lib.hid (fun W => npkind_any x W)
      clear hrg hbl hb1 N
      rcases npK_cases x with hk | hk | hk | hk | hk
      · rw [hk] at CK
        clear hk
        go_upto_region 13 with (first
          | ((with_reducible show wpList _ _ _ ({ dst := some 30, op := .load _ _, type := _, pos := _, after := _, guard := _ } :: _) _ _); refine wpList_load_np rfl (.tmp 29) rfl b (o + j * 8) rfl x RG.out ?_)
          | ((with_reducible show wpList _ _ _ ({ dst := some 31, op := .load _ _, type := _, pos := _, after := _, guard := _ } :: _) _ _); refine wpList_load_np rfl (.tmp 10) rfl wr.heap.size 0 rfl x X1.out.range ?_)
          | (go_at_call 13; (with_reducible refine (CK.out _).mono ?_); rintro e w3 ⟨rfl, hb⟩; have N3 := Lib.hid (N1.out.on hb); have X3 := Lib.hid (X1.out.on hb); clear hb))
        obtain ⟨g, hg⟩ : ∃ g, g = wr.heap.size := ⟨_, rfl⟩
        rw [← hg] at X3 ⊢
        clear hg N1 X1 CK RG
        obtain ⟨x0, x1, xl⟩ := X3.out.cs
        rcases C.out.send (npM x) (npM_in HIN.out) hj1 with ⟨he, C2⟩ | ⟨he, C2⟩ | ⟨he, C2⟩
        · have C2 := Lib.hid C2
          have CC := Lib.hid (fun W (h : NAt w (fun _ => False) r s W) => nat_send0 h (npM_in HIN.out) C.out.lo C.out.se he rfl)
          obtain ⟨s2, hs2⟩ : ∃ s2, s2 = Nt.sendS s (npM x) := ⟨_, rfl⟩
          rw [← hs2] at CC C2
          clear hs2 he
          obtain ⟨D1, hd1, hv1⟩ : ∃ D, wrap64 (put - took) = D ∧ D = put - took := ⟨_, rfl, IntWalk.wrap64_in _ ⟨by have := C2.out.b; omega, by have := C2.out.b; omega⟩⟩
          obtain ⟨D2, hd2, hv2⟩ : ∃ D, wrap64 (s2.lost - full) = D ∧ D = s2.lost - full := ⟨_, rfl, IntWalk.wrap64_in _ ⟨by have := C2.out.b; omega, by have := C2.out.b; omega⟩⟩
          have hd3 : wrap64 (D1 - D2) = (s2.l.length : Int) := by
            have h1 := C2.out.eq
            rw [IntWalk.wrap64_in _ ⟨by have := C2.out.b; omega, by have := C2.out.b; omega⟩]
            omega
          have hle : decide (max (min room 64) 1 < (s2.l.length : Int)) = false := by rw [decide_eq_false_iff_not]; have := C2.out.top; omega
          have hle2 : ¬ (max (min room 64) 1 < (s2.l.length : Int)) := by have := C2.out.top; omega
          have hp1 : wrap64 (put + 1) = put + 1 := IntWalk.wrap64_in _ ⟨by have := C.out.b; omega, by have := C.out.b; omega⟩
          have hp2 : wrap64 (took + 1) = took + 1 := IntWalk.wrap64_in _ ⟨by have := C.out.b; omega, by have := C.out.b; omega⟩
          have hp3 : wrap64 (full + 1) = full + 1 := IntWalk.wrap64_in _ ⟨by have := C.out.b; omega, by have := C.out.b; omega⟩
          clear hv1 hv2
          generalize hln : s2.l.length = ln at *
          have HLN := Lib.hid hln
          clear hln
          generalize hlo : s2.lost = lo at *
          have HLO := Lib.hid hlo
          clear hlo
          go_wp2_with (first
            | ((with_reducible show wpList _ _ _ ({ dst := some 37, op := .load _ _, type := _, pos := _, after := _, guard := _ } :: _) _ _); refine wpList_load_np rfl (.tmp 10) rfl g 0 rfl x X3.out.range ?_)
            | (go_at_call 15; (with_reducible refine (npmsg_any x _).mono ?_); rintro e w4 ⟨rfl, hb⟩; have N3 := Lib.hid (N3.out.on hb); clear hb)
            | (go_at_call 16; (with_reducible refine (CC.out _ N3.out).mono ?_); rintro e w5 ⟨rfl, hn5, _⟩; have N5 := Lib.hid hn5; clear hn5)
            | (go_at_call 25; (with_reducible refine (nlen1 N5.out HLN.out).mono ?_); rintro e wz ⟨rfl, hw⟩; rw [hw]; clear hw wz)
            | (go_at_call 27; (with_reducible refine (nlost1 N5.out HLO.out).mono ?_); rintro e wz ⟨rfl, hw⟩; rw [hw]; clear hw wz))
          exact ⟨⟨j + 1, put, took, full, s2, by omega, by go_num, rfl, rfl, rfl, C2.out, N5.out⟩, by simp [intOf]; omega⟩
        · have C2 := Lib.hid C2
          have CC := Lib.hid (fun W (h : NAt w (fun _ => False) r s W) => nat_send0 h (npM_in HIN.out) C.out.lo C.out.se he rfl)
          obtain ⟨s2, hs2⟩ : ∃ s2, s2 = Nt.sendS s (npM x) := ⟨_, rfl⟩
          rw [← hs2] at CC C2
          clear hs2 he
          obtain ⟨D1, hd1, hv1⟩ : ∃ D, wrap64 ((put + 1) - took) = D ∧ D = (put + 1) - took := ⟨_, rfl, IntWalk.wrap64_in _ ⟨by have := C2.out.b; omega, by have := C2.out.b; omega⟩⟩
          obtain ⟨D2, hd2, hv2⟩ : ∃ D, wrap64 (s2.lost - full) = D ∧ D = s2.lost - full := ⟨_, rfl, IntWalk.wrap64_in _ ⟨by have := C2.out.b; omega, by have := C2.out.b; omega⟩⟩
          have hd3 : wrap64 (D1 - D2) = (s2.l.length : Int) := by
            have h1 := C2.out.eq
            rw [IntWalk.wrap64_in _ ⟨by have := C2.out.b; omega, by have := C2.out.b; omega⟩]
            omega
          have hle : decide (max (min room 64) 1 < (s2.l.length : Int)) = false := by rw [decide_eq_false_iff_not]; have := C2.out.top; omega
          have hle2 : ¬ (max (min room 64) 1 < (s2.l.length : Int)) := by have := C2.out.top; omega
          have hp1 : wrap64 (put + 1) = put + 1 := IntWalk.wrap64_in _ ⟨by have := C.out.b; omega, by have := C.out.b; omega⟩
          have hp2 : wrap64 (took + 1) = took + 1 := IntWalk.wrap64_in _ ⟨by have := C.out.b; omega, by have := C.out.b; omega⟩
          have hp3 : wrap64 (full + 1) = full + 1 := IntWalk.wrap64_in _ ⟨by have := C.out.b; omega, by have := C.out.b; omega⟩
          clear hv1 hv2
          generalize hln : s2.l.length = ln at *
          have HLN := Lib.hid hln
          clear hln
          generalize hlo : s2.lost = lo at *
          have HLO := Lib.hid hlo
          clear hlo
          go_wp2_with (first
            | ((with_reducible show wpList _ _ _ ({ dst := some 37, op := .load _ _, type := _, pos := _, after := _, guard := _ } :: _) _ _); refine wpList_load_np rfl (.tmp 10) rfl g 0 rfl x X3.out.range ?_)
            | (go_at_call 15; (with_reducible refine (npmsg_any x _).mono ?_); rintro e w4 ⟨rfl, hb⟩; have N3 := Lib.hid (N3.out.on hb); clear hb)
            | (go_at_call 16; (with_reducible refine (CC.out _ N3.out).mono ?_); rintro e w5 ⟨rfl, hn5, _⟩; have N5 := Lib.hid hn5; clear hn5)
            | (go_at_call 25; (with_reducible refine (nlen1 N5.out HLN.out).mono ?_); rintro e wz ⟨rfl, hw⟩; rw [hw]; clear hw wz)
            | (go_at_call 27; (with_reducible refine (nlost1 N5.out HLO.out).mono ?_); rintro e wz ⟨rfl, hw⟩; rw [hw]; clear hw wz))
          exact ⟨⟨j + 1, (put + 1), took, full, s2, by omega, by go_num, rfl, rfl, rfl, C2.out, N5.out⟩, by simp [intOf]; omega⟩
        · have C2 := Lib.hid C2
          have CC := Lib.hid (fun W (h : NAt w (fun _ => False) r s W) => nat_send0 h (npM_in HIN.out) C.out.lo C.out.se he rfl)
          obtain ⟨s2, hs2⟩ : ∃ s2, s2 = Nt.sendS s (npM x) := ⟨_, rfl⟩
          rw [← hs2] at CC C2
          clear hs2 he
          obtain ⟨D1, hd1, hv1⟩ : ∃ D, wrap64 (put - took) = D ∧ D = put - took := ⟨_, rfl, IntWalk.wrap64_in _ ⟨by have := C2.out.b; omega, by have := C2.out.b; omega⟩⟩
          obtain ⟨D2, hd2, hv2⟩ : ∃ D, wrap64 (s2.lost - (full + 1)) = D ∧ D = s2.lost - (full + 1) := ⟨_, rfl, IntWalk.wrap64_in _ ⟨by have := C2.out.b; omega, by have := C2.out.b; omega⟩⟩
          have hd3 : wrap64 (D1 - D2) = (s2.l.length : Int) := by
            have h1 := C2.out.eq
            rw [IntWalk.wrap64_in _ ⟨by have := C2.out.b; omega, by have := C2.out.b; omega⟩]
            omega
          have hle : decide (max (min room 64) 1 < (s2.l.length : Int)) = false := by rw [decide_eq_false_iff_not]; have := C2.out.top; omega
          have hle2 : ¬ (max (min room 64) 1 < (s2.l.length : Int)) := by have := C2.out.top; omega
          have hp1 : wrap64 (put + 1) = put + 1 := IntWalk.wrap64_in _ ⟨by have := C.out.b; omega, by have := C.out.b; omega⟩
          have hp2 : wrap64 (took + 1) = took + 1 := IntWalk.wrap64_in _ ⟨by have := C.out.b; omega, by have := C.out.b; omega⟩
          have hp3 : wrap64 (full + 1) = full + 1 := IntWalk.wrap64_in _ ⟨by have := C.out.b; omega, by have := C.out.b; omega⟩
          clear hv1 hv2
          generalize hln : s2.l.length = ln at *
          have HLN := Lib.hid hln
          clear hln
          generalize hlo : s2.lost = lo at *
          have HLO := Lib.hid hlo
          clear hlo
          go_wp2_with (first
            | ((with_reducible show wpList _ _ _ ({ dst := some 37, op := .load _ _, type := _, pos := _, after := _, guard := _ } :: _) _ _); refine wpList_load_np rfl (.tmp 10) rfl g 0 rfl x X3.out.range ?_)
            | (go_at_call 15; (with_reducible refine (npmsg_any x _).mono ?_); rintro e w4 ⟨rfl, hb⟩; have N3 := Lib.hid (N3.out.on hb); clear hb)
            | (go_at_call 16; (with_reducible refine (CC.out _ N3.out).mono ?_); rintro e w5 ⟨rfl, hn5, _⟩; have N5 := Lib.hid hn5; clear hn5)
            | (go_at_call 25; (with_reducible refine (nlen1 N5.out HLN.out).mono ?_); rintro e wz ⟨rfl, hw⟩; rw [hw]; clear hw wz)
            | (go_at_call 27; (with_reducible refine (nlost1 N5.out HLO.out).mono ?_); rintro e wz ⟨rfl, hw⟩; rw [hw]; clear hw wz))
          exact ⟨⟨j + 1, put, took, (full + 1), s2, by omega, by go_num, rfl, rfl, rfl, C2.out, N5.out⟩, by simp [intOf]; omega⟩
      · rw [hk] at CK
        clear hk
        go_upto_region 13 with (first
          | ((with_reducible show wpList _ _ _ ({ dst := some 30, op := .load _ _, type := _, pos := _, after := _, guard := _ } :: _) _ _); refine wpList_load_np rfl (.tmp 29) rfl b (o + j * 8) rfl x RG.out ?_)
          | ((with_reducible show wpList _ _ _ ({ dst := some 31, op := .load _ _, type := _, pos := _, after := _, guard := _ } :: _) _ _); refine wpList_load_np rfl (.tmp 10) rfl wr.heap.size 0 rfl x X1.out.range ?_)
          | (go_at_call 13; (with_reducible refine (CK.out _).mono ?_); rintro e w3 ⟨rfl, hb⟩; have N3 := Lib.hid (N1.out.on hb); have X3 := Lib.hid (X1.out.on hb); clear hb))
        obtain ⟨g, hg⟩ : ∃ g, g = wr.heap.size := ⟨_, rfl⟩
        rw [← hg] at X3 ⊢
        clear hg N1 X1 CK RG
        obtain ⟨x0, x1, xl⟩ := X3.out.cs
        rcases C.out.send (npM x) (npM_in HIN.out) hj1 with ⟨he, C2⟩ | ⟨he, C2⟩ | ⟨he, C2⟩
        · have C2 := Lib.hid C2
          have CC := Lib.hid (fun W (h : NAt w (fun _ => False) r s W) => nat_send0 h (npM_in HIN.out) C.out.lo C.out.se he rfl)
          obtain ⟨s2, hs2⟩ : ∃ s2, s2 = Nt.sendS s (npM x) := ⟨_, rfl⟩
          rw [← hs2] at CC C2
          clear hs2 he
          obtain ⟨D1, hd1, hv1⟩ : ∃ D, wrap64 (put - took) = D ∧ D = put - took := ⟨_, rfl, IntWalk.wrap64_in _ ⟨by have := C2.out.b; omega, by have := C2.out.b; omega⟩⟩
          obtain ⟨D2, hd2, hv2⟩ : ∃ D, wrap64 (s2.lost - full) = D ∧ D = s2.lost - full := ⟨_, rfl, IntWalk.wrap64_in _ ⟨by have := C2.out.b; omega, by have := C2.out.b; omega⟩⟩
          have hd3 : wrap64 (D1 - D2) = (s2.l.length : Int) := by
            have h1 := C2.out.eq
            rw [IntWalk.wrap64_in _ ⟨by have := C2.out.b; omega, by have := C2.out.b; omega⟩]
            omega
          have hle : decide (max (min room 64) 1 < (s2.l.length : Int)) = false := by rw [decide_eq_false_iff_not]; have := C2.out.top; omega
          have hle2 : ¬ (max (min room 64) 1 < (s2.l.length : Int)) := by have := C2.out.top; omega
          have hp1 : wrap64 (put + 1) = put + 1 := IntWalk.wrap64_in _ ⟨by have := C.out.b; omega, by have := C.out.b; omega⟩
          have hp2 : wrap64 (took + 1) = took + 1 := IntWalk.wrap64_in _ ⟨by have := C.out.b; omega, by have := C.out.b; omega⟩
          have hp3 : wrap64 (full + 1) = full + 1 := IntWalk.wrap64_in _ ⟨by have := C.out.b; omega, by have := C.out.b; omega⟩
          clear hv1 hv2
          generalize hln : s2.l.length = ln at *
          have HLN := Lib.hid hln
          clear hln
          generalize hlo : s2.lost = lo at *
          have HLO := Lib.hid hlo
          clear hlo
          go_wp2_with (first
            | ((with_reducible show wpList _ _ _ ({ dst := some 37, op := .load _ _, type := _, pos := _, after := _, guard := _ } :: _) _ _); refine wpList_load_np rfl (.tmp 10) rfl g 0 rfl x X3.out.range ?_)
            | (go_at_call 15; (with_reducible refine (npmsg_any x _).mono ?_); rintro e w4 ⟨rfl, hb⟩; have N3 := Lib.hid (N3.out.on hb); clear hb)
            | (go_at_call 16; (with_reducible refine (CC.out _ N3.out).mono ?_); rintro e w5 ⟨rfl, hn5, _⟩; have N5 := Lib.hid hn5; clear hn5)
            | (go_at_call 25; (with_reducible refine (nlen1 N5.out HLN.out).mono ?_); rintro e wz ⟨rfl, hw⟩; rw [hw]; clear hw wz)
            | (go_at_call 27; (with_reducible refine (nlost1 N5.out HLO.out).mono ?_); rintro e wz ⟨rfl, hw⟩; rw [hw]; clear hw wz))
          exact ⟨⟨j + 1, put, took, full, s2, by omega, by go_num, rfl, rfl, rfl, C2.out, N5.out⟩, by simp [intOf]; omega⟩
        · have C2 := Lib.hid C2
          have CC := Lib.hid (fun W (h : NAt w (fun _ => False) r s W) => nat_send0 h (npM_in HIN.out) C.out.lo C.out.se he rfl)
          obtain ⟨s2, hs2⟩ : ∃ s2, s2 = Nt.sendS s (npM x) := ⟨_, rfl⟩
          rw [← hs2] at CC C2
          clear hs2 he
          obtain ⟨D1, hd1, hv1⟩ : ∃ D, wrap64 ((put + 1) - took) = D ∧ D = (put + 1) - took := ⟨_, rfl, IntWalk.wrap64_in _ ⟨by have := C2.out.b; omega, by have := C2.out.b; omega⟩⟩
          obtain ⟨D2, hd2, hv2⟩ : ∃ D, wrap64 (s2.lost - full) = D ∧ D = s2.lost - full := ⟨_, rfl, IntWalk.wrap64_in _ ⟨by have := C2.out.b; omega, by have := C2.out.b; omega⟩⟩
          have hd3 : wrap64 (D1 - D2) = (s2.l.length : Int) := by
            have h1 := C2.out.eq
            rw [IntWalk.wrap64_in _ ⟨by have := C2.out.b; omega, by have := C2.out.b; omega⟩]
            omega
          have hle : decide (max (min room 64) 1 < (s2.l.length : Int)) = false := by rw [decide_eq_false_iff_not]; have := C2.out.top; omega
          have hle2 : ¬ (max (min room 64) 1 < (s2.l.length : Int)) := by have := C2.out.top; omega
          have hp1 : wrap64 (put + 1) = put + 1 := IntWalk.wrap64_in _ ⟨by have := C.out.b; omega, by have := C.out.b; omega⟩
          have hp2 : wrap64 (took + 1) = took + 1 := IntWalk.wrap64_in _ ⟨by have := C.out.b; omega, by have := C.out.b; omega⟩
          have hp3 : wrap64 (full + 1) = full + 1 := IntWalk.wrap64_in _ ⟨by have := C.out.b; omega, by have := C.out.b; omega⟩
          clear hv1 hv2
          generalize hln : s2.l.length = ln at *
          have HLN := Lib.hid hln
          clear hln
          generalize hlo : s2.lost = lo at *
          have HLO := Lib.hid hlo
          clear hlo
          go_wp2_with (first
            | ((with_reducible show wpList _ _ _ ({ dst := some 37, op := .load _ _, type := _, pos := _, after := _, guard := _ } :: _) _ _); refine wpList_load_np rfl (.tmp 10) rfl g 0 rfl x X3.out.range ?_)
            | (go_at_call 15; (with_reducible refine (npmsg_any x _).mono ?_); rintro e w4 ⟨rfl, hb⟩; have N3 := Lib.hid (N3.out.on hb); clear hb)
            | (go_at_call 16; (with_reducible refine (CC.out _ N3.out).mono ?_); rintro e w5 ⟨rfl, hn5, _⟩; have N5 := Lib.hid hn5; clear hn5)
            | (go_at_call 25; (with_reducible refine (nlen1 N5.out HLN.out).mono ?_); rintro e wz ⟨rfl, hw⟩; rw [hw]; clear hw wz)
            | (go_at_call 27; (with_reducible refine (nlost1 N5.out HLO.out).mono ?_); rintro e wz ⟨rfl, hw⟩; rw [hw]; clear hw wz))
          exact ⟨⟨j + 1, (put + 1), took, full, s2, by omega, by go_num, rfl, rfl, rfl, C2.out, N5.out⟩, by simp [intOf]; omega⟩
        · have C2 := Lib.hid C2
          have CC := Lib.hid (fun W (h : NAt w (fun _ => False) r s W) => nat_send0 h (npM_in HIN.out) C.out.lo C.out.se he rfl)
          obtain ⟨s2, hs2⟩ : ∃ s2, s2 = Nt.sendS s (npM x) := ⟨_, rfl⟩
          rw [← hs2] at CC C2
          clear hs2 he
          obtain ⟨D1, hd1, hv1⟩ : ∃ D, wrap64 (put - took) = D ∧ D = put - took := ⟨_, rfl, IntWalk.wrap64_in _ ⟨by have := C2.out.b; omega, by have := C2.out.b; omega⟩⟩
          obtain ⟨D2, hd2, hv2⟩ : ∃ D, wrap64 (s2.lost - (full + 1)) = D ∧ D = s2.lost - (full + 1) := ⟨_, rfl, IntWalk.wrap64_in _ ⟨by have := C2.out.b; omega, by have := C2.out.b; omega⟩⟩
          have hd3 : wrap64 (D1 - D2) = (s2.l.length : Int) := by
            have h1 := C2.out.eq
            rw [IntWalk.wrap64_in _ ⟨by have := C2.out.b; omega, by have := C2.out.b; omega⟩]
            omega
          have hle : decide (max (min room 64) 1 < (s2.l.length : Int)) = false := by rw [decide_eq_false_iff_not]; have := C2.out.top; omega
          have hle2 : ¬ (max (min room 64) 1 < (s2.l.length : Int)) := by have := C2.out.top; omega
          have hp1 : wrap64 (put + 1) = put + 1 := IntWalk.wrap64_in _ ⟨by have := C.out.b; omega, by have := C.out.b; omega⟩
          have hp2 : wrap64 (took + 1) = took + 1 := IntWalk.wrap64_in _ ⟨by have := C.out.b; omega, by have := C.out.b; omega⟩
          have hp3 : wrap64 (full + 1) = full + 1 := IntWalk.wrap64_in _ ⟨by have := C.out.b; omega, by have := C.out.b; omega⟩
          clear hv1 hv2
          generalize hln : s2.l.length = ln at *
          have HLN := Lib.hid hln
          clear hln
          generalize hlo : s2.lost = lo at *
          have HLO := Lib.hid hlo
          clear hlo
          go_wp2_with (first
            | ((with_reducible show wpList _ _ _ ({ dst := some 37, op := .load _ _, type := _, pos := _, after := _, guard := _ } :: _) _ _); refine wpList_load_np rfl (.tmp 10) rfl g 0 rfl x X3.out.range ?_)
            | (go_at_call 15; (with_reducible refine (npmsg_any x _).mono ?_); rintro e w4 ⟨rfl, hb⟩; have N3 := Lib.hid (N3.out.on hb); clear hb)
            | (go_at_call 16; (with_reducible refine (CC.out _ N3.out).mono ?_); rintro e w5 ⟨rfl, hn5, _⟩; have N5 := Lib.hid hn5; clear hn5)
            | (go_at_call 25; (with_reducible refine (nlen1 N5.out HLN.out).mono ?_); rintro e wz ⟨rfl, hw⟩; rw [hw]; clear hw wz)
            | (go_at_call 27; (with_reducible refine (nlost1 N5.out HLO.out).mono ?_); rintro e wz ⟨rfl, hw⟩; rw [hw]; clear hw wz))
          exact ⟨⟨j + 1, put, took, (full + 1), s2, by omega, by go_num, rfl, rfl, rfl, C2.out, N5.out⟩, by simp [intOf]; omega⟩
      · rw [hk] at CK
        clear hk
        go_upto_region 19 with (first
          | ((with_reducible show wpList _ _ _ ({ dst := some 30, op := .load _ _, type := _, pos := _, after := _, guard := _ } :: _) _ _); refine wpList_load_np rfl (.tmp 29) rfl b (o + j * 8) rfl x RG.out ?_)
          | ((with_reducible show wpList _ _ _ ({ dst := some 31, op := .load _ _, type := _, pos := _, after := _, guard := _ } :: _) _ _); refine wpList_load_np rfl (.tmp 10) rfl wr.heap.size 0 rfl x X1.out.range ?_)
          | (go_at_call 13; (with_reducible refine (CK.out _).mono ?_); rintro e w3 ⟨rfl, hb⟩; have N3 := Lib.hid (N1.out.on hb); have X3 := Lib.hid (X1.out.on hb); clear hb))
        obtain ⟨g, hg⟩ : ∃ g, g = wr.heap.size := ⟨_, rfl⟩
        rw [← hg] at X3 ⊢
        clear hg N1 X1 CK RG
        obtain ⟨x0, x1, xl⟩ := X3.out.cs
        rcases C.out.take x.n hj1 with ⟨he, C2⟩ | ⟨he, C2⟩
        · have C2 := Lib.hid C2
          have CC := Lib.hid (fun W (h : NAt w (fun _ => False) r s W) => nat_take0 h HIN.out.n he rfl rfl)
          obtain ⟨s2, hs2⟩ : ∃ s2, s2 = Nt.takeS s x.n := ⟨_, rfl⟩
          rw [← hs2] at CC C2
          clear hs2 he
          obtain ⟨D1, hd1, hv1⟩ : ∃ D, wrap64 (put - (took + 1)) = D ∧ D = put - (took + 1) := ⟨_, rfl, IntWalk.wrap64_in _ ⟨by have := C2.out.b; omega, by have := C2.out.b; omega⟩⟩
          obtain ⟨D2, hd2, hv2⟩ : ∃ D, wrap64 (s2.lost - full) = D ∧ D = s2.lost - full := ⟨_, rfl, IntWalk.wrap64_in _ ⟨by have := C2.out.b; omega, by have := C2.out.b; omega⟩⟩
          have hd3 : wrap64 (D1 - D2) = (s2.l.length : Int) := by
            have h1 := C2.out.eq
            rw [IntWalk.wrap64_in _ ⟨by have := C2.out.b; omega, by have := C2.out.b; omega⟩]
            omega
          have hle : decide (max (min room 64) 1 < (s2.l.length : Int)) = false := by rw [decide_eq_false_iff_not]; have := C2.out.top; omega
          have hle2 : ¬ (max (min room 64) 1 < (s2.l.length : Int)) := by have := C2.out.top; omega
          have hp1 : wrap64 (put + 1) = put + 1 := IntWalk.wrap64_in _ ⟨by have := C.out.b; omega, by have := C.out.b; omega⟩
          have hp2 : wrap64 (took + 1) = took + 1 := IntWalk.wrap64_in _ ⟨by have := C.out.b; omega, by have := C.out.b; omega⟩
          have hp3 : wrap64 (full + 1) = full + 1 := IntWalk.wrap64_in _ ⟨by have := C.out.b; omega, by have := C.out.b; omega⟩
          clear hv1 hv2
          generalize hln : s2.l.length = ln at *
          have HLN := Lib.hid hln
          clear hln
          generalize hlo : s2.lost = lo at *
          have HLO := Lib.hid hlo
          clear hlo
          go_wp2_with (first
            | ((with_reducible show wpList _ _ _ ({ dst := some 37, op := .load _ _, type := _, pos := _, after := _, guard := _ } :: _) _ _); refine wpList_load_np rfl (.tmp 10) rfl g 0 rfl x X3.out.range ?_)
            | (go_at_call 15; (with_reducible refine (npmsg_any x _).mono ?_); rintro e w4 ⟨rfl, hb⟩; have N3 := Lib.hid (N3.out.on hb); clear hb)
            | (go_at_call 18; (with_reducible refine (CC.out _ N3.out).mono ?_); rintro e w5 ⟨rfl, hn5, _⟩; have N5 := Lib.hid (NAt.on hn5 ((Below.refl w5.heap.size w5).alloc (Nat.le_refl _) (.cells (Nt.cs (Nt.takeM s x.n)) 32))); clear hn5)
            | (go_at_call 25; (with_reducible refine (nlen1 N5.out HLN.out).mono ?_); rintro e wz ⟨rfl, hw⟩; rw [hw]; clear hw wz)
            | (go_at_call 27; (with_reducible refine (nlost1 N5.out HLO.out).mono ?_); rintro e wz ⟨rfl, hw⟩; rw [hw]; clear hw wz))
          exact ⟨⟨j + 1, put, (took + 1), full, s2, by omega, by go_num, rfl, rfl, rfl, C2.out, N5.out⟩, by simp [intOf]; omega⟩
        · have C2 := Lib.hid C2
          have CC := Lib.hid (fun W (h : NAt w (fun _ => False) r s W) => nat_take0 h HIN.out.n he rfl rfl)
          obtain ⟨s2, hs2⟩ : ∃ s2, s2 = Nt.takeS s x.n := ⟨_, rfl⟩
          rw [← hs2] at CC C2
          clear hs2 he
          obtain ⟨D1, hd1, hv1⟩ : ∃ D, wrap64 (put - took) = D ∧ D = put - took := ⟨_, rfl, IntWalk.wrap64_in _ ⟨by have := C2.out.b; omega, by have := C2.out.b; omega⟩⟩
          obtain ⟨D2, hd2, hv2⟩ : ∃ D, wrap64 (s2.lost - full) = D ∧ D = s2.lost - full := ⟨_, rfl, IntWalk.wrap64_in _ ⟨by have := C2.out.b; omega, by have := C2.out.b; omega⟩⟩
          have hd3 : wrap64 (D1 - D2) = (s2.l.length : Int) := by
            have h1 := C2.out.eq
            rw [IntWalk.wrap64_in _ ⟨by have := C2.out.b; omega, by have := C2.out.b; omega⟩]
            omega
          have hle : decide (max (min room 64) 1 < (s2.l.length : Int)) = false := by rw [decide_eq_false_iff_not]; have := C2.out.top; omega
          have hle2 : ¬ (max (min room 64) 1 < (s2.l.length : Int)) := by have := C2.out.top; omega
          have hp1 : wrap64 (put + 1) = put + 1 := IntWalk.wrap64_in _ ⟨by have := C.out.b; omega, by have := C.out.b; omega⟩
          have hp2 : wrap64 (took + 1) = took + 1 := IntWalk.wrap64_in _ ⟨by have := C.out.b; omega, by have := C.out.b; omega⟩
          have hp3 : wrap64 (full + 1) = full + 1 := IntWalk.wrap64_in _ ⟨by have := C.out.b; omega, by have := C.out.b; omega⟩
          clear hv1 hv2
          generalize hln : s2.l.length = ln at *
          have HLN := Lib.hid hln
          clear hln
          generalize hlo : s2.lost = lo at *
          have HLO := Lib.hid hlo
          clear hlo
          go_wp2_with (first
            | ((with_reducible show wpList _ _ _ ({ dst := some 37, op := .load _ _, type := _, pos := _, after := _, guard := _ } :: _) _ _); refine wpList_load_np rfl (.tmp 10) rfl g 0 rfl x X3.out.range ?_)
            | (go_at_call 15; (with_reducible refine (npmsg_any x _).mono ?_); rintro e w4 ⟨rfl, hb⟩; have N3 := Lib.hid (N3.out.on hb); clear hb)
            | (go_at_call 18; (with_reducible refine (CC.out _ N3.out).mono ?_); rintro e w5 ⟨rfl, hn5, _⟩; have N5 := Lib.hid (NAt.on hn5 ((Below.refl w5.heap.size w5).alloc (Nat.le_refl _) (.cells (Nt.cs (Nt.takeM s x.n)) 32))); clear hn5)
            | (go_at_call 25; (with_reducible refine (nlen1 N5.out HLN.out).mono ?_); rintro e wz ⟨rfl, hw⟩; rw [hw]; clear hw wz)
            | (go_at_call 27; (with_reducible refine (nlost1 N5.out HLO.out).mono ?_); rintro e wz ⟨rfl, hw⟩; rw [hw]; clear hw wz))
          exact ⟨⟨j + 1, put, took, full, s2, by omega, by go_num, rfl, rfl, rfl, C2.out, N5.out⟩, by simp [intOf]; omega⟩
      · rw [hk] at CK
        clear hk
        go_upto_region 23 with (first
          | ((with_reducible show wpList _ _ _ ({ dst := some 30, op := .load _ _, type := _, pos := _, after := _, guard := _ } :: _) _ _); refine wpList_load_np rfl (.tmp 29) rfl b (o + j * 8) rfl x RG.out ?_)
          | ((with_reducible show wpList _ _ _ ({ dst := some 31, op := .load _ _, type := _, pos := _, after := _, guard := _ } :: _) _ _); refine wpList_load_np rfl (.tmp 10) rfl wr.heap.size 0 rfl x X1.out.range ?_)
          | (go_at_call 13; (with_reducible refine (CK.out _).mono ?_); rintro e w3 ⟨rfl, hb⟩; have N3 := Lib.hid (N1.out.on hb); have X3 := Lib.hid (X1.out.on hb); clear hb))
        obtain ⟨g, hg⟩ : ∃ g, g = wr.heap.size := ⟨_, rfl⟩
        rw [← hg] at X3 ⊢
        clear hg N1 X1 CK RG
        obtain ⟨x0, x1, xl⟩ := X3.out.cs
        rcases C.out.drop x.n hj1 with ⟨he, C2⟩ | ⟨he, C2⟩
        · have C2 := Lib.hid C2
          have CC := Lib.hid (fun W (h : NAt w (fun _ => False) r s W) => nat_drop0 h HIN.out.n C.out.lo he rfl)
          obtain ⟨s2, hs2⟩ : ∃ s2, s2 = Nt.dropS s x.n := ⟨_, rfl⟩
          rw [← hs2] at CC C2
          clear hs2 he
          obtain ⟨D1, hd1, hv1⟩ : ∃ D, wrap64 (put - took) = D ∧ D = put - took := ⟨_, rfl, IntWalk.wrap64_in _ ⟨by have := C2.out.b; omega, by have := C2.out.b; omega⟩⟩
          obtain ⟨D2, hd2, hv2⟩ : ∃ D, wrap64 (s2.lost - full) = D ∧ D = s2.lost - full := ⟨_, rfl, IntWalk.wrap64_in _ ⟨by have := C2.out.b; omega, by have := C2.out.b; omega⟩⟩
          have hd3 : wrap64 (D1 - D2) = (s2.l.length : Int) := by
            have h1 := C2.out.eq
            rw [IntWalk.wrap64_in _ ⟨by have := C2.out.b; omega, by have := C2.out.b; omega⟩]
            omega
          have hle : decide (max (min room 64) 1 < (s2.l.length : Int)) = false := by rw [decide_eq_false_iff_not]; have := C2.out.top; omega
          have hle2 : ¬ (max (min room 64) 1 < (s2.l.length : Int)) := by have := C2.out.top; omega
          have hp1 : wrap64 (put + 1) = put + 1 := IntWalk.wrap64_in _ ⟨by have := C.out.b; omega, by have := C.out.b; omega⟩
          have hp2 : wrap64 (took + 1) = took + 1 := IntWalk.wrap64_in _ ⟨by have := C.out.b; omega, by have := C.out.b; omega⟩
          have hp3 : wrap64 (full + 1) = full + 1 := IntWalk.wrap64_in _ ⟨by have := C.out.b; omega, by have := C.out.b; omega⟩
          clear hv1 hv2
          generalize hln : s2.l.length = ln at *
          have HLN := Lib.hid hln
          clear hln
          generalize hlo : s2.lost = lo at *
          have HLO := Lib.hid hlo
          clear hlo
          go_wp2_with (first
            | ((with_reducible show wpList _ _ _ ({ dst := some 37, op := .load _ _, type := _, pos := _, after := _, guard := _ } :: _) _ _); refine wpList_load_np rfl (.tmp 10) rfl g 0 rfl x X3.out.range ?_)
            | (go_at_call 15; (with_reducible refine (npmsg_any x _).mono ?_); rintro e w4 ⟨rfl, hb⟩; have N3 := Lib.hid (N3.out.on hb); clear hb)
            | (go_at_call 20; (with_reducible refine (CC.out _ N3.out).mono ?_); rintro e w5 ⟨rfl, hn5, _⟩; have N5 := Lib.hid hn5; clear hn5)
            | (go_at_call 25; (with_reducible refine (nlen1 N5.out HLN.out).mono ?_); rintro e wz ⟨rfl, hw⟩; rw [hw]; clear hw wz)
            | (go_at_call 27; (with_reducible refine (nlost1 N5.out HLO.out).mono ?_); rintro e wz ⟨rfl, hw⟩; rw [hw]; clear hw wz))
          exact ⟨⟨j + 1, put, took, full, s2, by omega, by go_num, rfl, rfl, rfl, C2.out, N5.out⟩, by simp [intOf]; omega⟩
        · have C2 := Lib.hid C2
          have CC := Lib.hid (fun W (h : NAt w (fun _ => False) r s W) => nat_drop0 h HIN.out.n C.out.lo he rfl)
          obtain ⟨s2, hs2⟩ : ∃ s2, s2 = Nt.dropS s x.n := ⟨_, rfl⟩
          rw [← hs2] at CC C2
          clear hs2 he
          obtain ⟨D1, hd1, hv1⟩ : ∃ D, wrap64 (put - took) = D ∧ D = put - took := ⟨_, rfl, IntWalk.wrap64_in _ ⟨by have := C2.out.b; omega, by have := C2.out.b; omega⟩⟩
          obtain ⟨D2, hd2, hv2⟩ : ∃ D, wrap64 (s2.lost - full) = D ∧ D = s2.lost - full := ⟨_, rfl, IntWalk.wrap64_in _ ⟨by have := C2.out.b; omega, by have := C2.out.b; omega⟩⟩
          have hd3 : wrap64 (D1 - D2) = (s2.l.length : Int) := by
            have h1 := C2.out.eq
            rw [IntWalk.wrap64_in _ ⟨by have := C2.out.b; omega, by have := C2.out.b; omega⟩]
            omega
          have hle : decide (max (min room 64) 1 < (s2.l.length : Int)) = false := by rw [decide_eq_false_iff_not]; have := C2.out.top; omega
          have hle2 : ¬ (max (min room 64) 1 < (s2.l.length : Int)) := by have := C2.out.top; omega
          have hp1 : wrap64 (put + 1) = put + 1 := IntWalk.wrap64_in _ ⟨by have := C.out.b; omega, by have := C.out.b; omega⟩
          have hp2 : wrap64 (took + 1) = took + 1 := IntWalk.wrap64_in _ ⟨by have := C.out.b; omega, by have := C.out.b; omega⟩
          have hp3 : wrap64 (full + 1) = full + 1 := IntWalk.wrap64_in _ ⟨by have := C.out.b; omega, by have := C.out.b; omega⟩
          clear hv1 hv2
          generalize hln : s2.l.length = ln at *
          have HLN := Lib.hid hln
          clear hln
          generalize hlo : s2.lost = lo at *
          have HLO := Lib.hid hlo
          clear hlo
          go_wp2_with (first
            | ((with_reducible show wpList _ _ _ ({ dst := some 37, op := .load _ _, type := _, pos := _, after := _, guard := _ } :: _) _ _); refine wpList_load_np rfl (.tmp 10) rfl g 0 rfl x X3.out.range ?_)
            | (go_at_call 15; (with_reducible refine (npmsg_any x _).mono ?_); rintro e w4 ⟨rfl, hb⟩; have N3 := Lib.hid (N3.out.on hb); clear hb)
            | (go_at_call 20; (with_reducible refine (CC.out _ N3.out).mono ?_); rintro e w5 ⟨rfl, hn5, _⟩; have N5 := Lib.hid hn5; clear hn5)
            | (go_at_call 25; (with_reducible refine (nlen1 N5.out HLN.out).mono ?_); rintro e wz ⟨rfl, hw⟩; rw [hw]; clear hw wz)
            | (go_at_call 27; (with_reducible refine (nlost1 N5.out HLO.out).mono ?_); rintro e wz ⟨rfl, hw⟩; rw [hw]; clear hw wz))
          exact ⟨⟨j + 1, put, took, full, s2, by omega, by go_num, rfl, rfl, rfl, C2.out, N5.out⟩, by simp [intOf]; omega⟩
      · rw [hk] at CK
        clear hk
        go_upto_region 25 with (first
          | ((with_reducible show wpList _ _ _ ({ dst := some 30, op := .load _ _, type := _, pos := _, after := _, guard := _ } :: _) _ _); refine wpList_load_np rfl (.tmp 29) rfl b (o + j * 8) rfl x RG.out ?_)
          | ((with_reducible show wpList _ _ _ ({ dst := some 31, op := .load _ _, type := _, pos := _, after := _, guard := _ } :: _) _ _); refine wpList_load_np rfl (.tmp 10) rfl wr.heap.size 0 rfl x X1.out.range ?_)
          | (go_at_call 13; (with_reducible refine (CK.out _).mono ?_); rintro e w3 ⟨rfl, hb⟩; have N3 := Lib.hid (N1.out.on hb); have X3 := Lib.hid (X1.out.on hb); clear hb))
        obtain ⟨g, hg⟩ : ∃ g, g = wr.heap.size := ⟨_, rfl⟩
        rw [← hg] at X3 ⊢
        clear hg N1 X1 CK RG
        obtain ⟨x0, x1, xl⟩ := X3.out.cs
        rcases C.out.twice x.n hj1 with ⟨he, C2⟩ | ⟨he, C2⟩ | ⟨he, C2⟩
        · have C2 := Lib.hid C2
          have CC := Lib.hid (fun W (h : NAt w (fun _ => False) r s W) => nat_twice0 h HIN.out.n C.out.lo he rfl)
          obtain ⟨s2, hs2⟩ : ∃ s2, s2 = Nt.twiceS s x.n := ⟨_, rfl⟩
          rw [← hs2] at CC C2
          clear hs2 he
          obtain ⟨D1, hd1, hv1⟩ : ∃ D, wrap64 (put - took) = D ∧ D = put - took := ⟨_, rfl, IntWalk.wrap64_in _ ⟨by have := C2.out.b; omega, by have := C2.out.b; omega⟩⟩
          obtain ⟨D2, hd2, hv2⟩ : ∃ D, wrap64 (s2.lost - full) = D ∧ D = s2.lost - full := ⟨_, rfl, IntWalk.wrap64_in _ ⟨by have := C2.out.b; omega, by have := C2.out.b; omega⟩⟩
          have hd3 : wrap64 (D1 - D2) = (s2.l.length : Int) := by
            have h1 := C2.out.eq
            rw [IntWalk.wrap64_in _ ⟨by have := C2.out.b; omega, by have := C2.out.b; omega⟩]
            omega
          have hle : decide (max (min room 64) 1 < (s2.l.length : Int)) = false := by rw [decide_eq_false_iff_not]; have := C2.out.top; omega
          have hle2 : ¬ (max (min room 64) 1 < (s2.l.length : Int)) := by have := C2.out.top; omega
          have hp1 : wrap64 (put + 1) = put + 1 := IntWalk.wrap64_in _ ⟨by have := C.out.b; omega, by have := C.out.b; omega⟩
          have hp2 : wrap64 (took + 1) = took + 1 := IntWalk.wrap64_in _ ⟨by have := C.out.b; omega, by have := C.out.b; omega⟩
          have hp3 : wrap64 (full + 1) = full + 1 := IntWalk.wrap64_in _ ⟨by have := C.out.b; omega, by have := C.out.b; omega⟩
          clear hv1 hv2
          generalize hln : s2.l.length = ln at *
          have HLN := Lib.hid hln
          clear hln
          generalize hlo : s2.lost = lo at *
          have HLO := Lib.hid hlo
          clear hlo
          go_wp2_with (first
            | ((with_reducible show wpList _ _ _ ({ dst := some 37, op := .load _ _, type := _, pos := _, after := _, guard := _ } :: _) _ _); refine wpList_load_np rfl (.tmp 10) rfl g 0 rfl x X3.out.range ?_)
            | (go_at_call 15; (with_reducible refine (npmsg_any x _).mono ?_); rintro e w4 ⟨rfl, hb⟩; have N3 := Lib.hid (N3.out.on hb); clear hb)
            | (go_at_call 22; (with_reducible refine (CC.out _ N3.out).mono ?_); rintro e w5 ⟨rfl, hn5, _⟩; have N5 := Lib.hid hn5; clear hn5)
            | (go_at_call 25; (with_reducible refine (nlen1 N5.out HLN.out).mono ?_); rintro e wz ⟨rfl, hw⟩; rw [hw]; clear hw wz)
            | (go_at_call 27; (with_reducible refine (nlost1 N5.out HLO.out).mono ?_); rintro e wz ⟨rfl, hw⟩; rw [hw]; clear hw wz))
          exact ⟨⟨j + 1, put, took, full, s2, by omega, by go_num, rfl, rfl, rfl, C2.out, N5.out⟩, by simp [intOf]; omega⟩
        · have C2 := Lib.hid C2
          have CC := Lib.hid (fun W (h : NAt w (fun _ => False) r s W) => nat_twice0 h HIN.out.n C.out.lo he rfl)
          obtain ⟨s2, hs2⟩ : ∃ s2, s2 = Nt.twiceS s x.n := ⟨_, rfl⟩
          rw [← hs2] at CC C2
          clear hs2 he
          obtain ⟨D1, hd1, hv1⟩ : ∃ D, wrap64 ((put + 1) - took) = D ∧ D = (put + 1) - took := ⟨_, rfl, IntWalk.wrap64_in _ ⟨by have := C2.out.b; omega, by have := C2.out.b; omega⟩⟩
          obtain ⟨D2, hd2, hv2⟩ : ∃ D, wrap64 (s2.lost - full) = D ∧ D = s2.lost - full := ⟨_, rfl, IntWalk.wrap64_in _ ⟨by have := C2.out.b; omega, by have := C2.out.b; omega⟩⟩
          have hd3 : wrap64 (D1 - D2) = (s2.l.length : Int) := by
            have h1 := C2.out.eq
            rw [IntWalk.wrap64_in _ ⟨by have := C2.out.b; omega, by have := C2.out.b; omega⟩]
            omega
          have hle : decide (max (min room 64) 1 < (s2.l.length : Int)) = false := by rw [decide_eq_false_iff_not]; have := C2.out.top; omega
          have hle2 : ¬ (max (min room 64) 1 < (s2.l.length : Int)) := by have := C2.out.top; omega
          have hp1 : wrap64 (put + 1) = put + 1 := IntWalk.wrap64_in _ ⟨by have := C.out.b; omega, by have := C.out.b; omega⟩
          have hp2 : wrap64 (took + 1) = took + 1 := IntWalk.wrap64_in _ ⟨by have := C.out.b; omega, by have := C.out.b; omega⟩
          have hp3 : wrap64 (full + 1) = full + 1 := IntWalk.wrap64_in _ ⟨by have := C.out.b; omega, by have := C.out.b; omega⟩
          clear hv1 hv2
          generalize hln : s2.l.length = ln at *
          have HLN := Lib.hid hln
          clear hln
          generalize hlo : s2.lost = lo at *
          have HLO := Lib.hid hlo
          clear hlo
          go_wp2_with (first
            | ((with_reducible show wpList _ _ _ ({ dst := some 37, op := .load _ _, type := _, pos := _, after := _, guard := _ } :: _) _ _); refine wpList_load_np rfl (.tmp 10) rfl g 0 rfl x X3.out.range ?_)
            | (go_at_call 15; (with_reducible refine (npmsg_any x _).mono ?_); rintro e w4 ⟨rfl, hb⟩; have N3 := Lib.hid (N3.out.on hb); clear hb)
            | (go_at_call 22; (with_reducible refine (CC.out _ N3.out).mono ?_); rintro e w5 ⟨rfl, hn5, _⟩; have N5 := Lib.hid hn5; clear hn5)
            | (go_at_call 25; (with_reducible refine (nlen1 N5.out HLN.out).mono ?_); rintro e wz ⟨rfl, hw⟩; rw [hw]; clear hw wz)
            | (go_at_call 27; (with_reducible refine (nlost1 N5.out HLO.out).mono ?_); rintro e wz ⟨rfl, hw⟩; rw [hw]; clear hw wz))
          exact ⟨⟨j + 1, (put + 1), took, full, s2, by omega, by go_num, rfl, rfl, rfl, C2.out, N5.out⟩, by simp [intOf]; omega⟩
        · have C2 := Lib.hid C2
          have CC := Lib.hid (fun W (h : NAt w (fun _ => False) r s W) => nat_twice0 h HIN.out.n C.out.lo he rfl)
          obtain ⟨s2, hs2⟩ : ∃ s2, s2 = Nt.twiceS s x.n := ⟨_, rfl⟩
          rw [← hs2] at CC C2
          clear hs2 he
          obtain ⟨D1, hd1, hv1⟩ : ∃ D, wrap64 (put - took) = D ∧ D = put - took := ⟨_, rfl, IntWalk.wrap64_in _ ⟨by have := C2.out.b; omega, by have := C2.out.b; omega⟩⟩
          obtain ⟨D2, hd2, hv2⟩ : ∃ D, wrap64 (s2.lost - (full + 1)) = D ∧ D = s2.lost - (full + 1) := ⟨_, rfl, IntWalk.wrap64_in _ ⟨by have := C2.out.b; omega, by have := C2.out.b; omega⟩⟩
          have hd3 : wrap64 (D1 - D2) = (s2.l.length : Int) := by
            have h1 := C2.out.eq
            rw [IntWalk.wrap64_in _ ⟨by have := C2.out.b; omega, by have := C2.out.b; omega⟩]
            omega
          have hle : decide (max (min room 64) 1 < (s2.l.length : Int)) = false := by rw [decide_eq_false_iff_not]; have := C2.out.top; omega
          have hle2 : ¬ (max (min room 64) 1 < (s2.l.length : Int)) := by have := C2.out.top; omega
          have hp1 : wrap64 (put + 1) = put + 1 := IntWalk.wrap64_in _ ⟨by have := C.out.b; omega, by have := C.out.b; omega⟩
          have hp2 : wrap64 (took + 1) = took + 1 := IntWalk.wrap64_in _ ⟨by have := C.out.b; omega, by have := C.out.b; omega⟩
          have hp3 : wrap64 (full + 1) = full + 1 := IntWalk.wrap64_in _ ⟨by have := C.out.b; omega, by have := C.out.b; omega⟩
          clear hv1 hv2
          generalize hln : s2.l.length = ln at *
          have HLN := Lib.hid hln
          clear hln
          generalize hlo : s2.lost = lo at *
          have HLO := Lib.hid hlo
          clear hlo
          go_wp2_with (first
            | ((with_reducible show wpList _ _ _ ({ dst := some 37, op := .load _ _, type := _, pos := _, after := _, guard := _ } :: _) _ _); refine wpList_load_np rfl (.tmp 10) rfl g 0 rfl x X3.out.range ?_)
            | (go_at_call 15; (with_reducible refine (npmsg_any x _).mono ?_); rintro e w4 ⟨rfl, hb⟩; have N3 := Lib.hid (N3.out.on hb); clear hb)
            | (go_at_call 22; (with_reducible refine (CC.out _ N3.out).mono ?_); rintro e w5 ⟨rfl, hn5, _⟩; have N5 := Lib.hid hn5; clear hn5)
            | (go_at_call 25; (with_reducible refine (nlen1 N5.out HLN.out).mono ?_); rintro e wz ⟨rfl, hw⟩; rw [hw]; clear hw wz)
            | (go_at_call 27; (with_reducible refine (nlost1 N5.out HLO.out).mono ?_); rintro e wz ⟨rfl, hw⟩; rw [hw]; clear hw wz))
          exact ⟨⟨j + 1, put, took, (full + 1), s2, by omega, by go_num, rfl, rfl, rfl, C2.out, N5.out⟩, by simp [intOf]; omega⟩
    · obtain rfl : n = j := by omega
      go_wp2_with fail
      go_ret
      exact ⟨rfl, N.out.below⟩
end Go.Proofs.Ytmhhjipdbfepiaa
