/-
  WorkerRows. Written by wip/tools/gen/wkrows.py. No condition.
-/
import Derived.Test.YtgljepjflpijiaaWkTwo
import Derived.Deep.Cut
namespace Go.Proofs.Ytgljepjflpijiaa
open Go.RowKit Go.Deep
set_option linter.unusedSimpArgs false
set_option linter.unusedVariables false
set_option maxRecDepth 100000

theorem rows_on {w w' : World} {b o : Nat} {cs : List Value} (h : w.rangeAt b o cs) (hb : w'.heap[b]? = w.heap[b]?) : w'.rangeAt b o cs := fun j v hv => (World.cell?_of_block hb).trans (h j v hv)
set_option maxHeartbeats 12800000 in
theorem wkrows_walk {L : WkP} (hC : WC L) (A : Option Addr) (k c : Nat) (l : List Nt.M) (A2 : Option Addr) (n2 c2 : Nat) (rl : List Int) (W : World) (hs : SlM W A k c l) (hr : SlI W A2 n2 c2 rl) : Calls Try.prog 5 #[.slice A k c, .slice A2 n2 c2] W (WkAns (.bool true) W) := by
  have CL := Lib.hid (fun W => wklives_any hC W)
  have B := Lib.hid (Below.refl W.heap.size W)
  have HC := Lib.hid hC
  have SW := Lib.hid hs
  have RL := Lib.hid hr
  have KL := hs.1.len
  have KC := hs.1.cap
  have KM := hs.1.max
  have RC := hr.cap
  have RM := hr.max
  unfold maxLen at KM RM
  clear hC hs hr
  go_enter Try.func5, Try.ntmps5
  go_upto_region 3 with (go_at_call 9; (with_reducible refine (CL.out _).mono ?_); rintro e w2 ⟨rfl, hb⟩; replace B := Lib.hid (B.out.trans (hb.mono B.out.size)); clear hb)
  generalize hv0 : Value.slice none 0 0 = v0
  have HV := Lib.hid hv0
  clear hv0
  go_wp2_with fail
  go_loopw [5, 6] (fun v i wr => ∃ (j : Nat) (os : List Nt.M), i = .int .i64 (j : Nat) ∧ j ≤ 20 ∧ j ≤ k ∧ os.length = j ∧ OwF Nt.mC 6 38 wr W.heap.size v os ∧ (∀ m ∈ os, Wk.Cmd m) ∧ Below W.heap.size W wr) (fun v i wr => k - (intOf i).toNat)
  case atStart => exact ⟨0, [], rfl, by omega, by omega, rfl, by rw [← HV.out]; exact OwF.none_ _ _ _, fun m hm => (by cases hm), B.out⟩
  case round =>
    obtain ⟨j, os, rfl, hj20, hjk, hol, ho, hcm, hb0⟩ := hrel
    have O := Lib.hid ho
    have CM := Lib.hid hcm
    replace B := Lib.hid hb0
    have OL := Lib.hid hol
    clear ho hcm hb0 hol
    have q0 : (0 : Int) ≤ ((j : Nat) : Int) := by omega
    have q1 : ((j : Nat) : Int) ≤ 20 := by omega
    by_cases hlt : j < k ∧ j < 20
    · have hjl : j < l.length := by rw [← KL]; exact hlt.1
      obtain ⟨b5, o5, rfl, hbl, hrg⟩ := nt_range SW.out.1 (List.getElem?_eq_getElem hjl)
      generalize l[j] = m0 at *
      have MR := Lib.hid (rows_on hrg (B.out.block _ hbl))
      have CG := Lib.hid (fun W => rtgood_any m0 W)
      obtain ⟨y, hy⟩ : ∃ y, y = Nt.good m0 := ⟨_, rfl⟩
      have GU : 0 ≤ y.s ∧ y.s < 8 ∧ 0 ≤ y.u ∧ y.u < 8 := by rw [hy]; unfold Nt.good; simp only; omega
      rw [← hy] at CG
      obtain ⟨vv, hvv⟩ : ∃ vv, vv = y.s % 4 := ⟨_, rfl⟩
      have e4 : y.s.tmod 4 = vv := by rw [hvv, Int.tmod_eq_emod_of_nonneg GU.1]
      have CN : Hid (Wk.Cmd ⟨1, 3, y.s, y.u, vv, 0⟩) := ⟨rfl, rfl, ⟨GU.1, GU.2.1⟩, ⟨GU.2.2.1, GU.2.2.2⟩, hvv, rfl⟩
      have vb : 0 ≤ vv ∧ vv < 4 := by rw [hvv]; omega
      obtain ⟨vb0, vb1⟩ := vb
      have q2 : ((j : Nat) : Int) < ((k : Nat) : Int) := by omega
      have q3 : ((j : Nat) : Int) < 20 := by omega
      have HL := Lib.hid hlt
      clear hbl hrg hjl hy hvv hlt
      go_upto_region 8 with (first
        | ((with_reducible show wpList _ _ _ ({ dst := some 35, op := .load _ _, type := _, pos := _, after := _, guard := _ } :: _) _ _); refine wpList_load_msg rfl (.tmp 34) rfl b5 (o5 + j * 6) rfl m0 MR.out ?_)
        | (go_at_call 14; (with_reducible refine (CG.out _).mono ?_); rintro e w3 ⟨rfl, hb⟩; replace B := Lib.hid (B.out.trans (hb.mono B.out.size)); replace O := Lib.hid (O.out.below hb); clear hb))
      have hb := (Below.refl w3.heap.size w3).alloc (Nat.le_refl _) (.cells (Nt.cs y) 38)
      have N := Lib.hid (NtAt.new w3 y)
      unfold Nt.cs at N hb
      replace B := Lib.hid (B.out.trans (hb.mono B.out.size))
      replace O := Lib.hid (O.out.below hb)
      obtain ⟨g7, hg7⟩ : ∃ g, g = w3.heap.size := ⟨_, rfl⟩
      rw [← hg7] at N ⊢
      clear hb hg7
      generalize w3.alloc (.cells #[.int .i64 y.k, .int .i64 y.e, .int .i64 y.s, .int .i64 y.u, .int .i64 y.v, .int .i64 y.t] 38) = w4 at *
      obtain ⟨y0, y1, y2, y3, y4, y5, yl⟩ := N.out.cs
      obtain ⟨gu0, gu1, gu2, gu3⟩ := GU
      go_wp2_with (first
        | ((with_reducible show wpList _ _ _ ({ dst := some 46, op := .buildSlice _ _ _, type := _, pos := _, after := _, guard := _ } :: _) _ _); refine wpList_build_msg rfl (.tmp 45) rfl ⟨1, 3, y.s, y.u, vv, 0⟩ rfl ?_)
        | (at_builtin; refine wpList_append_one Nt.mC_len Nt.mC_one Try.underlying43 msg_info rfl (by omega) rfl (.tmp 37) (.tmp 46) rfl W.heap.size _ os rfl O.out ⟨1, 3, y.s, y.u, vv, 0⟩ rfl (by have := OL.out; have := HL.out; unfold maxLen; omega) (by have := OL.out; have := HL.out; omega) B.out.size ?_; intro v9 w9 ho9 hb9 hg9 _; have O9 := Lib.hid ho9; have B9 := Lib.hid (B.out.trans hb9); clear ho9 hb9 hg9))
      have hl := HL.out
      have hol := OL.out
      exact ⟨⟨j + 1, _, by go_num, by omega, by omega, by rw [List.length_append, hol]; rfl, O9.out, fun m hm => by
        rcases List.mem_append.1 hm with h9 | h9
        · exact CM.out m h9
        · rw [List.mem_singleton.1 h9]; exact CN.out, B9.out⟩, by simp [intOf]; omega⟩
    · have q2 : ((k : Nat) : Int) ≤ ((j : Nat) : Int) ∨ (((j : Nat) : Int) < ((k : Nat) : Int) ∧ (20 : Int) ≤ ((j : Nat) : Int)) := by
        by_cases h9 : j < k
        · exact .inr ⟨by omega, by omega⟩
        · exact .inl (by omega)
      have L20 : Hid (os.length ≤ 20) := by show _ ≤ _; rw [OL.out]; exact hj20
      clear hlt hjk hj20 q1 OL
      obtain ⟨A5, c5, hform⟩ := O.out.form
      subst hform
      have SF := Lib.hid O.out.sl
      have OB := Lib.hid (fun k (h : (Value.slice A5 os.length c5).ownBlock = some k) => O.out.lt k h)
      obtain ⟨FB, hFB⟩ : ∃ FB : Nat → Prop, FB = fun b => ∃ o, A5 = some ⟨b, o, none⟩ := ⟨_, rfl⟩
      have FV : Hid (∀ b, FB b → b < wr.heap.size) := fun b hb => by
        rw [hFB] at hb
        obtain ⟨o, rfl⟩ := hb
        exact (OB.out b rfl).2
      have HFB := Lib.hid hFB
      clear hFB
      have HOK : Wk.mayNew 0 1 := by unfold Wk.mayNew; omega
      have C1 := Lib.hid (win_make (n := 0) (many := 1) (F := FB) HC.out (by unfold Nt.i64; omega) (by unfold Nt.i64; omega) HOK B.out FV.out)
      have C2 := Lib.hid (fun w => HC.out.make w 0 1 (by unfold Nt.i64; omega) (by unfold Nt.i64; omega) HOK)
      clear HOK
      rcases q2 with q2 | ⟨q2, q3⟩
      all_goals
        go_upto_region 10 with (go_at_call 10; (with_reducible refine C1.out.mono ?_); rintro e w6 ⟨qa, rfl, hi, hb⟩; have I := Lib.hid hi; have S := Lib.hid (SF.out.on hb); clear hb hi)
        go_upto_region 11 with (go_at_call 10; (with_reducible refine (C2.out _).mono ?_); rintro e w7 ⟨qb, X, rfl, hx, hX, hb⟩; have T := Lib.hid (WkTwo.make HC.out I.out hb hx hX); replace S := Lib.hid (S.out.on hb); clear hb hx hX)
        clear C1 C2 B O SF OB FV
        go_wp2_with fail
        go_loopw [12] (fun i wr => ∃ (j : Nat) (x : Wk.W), i = .int .i64 (j : Nat) ∧ j ≤ os.length ∧ WkTwo L W FB qa qb x (Wk.new 0 1) wr ∧ Wk.Rows os x ∧ Wk.Lo (os.take j) x ∧ SlF Nt.mC wr A5 os.length c5 os) (fun i wr => os.length - (intOf i).toNat)
        case atStart => exact ⟨0, Wk.new 0 1, rfl, by omega, T.out, Wk.rows_new os, fun m hm => (by cases hm), S.out⟩
        case round =>
          obtain ⟨j2, xa, rfl, hj2, ht, hr, hlo, hs2⟩ := hrel
          replace T := Lib.hid ht
          have RA := Lib.hid hr
          have LA := Lib.hid hlo
          replace S := Lib.hid hs2
          clear ht hr hlo hs2
          have z0 : (0 : Int) ≤ ((j2 : Nat) : Int) := by omega
          by_cases hg : j2 < os.length
          · have MM : Hid (os[j2] ∈ os) := List.getElem_mem hg
            have TR : Hid (os.take (j2 + 1) = os.take j2 ++ [os[j2]]) := by show _ = _; rw [List.take_add_one, List.getElem?_eq_getElem hg]; rfl
            obtain ⟨b5, o5, eA, hbl9, hrg9⟩ := nt_range S.out (List.getElem?_eq_getElem hg)
            subst eA
            have MR := Lib.hid hrg9
            generalize os[j2] = m4 at *
            have z1 : ((j2 : Nat) : Int) < ((os.length : Nat) : Int) := by omega
            have z2 : ((os.length : Nat) : Int) ≤ 20 := by have := L20.out; omega
            have HG := Lib.hid hg
            clear hbl9 hrg9 hg hj2
            go_wp2_with (first
              | ((with_reducible show wpList _ _ _ ({ dst := some 66, op := .load _ _, type := _, pos := _, after := _, guard := _ } :: _) _ _); refine wpList_load_msg rfl (.tmp 65) rfl b5 (o5 + j2 * 6) rfl m4 MR.out ?_)
              | (go_at_call 17; (with_reducible refine (WkTwo.apply HC.out T.out (Wk.Cmd.inn (CM.out _ MM.out))).mono ?_); rintro e w9 ⟨rfl, ht9, hz9, hk9⟩; have RS := Lib.hid (Wk.rows_step RA.out (WkTwo.ok HC.out T.out) MM.out (CM.out _ MM.out)); have T9 := Lib.hid ht9; have S9 := Lib.hid (S.out.keep hz9 (fun b o e _ => hk9 b (by rw [HFB.out]; exact ⟨o, e⟩))); clear ht9 hz9 hk9))
            have hg := HG.out
            exact ⟨⟨j2 + 1, _, by go_num, by omega, T9.out, RS.out.1, by rw [TR.out]; exact Wk.lo_step LA.out RS.out.2.1 RS.out.2.2, S9.out⟩, by simp [intOf]; omega⟩
          · obtain rfl : j2 = os.length := by omega
            rw [List.take_length] at LA
            clear hg hj2
            go_wp2_with fail
            go_loopw [13] (fun i wr => ∃ (j : Nat) (x : Wk.W), i = .int .i64 (j : Nat) ∧ j ≤ 40 ∧ j ≤ n2 ∧ WkTwo L W FB qa qb xa x wr ∧ Wk.Rows os x ∧ SlF Nt.mC wr A5 os.length c5 os) (fun i wr => n2 - (intOf i).toNat)
            case atStart => exact ⟨0, Wk.new 0 1, rfl, by omega, by omega, T.out, Wk.rows_new os, S.out⟩
            case round =>
              obtain ⟨j3, xb0, rfl, hj40, hjn, ht, hr, hs3⟩ := hrel
              replace T := Lib.hid ht
              have RB0 := Lib.hid hr
              replace S := Lib.hid hs3
              clear ht hr hs3
              have z0 : (0 : Int) ≤ ((j3 : Nat) : Int) := by omega
              have z9 : ((j3 : Nat) : Int) ≤ 40 := by omega
              by_cases hg : j3 < n2 ∧ j3 < 40 ∧ 0 < os.length
              · have hjl : j3 < rl.length := by rw [← RL.out.len]; exact hg.1
                obtain ⟨br, or_, rfl, hbr, hcr⟩ := RL.out.rd (by omega)
                have hc1 := (T.out.below.cell (p := ⟨br, or_ + j3, none⟩) hbr).trans (hcr j3 hjl)
                generalize rl.getD j3 0 = rv at *
                obtain ⟨p3, hp3, hpl⟩ := mod_at rv os.length (by have := L20.out; omega) hg.2.2
                have MM : Hid (os[p3] ∈ os) := List.getElem_mem hpl
                obtain ⟨b5, o5, eA, hbl9, hrg9⟩ := nt_range S.out (List.getElem?_eq_getElem hpl)
                subst eA
                have MR := Lib.hid hrg9
                generalize os[p3] = m4 at *
                have z1 : ((j3 : Nat) : Int) < ((n2 : Nat) : Int) := by omega
                have z2 : ((j3 : Nat) : Int) < 40 := by omega
                have z3 : ((p3 : Nat) : Int) < ((os.length : Nat) : Int) := by omega
                have z4 : (0 : Int) ≤ ((p3 : Nat) : Int) := by omega
                have z5 : (0 : Int) < ((os.length : Nat) : Int) := by omega
                have z6 : ((os.length : Nat) : Int) ≤ 20 := by have := L20.out; omega
                have HG := Lib.hid hg
                clear hbl9 hrg9 hcr hbr hjl hg hpl
                go_wp2_with (first
                  | ((with_reducible show wpList _ _ _ ({ dst := some 96, op := .load _ _, type := _, pos := _, after := _, guard := _ } :: _) _ _); refine wpList_load_msg rfl (.tmp 95) rfl b5 (o5 + p3 * 6) rfl m4 MR.out ?_)
                  | (go_at_call 17; (with_reducible refine (WkTwo.apply HC.out T.out.swap (Wk.Cmd.inn (CM.out _ MM.out))).mono ?_); rintro e w9 ⟨rfl, ht9, hz9, hk9⟩; have RS := Lib.hid (Wk.rows_step RB0.out (WkTwo.ok HC.out T.out.swap) MM.out (CM.out _ MM.out)); have T9 := Lib.hid ht9; have S9 := Lib.hid (S.out.keep hz9 (fun b o e _ => hk9 b (by rw [HFB.out]; exact ⟨o, e⟩))); clear ht9 hz9 hk9))
                have hg := HG.out
                exact ⟨⟨j3 + 1, _, by go_num, by omega, by omega, T9.out.swap, RS.out.1, S9.out⟩, by simp [intOf]; omega⟩
              · have q3 : ((n2 : Nat) : Int) ≤ ((j3 : Nat) : Int) ∨ (((j3 : Nat) : Int) < ((n2 : Nat) : Int) ∧ (40 : Int) ≤ ((j3 : Nat) : Int) ∨ (((j3 : Nat) : Int) < ((n2 : Nat) : Int) ∧ ((j3 : Nat) : Int) < 40 ∧ ((os.length : Nat) : Int) ≤ 0)) := by
                  by_cases h9 : j3 < n2
                  · by_cases h8 : j3 < 40
                    · exact .inr (.inr ⟨by omega, by omega, by omega⟩)
                    · exact .inr (.inl ⟨by omega, by omega⟩)
                  · exact .inl (by omega)
                have z6 : ((os.length : Nat) : Int) ≤ 20 := by have := L20.out; omega
                clear hg hj40 hjn z9
                rcases q3 with q3 | ⟨q3, q4⟩ | ⟨q3, q4, q5⟩
                all_goals
                  go_wp2_with fail
                  try (have Q5 := Lib.hid q5; clear q5)
                  try (rename ¬ (0 < os.length) => hz0; clear hz0)
                  go_loopw [14] (fun i wr => ∃ (d : Nat) (x : Wk.W), d ≤ os.length ∧ i = .int .i64 (((os.length : Nat) : Int) - 1 - ((d : Nat) : Int)) ∧ WkTwo L W FB qa qb xa x wr ∧ Wk.Rows os x ∧ Wk.Lo (os.reverse.take d) x ∧ SlF Nt.mC wr A5 os.length c5 os) (fun i wr => (intOf i + 1).toNat)
                  case atStart => exact ⟨0, xb0, by omega, by simp, T.out, RB0.out, fun m hm => (by cases hm), S.out⟩
                  case round =>
                    obtain ⟨d, xb, hd, rfl, ht, hr, hlo, hs4⟩ := hrel
                    replace T := Lib.hid ht
                    have RB := Lib.hid hr
                    have LD := Lib.hid hlo
                    replace S := Lib.hid hs4
                    clear ht hr hlo hs4
                    by_cases hd2 : d < os.length
                    · obtain ⟨p4, hp4⟩ : ∃ p : Nat, ((os.length : Nat) : Int) - 1 - ((d : Nat) : Int) = ((p : Nat) : Int) := ⟨os.length - 1 - d, by omega⟩
                      have hpl : p4 < os.length := by omega
                      have MM : Hid (os[p4] ∈ os) := List.getElem_mem hpl
                      have TR : Hid (os.reverse.take (d + 1) = os.reverse.take d ++ [os[p4]]) := by
                        show _ = _
                        have hrl : d < os.reverse.length := by rw [List.length_reverse]; exact hd2
                        rw [List.take_add_one, List.getElem?_eq_getElem hrl, List.getElem_reverse]
                        have : os.length - 1 - d = p4 := by omega
                        simp only [this]
                        rfl
                      have NE : Hid (((os.length : Nat) : Int) - 1 - (((d + 1 : Nat)) : Int) = ((p4 : Nat) : Int) - 1) := by show _ = _; omega
                      obtain ⟨b5, o5, eA, hbl9, hrg9⟩ := nt_range S.out (List.getElem?_eq_getElem hpl)
                      subst eA
                      have MR := Lib.hid hrg9
                      rw [hp4]
                      have z0 : (0 : Int) ≤ ((p4 : Nat) : Int) := by omega
                      have z1 : ((p4 : Nat) : Int) < ((os.length : Nat) : Int) := by omega
                      have HD := Lib.hid hd2
                      have HP := Lib.hid hp4
                      generalize os[p4] = m4 at *
                      clear hbl9 hrg9 hd2 hd hp4
                      go_wp2_with (first
                        | ((with_reducible show wpList _ _ _ ({ dst := some 109, op := .load _ _, type := _, pos := _, after := _, guard := _ } :: _) _ _); refine wpList_load_msg rfl (.tmp 108) rfl b5 (o5 + p4 * 6) rfl m4 MR.out ?_)
                        | (go_at_call 17; (with_reducible refine (WkTwo.apply HC.out T.out.swap (Wk.Cmd.inn (CM.out _ MM.out))).mono ?_); rintro e w9 ⟨rfl, ht9, hz9, hk9⟩; have RS := Lib.hid (Wk.rows_step RB.out (WkTwo.ok HC.out T.out.swap) MM.out (CM.out _ MM.out)); have T9 := Lib.hid ht9; have S9 := Lib.hid (S.out.keep hz9 (fun b o e _ => hk9 b (by rw [HFB.out]; exact ⟨o, e⟩))); clear ht9 hz9 hk9))
                      have hd3 := HD.out
                      have hp5 := HP.out
                      refine ⟨⟨d + 1, _, by omega, by rw [NE.out], T9.out.swap, RS.out.1, by rw [TR.out]; exact Wk.lo_step LD.out RS.out.2.1 RS.out.2.2, S9.out⟩, by simp [intOf]⟩
                    · obtain rfl : d = os.length := by omega
                      have LB : Hid (Wk.Lo os xb) := by
                        intro m hm
                        refine LD.out m ?_
                        rw [List.take_of_length_le (by rw [List.length_reverse]; exact Nat.le_refl _), List.mem_reverse]
                        exact hm
                      have ew : ((os.length : Nat) : Int) - 1 - ((os.length : Nat) : Int) = -1 := by omega
                      rw [ew]
                      clear ew hd hd2
                      go_wp2_with fail
                      go_loopw [15] (fun i wr => ∃ j : Nat, i = .int .i64 (j : Nat) ∧ j ≤ 16 ∧ WkTwo L W FB qa qb xa xb wr) (fun i wr => 16 - (intOf i).toNat)
                      case atStart => exact ⟨0, rfl, by omega, T.out⟩
                      case round =>
                        obtain ⟨j5, rfl, hj5, ht⟩ := hrel
                        replace T := Lib.hid ht
                        clear ht
                        have z0 : (0 : Int) ≤ ((j5 : Nat) : Int) := by omega
                        by_cases h16 : j5 < 16
                        · have z1 : ((j5 : Nat) : Int) < 16 := by omega
                          have hu : Nt.i64 ((j5 : Nat) : Int) := by unfold Nt.i64; omega
                          have SE := Lib.hid (Wk.rows_same RA.out RB.out LA.out LB.out h16)
                          have OA := Lib.hid (Wk.own_all RA.out.n RA.out.many (u := ((j5 : Nat) : Int)) (by omega) (by omega))
                          have OB := Lib.hid (Wk.own_all RB.out.n RB.out.many (u := ((j5 : Nat) : Int)) (by omega) (by omega))
                          have CA := Lib.hid (fun w (h : WkTwo L W FB qa qb xa xb w) => WkTwo.slot HC.out h hu)
                          have CB := Lib.hid (fun w (h : WkTwo L W FB qa qb xa xb w) => WkTwo.slot HC.out (WkTwo.swap h) hu)
                          have EA : Wk.slotOf xa ((j5 : Nat) : Int) = xa.l j5 := if_pos OA.out
                          have EB : Wk.slotOf xb ((j5 : Nat) : Int) = xb.l j5 := if_pos OB.out
                          rw [EA, decide_eq_true OA.out] at CA
                          rw [EB, decide_eq_true OB.out] at CB
                          generalize xa.l j5 = s at *
                          generalize xb.l j5 = t at *
                          clear EA EB OA OB hu
                          unfold suV suC at CA CB
                          go_upto_region 27 with (go_at_call 16; (with_reducible refine (CA.out _ T.out).mono ?_); rintro e w11 ⟨rfl, hb⟩; replace T := Lib.hid (T.out.on HC.out hb); clear hb)
                          have hb := (Below.refl w11.heap.size w11).alloc (Nat.le_refl _) (.cells #[.int .i64 s.st, .int .i64 s.v, .int .i64 s.wa, .int .i64 s.sq] 46)
                          have A7 := Lib.hid (SuAt.new 46 w11 s)
                          unfold suC at A7
                          replace T := Lib.hid (T.out.on HC.out hb)
                          obtain ⟨g7, hg7⟩ : ∃ g, g = w11.heap.size := ⟨_, rfl⟩
                          rw [← hg7] at A7 ⊢
                          clear hb hg7
                          generalize w11.alloc (.cells #[.int .i64 s.st, .int .i64 s.v, .int .i64 s.wa, .int .i64 s.sq] 46) = w12 at *
                          go_upto_region 28 with (go_at_call 16; (with_reducible refine (CB.out _ T.out).mono ?_); rintro e w13 ⟨rfl, hb⟩; replace T := Lib.hid (T.out.on HC.out hb); replace A7 := Lib.hid (A7.out.on hb); clear hb)
                          have hb := (Below.refl w13.heap.size w13).alloc (Nat.le_refl _) (.cells #[.int .i64 t.st, .int .i64 t.v, .int .i64 t.wa, .int .i64 t.sq] 46)
                          have B11 := Lib.hid (SuAt.new 46 w13 t)
                          unfold suC at B11
                          replace T := Lib.hid (T.out.on HC.out hb)
                          replace A7 := Lib.hid (A7.out.on hb)
                          obtain ⟨g11, hg11⟩ : ∃ g, g = w13.heap.size := ⟨_, rfl⟩
                          rw [← hg11] at B11 ⊢
                          clear hb hg11
                          generalize w13.alloc (.cells #[.int .i64 t.st, .int .i64 t.v, .int .i64 t.wa, .int .i64 t.sq] 46) = w14 at *
                          obtain ⟨d0, d1, d2, d3, dl⟩ := A7.out.cells
                          obtain ⟨e0, e1, e2, e3, el⟩ := B11.out.cells
                          obtain ⟨se1, se2⟩ := SE.out
                          rw [se1] at d2
                          rw [se2] at d3
                          clear se1 se2
                          go_wp2_with fail
                          exact ⟨⟨j5 + 1, by go_num, by omega, T.out⟩, by simp [intOf]; omega⟩
                        · obtain rfl : j5 = 16 := by omega
                          go_wp2_with fail
                          go_ret
                          exact ⟨rfl, T.out.below⟩
end Go.Proofs.Ytgljepjflpijiaa
