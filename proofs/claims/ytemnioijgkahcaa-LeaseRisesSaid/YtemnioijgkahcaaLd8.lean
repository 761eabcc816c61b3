/-
  Package lease: Renew, Drop. Written by wip/tools/gen/lsrenew.py. No condition.
-/
import Derived.Test.YtemnioijgkahcaaLd6
namespace Go.Proofs.Ytemnioijgkahcaa
open Go.RowKit Go.Deep Go.Maps

namespace Ls
theorem few_same {s : St} {n : Nat} {m : Int} {e x : En} (hf : Few s n) (hr : Rise s.l) (he : find s.l x.name = some e) (hx : x.epoch = e.epoch) : Few ⟨m, put s.l x⟩ n := by
  refine ⟨fun y hy => ?_, ?_⟩
  · rcases mem_put hy with rfl | hy
    · rw [hx]; exact hf.1 e (find_some he).1
    · exact hf.1 y hy
  · show (put s.l x).length ≤ n
    rw [put_length hr, he]
    exact hf.2
theorem note_found {s : St} {k : ByteArray} {h ep : Int} (h0 : notE s k h ep = 0) : ∃ e, find s.l k = some e ∧ e.holder = h ∧ e.epoch = ep := by
  unfold notE at h0
  cases he : find s.l k with
  | none => rw [he] at h0; cases h0
  | some e =>
    rw [he] at h0
    refine ⟨e, rfl, ?_⟩
    by_cases h1 : Other e h ep
    · simp [h1] at h0
    · unfold Other at h1; omega
theorem note_lt (s : St) (k : ByteArray) (h ep : Int) : notE s k h ep ≤ 8 := by
  unfold notE
  split
  · omega
  · split <;> omega
theorem renew_no {s : St} {k : ByteArray} {h ep now ttl : Int} (hr : Right k h now ttl) (h0 : notE s k h ep ≠ 0) : renewE s k h ep now ttl = notE s k h ep := by
  unfold renewE notE at *
  rw [if_neg (fun h => h hr)]
  cases he : find s.l k with
  | none => rfl
  | some e =>
    rw [he] at h0
    by_cases h1 : Other e h ep
    · simp [h1]
    · simp [h1] at h0
open Classical in
theorem renew_is {s : St} (hs : Good s) {k : ByteArray} {h ep now ttl : Int} (hr : Right k h now ttl) (h0 : notE s k h ep = 0) : (tillOf s.l k ≠ 0 ∧ now < tillOf s.l k → renewE s k h ep now ttl = 0) ∧ (¬ (tillOf s.l k ≠ 0 ∧ now < tillOf s.l k) → renewE s k h ep now ttl = 9) := by
  obtain ⟨e, he, e1, e2⟩ := note_found h0
  have h1 := hs.each e (find_some he).1
  have ht : tillOf s.l k = e.till := by unfold tillOf; rw [he]
  have hno : ¬ Other e h ep := by unfold Other; omega
  have hE : renewE s k h ep now ttl = if e.dropped = true ∨ e.till ≤ now then 9 else 0 := by
    unfold renewE
    rw [if_neg (fun h => h hr), he]
    show (if Other e h ep then 8 else _) = _
    rw [if_neg hno]
  rw [ht, hE]
  cases hd : e.dropped with
  | true =>
    have := h1.2.2.2.2.2.2.1 hd
    exact ⟨fun h => absurd this h.1, fun _ => by simp⟩
  | false =>
    have := h1.2.2.2.2.2.2.2 hd
    exact ⟨fun h => by rw [if_neg]; rintro (h2 | h2); cases h2; omega, fun h => by rw [if_pos]; exact .inr (by omega)⟩
theorem renewed_is {s : St} (hs : Good s) (hf : Few s 1000001) {k : ByteArray} {h ep now ttl : Int} (hr : Right k h now ttl) (h0 : notE s k h ep = 0) (h2 : tillOf s.l k ≠ 0 ∧ now < tillOf s.l k) :
    renewed s k now ttl = ⟨s.margin, put s.l ⟨k, holderOf s.l k, epochOf s.l k, max (tillOf s.l k) (late now ttl), false⟩⟩ ∧ Good (renewed s k now ttl) ∧ Few (renewed s k now ttl) 1000001 := by
  obtain ⟨e, he, e1, e2⟩ := note_found h0
  have h1 := hs.each e (find_some he).1
  have hn := (find_some he).2
  have ht : tillOf s.l k = e.till := by unfold tillOf; rw [he]
  have hh : holderOf s.l k = e.holder := by unfold holderOf; rw [he]
  have hp : epochOf s.l k = e.epoch := by unfold epochOf; rw [he]
  have hd : e.dropped = false := by
    cases hd : e.dropped with
    | false => rfl
    | true => exact absurd (h1.2.2.2.2.2.2.1 hd) (by rw [← ht]; exact h2.1)
  have E : renewed s k now ttl = ⟨s.margin, put s.l ⟨k, holderOf s.l k, epochOf s.l k, max (tillOf s.l k) (late now ttl), false⟩⟩ := by
    unfold renewed
    rw [he, ht, hh, hp]
    show St.mk _ (put s.l ⟨e.name, _, _, _, e.dropped⟩) = _
    rw [hn, hd]
  refine ⟨E, renewed_good hs hr he hd, ?_⟩
  rw [E]
  exact few_same hf hs.rise he hp
theorem drop_no {s : St} {k : ByteArray} {h ep : Int} (h0 : notE s k h ep ≠ 0) : dropE s k h ep = notE s k h ep := by
  unfold dropE notE at *
  cases he : find s.l k with
  | none => rfl
  | some e =>
    rw [he] at h0
    by_cases h1 : Other e h ep
    · simp [h1]
    · simp [h1] at h0
open Classical in
theorem drop_is {s : St} (hs : Good s) {k : ByteArray} {h ep : Int} (h0 : notE s k h ep = 0) : (tillOf s.l k ≠ 0 → dropE s k h ep = 0) ∧ (tillOf s.l k = 0 → dropE s k h ep = 10) := by
  obtain ⟨e, he, e1, e2⟩ := note_found h0
  have h1 := hs.each e (find_some he).1
  have ht : tillOf s.l k = e.till := by unfold tillOf; rw [he]
  have hno : ¬ Other e h ep := by unfold Other; omega
  have hE : dropE s k h ep = if e.dropped = true then 10 else 0 := by
    unfold dropE
    rw [he]
    show (if Other e h ep then 8 else _) = _
    rw [if_neg hno]
  rw [ht, hE]
  cases hd : e.dropped with
  | true =>
    have := h1.2.2.2.2.2.2.1 hd
    exact ⟨fun h => absurd this h, fun _ => rfl⟩
  | false =>
    have := h1.2.2.2.2.2.2.2 hd
    exact ⟨fun h => by rw [if_neg (by simp)], fun h => by omega⟩
theorem dropped_is {s : St} (hs : Good s) (hf : Few s 1000001) {k : ByteArray} {h ep : Int} (h0 : notE s k h ep = 0) :
    droppedS s k = ⟨s.margin, put s.l ⟨k, h, ep, 0, true⟩⟩ ∧ Good (droppedS s k) ∧ Few (droppedS s k) 1000001 := by
  obtain ⟨e, he, e1, e2⟩ := note_found h0
  have hn := (find_some he).2
  have E : droppedS s k = ⟨s.margin, put s.l ⟨k, h, ep, 0, true⟩⟩ := by
    unfold droppedS
    rw [he]
    show St.mk _ (put s.l ⟨e.name, e.holder, e.epoch, 0, true⟩) = _
    rw [hn, e1, e2]
  refine ⟨E, dropped_good hs k, ?_⟩
  rw [E]
  exact few_same hf hs.rise he e2.symm
end Ls
set_option maxHeartbeats 1600000 in
theorem lsdrop_any (W : World) (X : Nat → Prop) (q : Nat) (mo : Option Nat) (s : Ls.St) (hx : LsX W X q mo) (h : LsIs W q mo s) (k : ByteArray) (hk : k.size ≤ maxLen) (ho ep : Int) :
    Calls Try.prog 14 #[.pointer (some ⟨q, 0, none⟩), .string k, .int .i64 ho, .int .i64 ep] W (LTurn LsP X q (Ls.dropS s k ho ep) (.int .i64 (Ls.dropE s k ho ep : Nat)) W) := by
  have HX := Lib.hid hx
  have H0 := Lib.hid h
  have HKS := Lib.hid hk
  have CN := Lib.hid (lsnot_any W q mo s h k hk ho ep)
  clear hx h hk
  by_cases h0 : Ls.notE s k ho ep = 0
  case neg =>
    have e1 := Ls.drop_no h0
    have e3 : Ls.dropS s k ho ep = s := by unfold Ls.dropS; rw [if_neg (by rw [e1]; exact h0)]
    rw [e1, e3]
    obtain ⟨z, hz⟩ : ∃ z, z = Ls.notE s k ho ep := ⟨_, rfl⟩
    rw [← hz] at h0 CN ⊢
    have hz0 : ((z : Int) == 0) = false := by rw [beq_eq_false_iff_ne]; omega
    have HZ := Lib.hid h0
    clear e1 e3 hz h0
    go_enter Try.func14, Try.ntmps14
    go_wp2_with (go_at_call 25; (with_reducible refine CN.out.mono ?_); rintro e w1 ⟨rfl, hb⟩; have B1 := Lib.hid hb; clear hb)
    go_ret
    exact ls_stay HX.out H0.out B1.out _
  case pos =>
    rw [h0] at CN
    have HI := Ls.drop_is H0.out.good h0
    have HD := Lib.hid (Ls.dropped_is H0.out.good H0.out.few h0)
    obtain ⟨a, ha⟩ : ∃ a, a = Ls.holderOf s.l k := ⟨_, rfl⟩
    obtain ⟨b, hb⟩ : ∃ b, b = Ls.epochOf s.l k := ⟨_, rfl⟩
    obtain ⟨c, hc⟩ : ∃ c, c = Ls.tillOf s.l k := ⟨_, rfl⟩
    rw [← hc] at HI
    have EA := Lib.hid ha.symm
    have EB := Lib.hid hb.symm
    have EC := Lib.hid hc.symm
    have CD := Lib.hid (fun W => lsdropped_any W a b c)
    clear ha hb hc h0
    by_cases hc0 : c = 0
    · have e1 := HI.2 hc0
      have e3 : Ls.dropS s k ho ep = s := by unfold Ls.dropS; rw [if_neg (by rw [e1]; omega)]
      rw [e1, e3]
      rw [show (c == 0) = true by simp [hc0]] at CD
      clear e1 e3 hc0 HI HD
      go_enter Try.func14, Try.ntmps14
      go_upto_region 6 with (go_at_call 25; (with_reducible refine CN.out.mono ?_); rintro e w1 ⟨rfl, hb⟩; have B1 := Lib.hid hb; clear hb)
      have H1 := Lib.hid (H0.out.on B1.out)
      obtain ⟨c0, c1, f1, hq⟩ := H1.out.cells
      have hlk := H1.out.look k HKS.out
      rw [EA.out, EB.out, EC.out] at hlk
      unfold leV at *
      go_wp2_with (go_at_call 27; (with_reducible refine (CD.out _).mono ?_); rintro e w2 ⟨rfl, hb⟩; have B2 := Lib.hid (B1.out.trans (hb.mono B1.out.size)); clear hb)
      go_ret
      exact ls_stay HX.out H0.out B2.out _
    · have e1 := HI.1 hc0
      have e3 : Ls.dropS s k ho ep = ⟨s.margin, Ls.put s.l ⟨k, ho, ep, 0, true⟩⟩ := by unfold Ls.dropS; rw [if_pos e1, HD.out.1]
      have GD := HD.out.2.1
      have FW := HD.out.2.2
      rw [HD.out.1] at GD FW
      rw [e1, e3]
      rw [show (c == 0) = false by simp [hc0]] at CD
      have CP : Hid (∀ W, LsIs W q mo s → Calls Try.prog 23 #[.pointer (some ⟨q, 0, none⟩), .string k, .agg #[.int .i64 ho, .int .i64 ep, .int .i64 0]] W (LsPut W q mo ⟨s.margin, Ls.put s.l ⟨k, ho, ep, 0, true⟩⟩)) := fun W h => lsput_any W q mo s h k HKS.out ho ep 0 true GD FW
      clear e1 e3 hc0 HI HD GD FW
      go_enter Try.func14, Try.ntmps14
      go_upto_region 6 with (go_at_call 25; (with_reducible refine CN.out.mono ?_); rintro e w1 ⟨rfl, hb⟩; have B1 := Lib.hid hb; clear hb)
      have H1 := Lib.hid (H0.out.on B1.out)
      obtain ⟨c0, c1, f1, hq⟩ := H1.out.cells
      have hlk := H1.out.look k HKS.out
      rw [EA.out, EB.out, EC.out] at hlk
      unfold leV at *
      go_wp2_with (first
        | (go_at_call 27; (with_reducible refine (CD.out _).mono ?_); rintro e w2 ⟨rfl, hb⟩; have B2 := Lib.hid (B1.out.trans (hb.mono B1.out.size)); have H2 := Lib.hid (H1.out.on hb); clear hb)
        | (go_at_call 23; (with_reducible refine (CP.out _ H2.out).mono ?_); rintro e w5 ⟨mo5, rfl, hm5, hk5, hn5⟩; have M5 := Lib.hid hm5; have K5 := Lib.hid hk5; have N5 := Lib.hid hn5; clear hm5 hk5 hn5))
      go_ret
      exact ls_turn HX.out B2.out M5.out K5.out N5.out _
set_option maxHeartbeats 3200000 in
theorem lsrenew_any (W : World) (X : Nat → Prop) (q : Nat) (mo : Option Nat) (s : Ls.St) (hx : LsX W X q mo) (h : LsIs W q mo s) (k : ByteArray) (hk : k.size ≤ maxLen) (ho ep now ttl : Int) :
    Calls Try.prog 13 #[.pointer (some ⟨q, 0, none⟩), .string k, .int .i64 ho, .int .i64 ep, .int .i64 now, .int .i64 ttl] W (LTurn LsP X q (Ls.renewS s k ho ep now ttl) (.tuple #[.int .i64 (Ls.renewN s k ho ep now ttl), .int .i64 (Ls.renewE s k ho ep now ttl : Nat)]) W) := by
  have HX := Lib.hid hx
  have H0 := Lib.hid h
  have HKS := Lib.hid hk
  have CN := Lib.hid (lsnot_any W q mo s h k hk ho ep)
  clear hx h hk
  by_cases hr : Ls.Right k ho now ttl
  case neg =>
    have e1 : Ls.renewE s k ho ep now ttl = 1 := by unfold Ls.renewE; rw [if_pos hr]
    have e2 : Ls.renewN s k ho ep now ttl = 0 := by unfold Ls.renewN; rw [if_neg (by rw [e1]; omega)]
    have e3 : Ls.renewS s k ho ep now ttl = s := by unfold Ls.renewS; rw [if_neg (by rw [e1]; omega)]
    rw [e1, e2, e3]
    have CM := Lib.hid (lsmay_any W k ho now ttl HKS.out (x := false) (by simpa using hr))
    clear e1 e2 e3 hr CN
    go_enter Try.func13, Try.ntmps13
    go_wp2_with (go_at_call 21; (with_reducible refine CM.out.mono ?_); rintro e w1 ⟨rfl, rfl⟩)
    exact bodyPost_ret (v := .tuple #[.int .i64 0, .int .i64 1]) (by simp [results, Try.results13, go_sem]) rfl (ls_stay HX.out H0.out (Below.refl _ _) _)
  have CM := Lib.hid (lsmay_any W k ho now ttl HKS.out (x := true) (by simpa using hr))
  have HR := Lib.hid hr
  by_cases h0 : Ls.notE s k ho ep = 0
  case neg =>
    have e1 := Ls.renew_no (now := now) (ttl := ttl) hr h0
    have e2 : Ls.renewN s k ho ep now ttl = 0 := by unfold Ls.renewN; rw [if_neg (by rw [e1]; exact h0)]
    have e3 : Ls.renewS s k ho ep now ttl = s := by unfold Ls.renewS; rw [if_neg (by rw [e1]; exact h0)]
    rw [e1, e2, e3]
    obtain ⟨z, hz⟩ : ∃ z, z = Ls.notE s k ho ep := ⟨_, rfl⟩
    rw [← hz] at h0 CN ⊢
    have hz0 : ((z : Int) == 0) = false := by rw [beq_eq_false_iff_ne]; omega
    have HZ := Lib.hid h0
    clear e1 e2 e3 hz h0 hr
    go_enter Try.func13, Try.ntmps13
    go_wp2_with (first
      | (go_at_call 21; (with_reducible refine CM.out.mono ?_); rintro e w1 ⟨rfl, rfl⟩)
      | (go_at_call 25; (with_reducible refine CN.out.mono ?_); rintro e w2 ⟨rfl, hb⟩; have B1 := Lib.hid hb; clear hb))
    exact bodyPost_ret (v := .tuple #[.int .i64 0, .int .i64 (z : Nat)]) (by simp [results, Try.results13, go_sem]) rfl (ls_stay HX.out H0.out B1.out _)
  rw [h0] at CN
  have HI := Ls.renew_is (now := now) (ttl := ttl) H0.out.good hr h0
  have HD := Lib.hid (fun h2 => Ls.renewed_is (now := now) (ttl := ttl) H0.out.good H0.out.few hr h0 h2)
  obtain ⟨a, ha⟩ : ∃ a, a = Ls.holderOf s.l k := ⟨_, rfl⟩
  obtain ⟨b, hb⟩ : ∃ b, b = Ls.epochOf s.l k := ⟨_, rfl⟩
  obtain ⟨c, hc⟩ : ∃ c, c = Ls.tillOf s.l k := ⟨_, rfl⟩
  rw [← hc] at HI HD
  rw [← ha, ← hb] at HD
  have EA := Lib.hid ha.symm
  have EB := Lib.hid hb.symm
  have EC := Lib.hid hc.symm
  clear ha hb hc h0 hr
  by_cases hhe : c ≠ 0 ∧ now < c
  case neg =>
    have e1 := HI.2 hhe
    have e2 : Ls.renewN s k ho ep now ttl = 0 := by unfold Ls.renewN; rw [if_neg (by rw [e1]; omega)]
    have e3 : Ls.renewS s k ho ep now ttl = s := by unfold Ls.renewS; rw [if_neg (by rw [e1]; omega)]
    rw [e1, e2, e3]
    have CH := Lib.hid (fun W => lsheld_any W a b c now (x := false) (by simpa using hhe))
    clear e1 e2 e3 hhe HI HD
    go_enter Try.func13, Try.ntmps13
    go_upto_region 6 with (first
      | (go_at_call 21; (with_reducible refine CM.out.mono ?_); rintro e w1 ⟨rfl, rfl⟩)
      | (go_at_call 25; (with_reducible refine CN.out.mono ?_); rintro e w2 ⟨rfl, hb⟩; have B1 := Lib.hid hb; clear hb))
    have H1 := Lib.hid (H0.out.on B1.out)
    obtain ⟨c0, c1, f1, hq⟩ := H1.out.cells
    have hlk := H1.out.look k HKS.out
    rw [EA.out, EB.out, EC.out] at hlk
    unfold leV at *
    have B2 := Lib.hid (B1.out.alloc (by have := B1.out.size; omega) (.cells #[.int .i64 a, .int .i64 b, .int .i64 c] 36))
    go_wp2_with (go_at_call 26; (with_reducible refine (CH.out _).mono ?_); rintro e w3 ⟨rfl, hb⟩; have B3 := Lib.hid (B2.out.trans (hb.mono B2.out.size)); clear hb)
    exact bodyPost_ret (v := .tuple #[.int .i64 0, .int .i64 9]) (by simp [results, Try.results13, go_sem]) rfl (ls_stay HX.out H0.out B3.out _)
  case pos =>
    have e1 := HI.1 hhe
    have HD2 := HD.out hhe
    have e2 : Ls.renewN s k ho ep now ttl = max c (Ls.late now ttl) := by unfold Ls.renewN; rw [if_pos e1, EC.out]
    have e3 : Ls.renewS s k ho ep now ttl = ⟨s.margin, Ls.put s.l ⟨k, a, b, max c (Ls.late now ttl), false⟩⟩ := by unfold Ls.renewS; rw [if_pos e1, HD2.1]
    have GD := HD2.2.1
    have FW := HD2.2.2
    rw [HD2.1] at GD FW
    rw [e1, e2, e3]
    have CH := Lib.hid (fun W => lsheld_any W a b c now (x := true) (by simpa using hhe))
    have CL := Lib.hid (fun W => lslater_any W now ttl (by have := HR.out.2.2.2.2.1.1; omega) (by have := HR.out.2.2.2.2.1.2; omega) (by have := HR.out.2.2.2.2.2.1; omega) (by have := HR.out.2.2.2.2.2.2; omega))
    generalize Ls.late now ttl = d at *
    have CP : Hid (∀ W, LsIs W q mo s → Calls Try.prog 23 #[.pointer (some ⟨q, 0, none⟩), .string k, .agg #[.int .i64 a, .int .i64 b, .int .i64 (max c d)]] W (LsPut W q mo ⟨s.margin, Ls.put s.l ⟨k, a, b, max c d, false⟩⟩)) := fun W h => lsput_any W q mo s h k HKS.out a b (max c d) false GD FW
    clear e1 e2 e3 hhe HI HD HD2 GD FW
    go_enter Try.func13, Try.ntmps13
    go_upto_region 6 with (first
      | (go_at_call 21; (with_reducible refine CM.out.mono ?_); rintro e w1 ⟨rfl, rfl⟩)
      | (go_at_call 25; (with_reducible refine CN.out.mono ?_); rintro e w2 ⟨rfl, hb⟩; have B1 := Lib.hid hb; clear hb))
    have H1 := Lib.hid (H0.out.on B1.out)
    obtain ⟨c0, c1, f1, hq⟩ := H1.out.cells
    have hlk := H1.out.look k HKS.out
    rw [EA.out, EB.out, EC.out] at hlk
    unfold leV at *
    go_upto_region 7 with fail
    have B2 := Lib.hid (B1.out.alloc (by have := B1.out.size; omega) (.cells #[.int .i64 a, .int .i64 b, .int .i64 c] 36))
    have R2 := Lib.hid (heap_alloc_new w2 (.cells #[.int .i64 a, .int .i64 b, .int .i64 c] 36))
    have H2 := Lib.hid (H1.out.on ((Below.refl w2.heap.size w2).alloc (Nat.le_refl _) (.cells #[.int .i64 a, .int .i64 b, .int .i64 c] 36)))
    obtain ⟨g, hg⟩ : ∃ g, g = w2.heap.size := ⟨_, rfl⟩
    rw [← hg] at R2 ⊢
    have GB : Hid (w2.heap.size ≤ g) := Nat.le_of_eq hg.symm
    clear hg c0 c1 f1 hq hlk
    have NG : Hid (¬ (g = q ∨ mo = some g)) := fun h => by
      have := GB.out
      have := B1.out.size
      rcases h with rfl | h
      · have := HX.out.lt g HX.out.q; omega
      · have := HX.out.lt g (HX.out.m g h); omega
    generalize w2.alloc (.cells #[.int .i64 a, .int .i64 b, .int .i64 c] 36) = w3 at *
    have d0 := LsCells.c0 R2.out
    have d1 := LsCells.c1 R2.out
    have d2 := LsCells.c2 R2.out
    go_upto_region 9 with (go_at_call 26; (with_reducible refine (CH.out _).mono ?_); rintro e w4 ⟨rfl, hb⟩; have B4 := Lib.hid (B2.out.trans (hb.mono B2.out.size)); have R4 := Lib.hid (blk_on R2.out hb); have H4 := Lib.hid (H2.out.on hb); clear hb d0 d1 d2)
    have H5 := Lib.hid (H4.out.on (Below.refl w4.heap.size w4).drew)
    have B5 := Lib.hid B4.out.drew
    have d0 : w4.drew.cell? ⟨g, 0, none⟩ = some (.int .i64 a) := LsCells.c0 R4.out
    have d1 : w4.drew.cell? ⟨g, 1, none⟩ = some (.int .i64 b) := LsCells.c1 R4.out
    have d2 : w4.drew.cell? ⟨g, 2, none⟩ = some (.int .i64 c) := LsCells.c2 R4.out
    have f2 : w4.drew.frozen? ⟨g, 2, none⟩ = false := frozen_of_row _ g 2 _ _ (show w4.drew.heap[g]? = _ from R4.out)
    have lg : g < w4.drew.heap.size := (Array.getElem?_eq_some_iff.1 (show w4.drew.heap[g]? = _ from R4.out)).1
    have R5 : Hid (w4.drew.heap[g]? = some (.cells #[.int .i64 a, .int .i64 b, .int .i64 c] 36 (0, 0))) := R4.out
    have hdr : Hid (Below w1.heap.size w1 w4.drew) := B5.out
    refine wp_region_held_drew (S := fun _ => True) (by kernel_rfl) trivial (fun hS => ?_)
    refine tkYes 0 (v := ?_) rfl (by kernel_rfl) (fun _ _ _ h => h) rfl ?_ hS ?_
    rotate_left
    · intro W hW; go_simp; (try with_reducible rfl)
    simp only [Act.put, List.setIfInBounds_toArray, List.set_cons_zero, List.set_cons_succ]
    refine tkYes 2 (v := ?_) rfl (by kernel_rfl) (fun _ _ _ h => h) rfl ?_ hS ?_
    rotate_left
    · intro W hW; go_simp; (try with_reducible rfl)
    simp only [Act.put, List.setIfInBounds_toArray, List.set_cons_zero, List.set_cons_succ]
    refine tkYes 3 (v := ?_) rfl (by kernel_rfl) (fun _ _ _ h => h) rfl ?_ hS ?_
    rotate_left
    · intro W hW; go_simp; (try with_reducible rfl)
    simp only [Act.put, List.setIfInBounds_toArray, List.set_cons_zero, List.set_cons_succ]
    refine rnTwo 1 4 rfl rfl (by kernel_rfl) rfl rfl (fun K hK => ?_) (fun K hK => ?_)
    · go_simp
      refine hK.out _ _ hS (fun _ => ?_)
      clear hK K
      try simp only [Act.put, List.setIfInBounds_toArray, List.set_cons_zero, List.set_cons_succ]
      refine rnOne 4 rfl (by kernel_rfl) rfl (fun K hK => ?_)
      go_simp
      with_reducible refine (CL.out _).mono ?_
      rintro e w6 ⟨rfl, hw⟩
      obtain rfl := hw.symm
      refine hK.out _ _ hS (fun _ => ?_)
      clear hK K
      try simp only [Act.put, List.setIfInBounds_toArray, List.set_cons_zero, List.set_cons_succ]
      refine tkYes 5 (v := ?_) rfl (by kernel_rfl) (fun _ _ _ h => h) rfl ?_ hS ?_
      rotate_left
      · intro W hW; go_simp; (try with_reducible rfl)
      simp only [Act.put, List.setIfInBounds_toArray, List.set_cons_zero, List.set_cons_succ]
      refine tkYes 6 (v := ?_) rfl (by kernel_rfl) (fun _ _ _ h => h) rfl ?_ hS ?_
      rotate_left
      · intro W hW; go_simp; (try with_reducible rfl)
      simp only [Act.put, List.setIfInBounds_toArray, List.set_cons_zero, List.set_cons_succ]
      refine rnOne 7 rfl (by kernel_rfl) rfl (fun K hK => ?_)
      go_simp
      refine hK.out _ _ hS (fun _ => ?_)
      clear hK K
      refine wpAnyH_done (by kernel_rfl) ?_ _
      have R6 : Hid ((w4.setCell ⟨g, 2, none⟩ (.int .i64 (max c d))).drew.heap[g]? = some (.cells #[.int .i64 a, .int .i64 b, .int .i64 (max c d)] 36 (0, 0))) := heap_setCell_same w4 g 2 _ _ (.int .i64 (max c d)) R4.out
      have B6 : Hid (Below w1.heap.size w1 (w4.setCell ⟨g, 2, none⟩ (.int .i64 (max c d))).drew) := (B4.out.setCell (p := ⟨g, 2, none⟩) (by have := GB.out; have := B1.out.size; show w1.heap.size ≤ g; omega) _).drew
      have H6 : Hid (LsIs (w4.setCell ⟨g, 2, none⟩ (.int .i64 (max c d))).drew q mo s) := (H4.out.keep (heap_setCell_other _ _ _ _ (fun e => NG.out (.inl e.symm))) (fun m hm => heap_setCell_other _ _ _ _ (fun e => NG.out (.inr (by rw [hm]; exact congrArg some e))))).on (Below.refl _ _).drew
      clear d0 d1 d2 f2 lg hS
      generalize (w4.setCell ⟨g, 2, none⟩ (.int .i64 (max c d))).drew = w6 at *
      have d0 := LsCells.c0 R6.out
      have d1 := LsCells.c1 R6.out
      have d2 := LsCells.c2 R6.out
      go_upto_region 11 with (go_at_call 23; (with_reducible refine (CP.out _ H6.out).mono ?_); rintro e w7 ⟨mo5, rfl, hm5, hk5, hn5⟩; have R7 := Lib.hid ((hk5.block g (Array.getElem?_eq_some_iff.1 R6.out).1 NG.out).trans R6.out); have M5 := Lib.hid hm5; have K5 := Lib.hid hk5; have N5 := Lib.hid hn5; clear hm5 hk5 hn5 d0 d1 d2)
      have d2 := LsCells.c2 R7.out
      go_wp2_with fail
      exact bodyPost_ret (v := .tuple #[.int .i64 (max c d), .int .i64 0]) (by simp [results, Try.results13, go_sem]) rfl (ls_turn HX.out B6.out M5.out K5.out N5.out _)
    · go_simp
      with_reducible refine (CL.out _).mono ?_
      rintro e w6 ⟨rfl, hw⟩
      obtain rfl := hw.symm
      refine hK.out _ _ hS (fun _ => ?_)
      clear hK K
      try simp only [Act.put, List.setIfInBounds_toArray, List.set_cons_zero, List.set_cons_succ]
      refine rnOne 1 rfl (by kernel_rfl) rfl (fun K hK => ?_)
      go_simp
      refine hK.out _ _ hS (fun _ => ?_)
      clear hK K
      refine tkYes 5 (v := ?_) rfl (by kernel_rfl) (fun _ _ _ h => h) rfl ?_ hS ?_
      rotate_left
      · intro W hW; go_simp; (try with_reducible rfl)
      simp only [Act.put, List.setIfInBounds_toArray, List.set_cons_zero, List.set_cons_succ]
      refine tkYes 6 (v := ?_) rfl (by kernel_rfl) (fun _ _ _ h => h) rfl ?_ hS ?_
      rotate_left
      · intro W hW; go_simp; (try with_reducible rfl)
      simp only [Act.put, List.setIfInBounds_toArray, List.set_cons_zero, List.set_cons_succ]
      refine rnOne 7 rfl (by kernel_rfl) rfl (fun K hK => ?_)
      go_simp
      refine hK.out _ _ hS (fun _ => ?_)
      clear hK K
      refine wpAnyH_done (by kernel_rfl) ?_ _
      have R6 : Hid ((w4.setCell ⟨g, 2, none⟩ (.int .i64 (max c d))).drew.heap[g]? = some (.cells #[.int .i64 a, .int .i64 b, .int .i64 (max c d)] 36 (0, 0))) := heap_setCell_same w4 g 2 _ _ (.int .i64 (max c d)) R4.out
      have B6 : Hid (Below w1.heap.size w1 (w4.setCell ⟨g, 2, none⟩ (.int .i64 (max c d))).drew) := (B4.out.setCell (p := ⟨g, 2, none⟩) (by have := GB.out; have := B1.out.size; show w1.heap.size ≤ g; omega) _).drew
      have H6 : Hid (LsIs (w4.setCell ⟨g, 2, none⟩ (.int .i64 (max c d))).drew q mo s) := (H4.out.keep (heap_setCell_other _ _ _ _ (fun e => NG.out (.inl e.symm))) (fun m hm => heap_setCell_other _ _ _ _ (fun e => NG.out (.inr (by rw [hm]; exact congrArg some e))))).on (Below.refl _ _).drew
      clear d0 d1 d2 f2 lg hS
      generalize (w4.setCell ⟨g, 2, none⟩ (.int .i64 (max c d))).drew = w6 at *
      have d0 := LsCells.c0 R6.out
      have d1 := LsCells.c1 R6.out
      have d2 := LsCells.c2 R6.out
      go_upto_region 11 with (go_at_call 23; (with_reducible refine (CP.out _ H6.out).mono ?_); rintro e w7 ⟨mo5, rfl, hm5, hk5, hn5⟩; have R7 := Lib.hid ((hk5.block g (Array.getElem?_eq_some_iff.1 R6.out).1 NG.out).trans R6.out); have M5 := Lib.hid hm5; have K5 := Lib.hid hk5; have N5 := Lib.hid hn5; clear hm5 hk5 hn5 d0 d1 d2)
      have d2 := LsCells.c2 R7.out
      go_wp2_with fail
      exact bodyPost_ret (v := .tuple #[.int .i64 (max c d), .int .i64 0]) (by simp [results, Try.results13, go_sem]) rfl (ls_turn HX.out B6.out M5.out K5.out N5.out _)
end Go.Proofs.Ytemnioijgkahcaa
