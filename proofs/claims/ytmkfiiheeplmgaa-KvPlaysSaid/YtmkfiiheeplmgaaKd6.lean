/-
  Package kv: what speaks against a change (refusal). No condition.
-/
import Derived.Test.YtmkfiiheeplmgaaKd4
namespace Go.Proofs.Ytmkfiiheeplmgaa
open Go.RowKit Go.Deep Go.Maps Go.Shelf

set_option maxHeartbeats 3200000 in
theorem kvref_any (w : World) (q : Nat) (mo : Option Nat) (s : Kv.St) (l : List Kv.Po) (n c : Nat) (A : Option Addr) (w0 : World) (hk : KvIs w q mo s) (h : SlP w0 A n c l) (hb0 : Below w0.heap.size w0 w) (hz : l.length ≤ 70) :
    Calls Try.prog 25 #[.pointer (some ⟨q, 0, none⟩), .slice A n c] w (KInt (Kv.doE s l : Nat) w) := by
  have hn := h.len
  have hmx := h.max
  have hcp := h.cap
  unfold maxLen at hmx
  have HA := Lib.hid h
  have HN := Lib.hid hn
  have HZ := Lib.hid hz
  have B0 := Lib.hid hb0
  have HK := Lib.hid hk.ask
  have GD := Lib.hid hk.good
  have B := Lib.hid (Below.refl w.heap.size w)
  clear h hn hb0 hk hz
  by_cases h0 : n = 0
  · have NE : Hid (Kv.doE s l = 1) := Kv.doE_right fun h => by have := h.1; have := HN.out; omega
    subst h0
    go_enter Try.func25, Try.ntmps25
    go_wp2_with fail
    go_ret
    exact ⟨by rw [NE.out]; rfl, B.out⟩
  have hn0 : ((n : Int) == 0) = false := by rw [beq_eq_false_iff_ne]; omega
  have CB : Hid (∀ w1, Below w.heap.size w w1 → Calls Try.prog 32 #[.slice A n c, .func (.func 33) #[] #[]] w1 (fun e w' => e = .returned (.bool (l.any Kv.badB)) ∧ Below w1.heap.size w1 w')) := fun w1 hb => kvcontains_any 33 #[] Kv.badB (enters_of Try.func33 (by kernel_rfl) rfl) l n c A w0 w1 HA.out (B0.out.trans (hb.mono B0.out.size)) (bad_fn HA.out)
  cases hbad : l.any Kv.badB with
  | true =>
    rw [hbad] at CB
    have NE : Hid (Kv.doE s l = 1) := Kv.doE_right fun h => by
      obtain ⟨o, ho, hb⟩ := List.any_eq_true.1 hbad
      exact Kv.badB_iff.1 hb (h.2.1 o ho)
    clear hbad
    go_enter Try.func25, Try.ntmps25
    go_wp2_with (first
        | (go_at_call 32; (with_reducible refine (CB.out _ B.out).mono ?_); rintro e w1 ⟨rfl, hb⟩; have B := Lib.hid (B.out.trans (hb.mono B.out.size)); clear hb))
    go_ret
    exact ⟨by rw [NE.out]; rfl, B.out⟩
  | false =>
  rw [hbad] at CB
  have OK : Hid (∀ o ∈ l, Kv.PoOk o) := fun o ho => by
    have h1 := List.any_eq_false.1 hbad o ho
    exact Classical.byContradiction fun h2 => h1 (Kv.badB_iff.2 h2)
  clear hbad
  by_cases hpw : l.Pairwise fun a b => a.key ≠ b.key
  case neg =>
    have CT : Hid (∀ w1, Below w.heap.size w w1 → Calls Try.prog 34 #[.slice A n c] w1 (fun e w' => e = .returned (.bool true) ∧ Below w1.heap.size w1 w')) := fun w1 hb => (kvtwice_any l n c A w0 w1 HA.out (B0.out.trans (hb.mono B0.out.size)) HZ.out).mono fun e w' ⟨⟨x, h1, h2⟩, h3⟩ => ⟨by rw [h1, h2.2 hpw], h3⟩
    have NE : Hid (Kv.doE s l = 1) := Kv.doE_right fun h => hpw h.2.2
    clear hpw
    go_enter Try.func25, Try.ntmps25
    go_wp2_with (first
        | (go_at_call 32; (with_reducible refine (CB.out _ B.out).mono ?_); rintro e w1 ⟨rfl, hb⟩; have B := Lib.hid (B.out.trans (hb.mono B.out.size)); clear hb)
        | (go_at_call 34; (with_reducible refine (CT.out _ B.out).mono ?_); rintro e w1 ⟨rfl, hb⟩; have B := Lib.hid (B.out.trans (hb.mono B.out.size)); clear hb))
    go_ret
    exact ⟨by rw [NE.out]; rfl, B.out⟩
  have CT : Hid (∀ w1, Below w.heap.size w w1 → Calls Try.prog 34 #[.slice A n c] w1 (fun e w' => e = .returned (.bool false) ∧ Below w1.heap.size w1 w')) := fun w1 hb => (kvtwice_any l n c A w0 w1 HA.out (B0.out.trans (hb.mono B0.out.size)) HZ.out).mono fun e w' ⟨⟨x, h1, h2⟩, h3⟩ => ⟨by
      rw [h1]
      cases x with
      | false => rfl
      | true => exact absurd hpw (h2.1 rfl), h3⟩
  have RT : Hid (Kv.Right l) := ⟨by have := HN.out; omega, OK.out, hpw⟩
  clear hpw
  have CO : Hid (∀ w1, Below w.heap.size w w1 → Calls Try.prog 32 #[.slice A n c, .func (.func 35) #[.pointer (some ⟨q, 0, none⟩)] #[]] w1 (fun e w' => e = .returned (.bool (l.any (Kv.oddB s))) ∧ Below w1.heap.size w1 w')) := fun w1 hb => kvcontains_any 35 #[.pointer (some ⟨q, 0, none⟩)] (Kv.oddB s) (enters_of Try.func35 (by kernel_rfl) rfl) l n c A w0 w1 HA.out (B0.out.trans (hb.mono B0.out.size)) (odd_fn HA.out (HK.out.on hb))
  cases hodd : l.any (Kv.oddB s) with
  | true =>
    rw [hodd] at CO
    have NE : Hid (Kv.doE s l = 7) := by
      obtain ⟨o, ho, hb⟩ := List.any_eq_true.1 hodd
      exact Kv.doE_odd RT.out ⟨o, ho, Kv.oddB_iff.1 hb⟩
    clear hodd
    go_enter Try.func25, Try.ntmps25
    go_wp2_with (first
        | (go_at_call 32; (with_reducible refine (CB.out _ B.out).mono ?_); rintro e w1 ⟨rfl, hb⟩; have B := Lib.hid (B.out.trans (hb.mono B.out.size)); clear hb)
        | (go_at_call 34; (with_reducible refine (CT.out _ B.out).mono ?_); rintro e w1 ⟨rfl, hb⟩; have B := Lib.hid (B.out.trans (hb.mono B.out.size)); clear hb)
        | (go_at_call 32; (with_reducible refine (CO.out _ B.out).mono ?_); rintro e w1 ⟨rfl, hb⟩; have B := Lib.hid (B.out.trans (hb.mono B.out.size)); clear hb))
    go_ret
    exact ⟨by rw [NE.out]; rfl, B.out⟩
  | false =>
  rw [hodd] at CO
  have OD : Hid (∀ o ∈ l, ¬ Kv.Odd s o) := fun o ho h => List.any_eq_false.1 hodd o ho (Kv.oddB_iff.2 h)
  clear hodd
  have CL : Hid (∀ w1, Below w.heap.size w w1 → Calls Try.prog 32 #[.slice A n c, .func (.func 36) #[.pointer (some ⟨q, 0, none⟩)] #[]] w1 (fun e w' => e = .returned (.bool (l.any (Kv.lackB s))) ∧ Below w1.heap.size w1 w')) := fun w1 hb => kvcontains_any 36 #[.pointer (some ⟨q, 0, none⟩)] (Kv.lackB s) (enters_of Try.func36 (by kernel_rfl) rfl) l n c A w0 w1 HA.out (B0.out.trans (hb.mono B0.out.size)) (lack_fn HA.out (HK.out.on hb))
  cases hlk : l.any (Kv.lackB s) with
  | true =>
    rw [hlk] at CL
    have NE : Hid (Kv.doE s l = 5) := by
      obtain ⟨o, ho, hb⟩ := List.any_eq_true.1 hlk
      exact Kv.doE_lacks RT.out OD.out ⟨o, ho, (Kv.lackB_iff GD.out).1 hb⟩
    clear hlk
    go_enter Try.func25, Try.ntmps25
    go_wp2_with (first
        | (go_at_call 32; (with_reducible refine (CB.out _ B.out).mono ?_); rintro e w1 ⟨rfl, hb⟩; have B := Lib.hid (B.out.trans (hb.mono B.out.size)); clear hb)
        | (go_at_call 34; (with_reducible refine (CT.out _ B.out).mono ?_); rintro e w1 ⟨rfl, hb⟩; have B := Lib.hid (B.out.trans (hb.mono B.out.size)); clear hb)
        | (go_at_call 32; (with_reducible refine (CO.out _ B.out).mono ?_); rintro e w1 ⟨rfl, hb⟩; have B := Lib.hid (B.out.trans (hb.mono B.out.size)); clear hb)
        | (go_at_call 32; (with_reducible refine (CL.out _ B.out).mono ?_); rintro e w1 ⟨rfl, hb⟩; have B := Lib.hid (B.out.trans (hb.mono B.out.size)); clear hb))
    go_ret
    exact ⟨by rw [NE.out]; rfl, B.out⟩
  | false =>
  rw [hlk] at CL
  have LK : Hid (∀ o ∈ l, ¬ Kv.Lacks s o) := fun o ho h => List.any_eq_false.1 hlk o ho ((Kv.lackB_iff GD.out).2 h)
  clear hlk
  have CN : Hid (∀ w1, Below w.heap.size w w1 → Calls Try.prog 37 #[.pointer (some ⟨q, 0, none⟩), .slice A n c] w1 (KInt ((Kv.after s l).l.length : Nat) w1)) := fun w1 hb => kvlenb_any w1 _ mo s l n c A w0 (HK.out.on hb) HA.out (B0.out.trans (hb.mono B0.out.size)) RT.out LK.out HZ.out
  by_cases hf : 64 < (Kv.after s l).l.length
  · have NE : Hid (Kv.doE s l = 4) := Kv.doE_full RT.out OD.out LK.out hf
    generalize (Kv.after s l).l.length = ln at *
    have hg : decide ((64 : Int) < (ln : Nat)) = true := decide_eq_true (by omega)
    go_enter Try.func25, Try.ntmps25
    go_wp2_with (first
        | (go_at_call 32; (with_reducible refine (CB.out _ B.out).mono ?_); rintro e w1 ⟨rfl, hb⟩; have B := Lib.hid (B.out.trans (hb.mono B.out.size)); clear hb)
        | (go_at_call 34; (with_reducible refine (CT.out _ B.out).mono ?_); rintro e w1 ⟨rfl, hb⟩; have B := Lib.hid (B.out.trans (hb.mono B.out.size)); clear hb)
        | (go_at_call 32; (with_reducible refine (CO.out _ B.out).mono ?_); rintro e w1 ⟨rfl, hb⟩; have B := Lib.hid (B.out.trans (hb.mono B.out.size)); clear hb)
        | (go_at_call 32; (with_reducible refine (CL.out _ B.out).mono ?_); rintro e w1 ⟨rfl, hb⟩; have B := Lib.hid (B.out.trans (hb.mono B.out.size)); clear hb)
        | (go_at_call 37; (with_reducible refine (CN.out _ B.out).mono ?_); rintro e w1 ⟨rfl, hb⟩; have B := Lib.hid (B.out.trans (hb.mono B.out.size)); clear hb))
    go_ret
    exact ⟨by rw [NE.out]; rfl, B.out⟩
  · have NE : Hid (Kv.doE s l = 0) := Kv.doE_ok RT.out OD.out LK.out hf
    generalize (Kv.after s l).l.length = ln at *
    have hg : decide ((64 : Int) < (ln : Nat)) = false := decide_eq_false (by omega)
    go_enter Try.func25, Try.ntmps25
    go_wp2_with (first
        | (go_at_call 32; (with_reducible refine (CB.out _ B.out).mono ?_); rintro e w1 ⟨rfl, hb⟩; have B := Lib.hid (B.out.trans (hb.mono B.out.size)); clear hb)
        | (go_at_call 34; (with_reducible refine (CT.out _ B.out).mono ?_); rintro e w1 ⟨rfl, hb⟩; have B := Lib.hid (B.out.trans (hb.mono B.out.size)); clear hb)
        | (go_at_call 32; (with_reducible refine (CO.out _ B.out).mono ?_); rintro e w1 ⟨rfl, hb⟩; have B := Lib.hid (B.out.trans (hb.mono B.out.size)); clear hb)
        | (go_at_call 32; (with_reducible refine (CL.out _ B.out).mono ?_); rintro e w1 ⟨rfl, hb⟩; have B := Lib.hid (B.out.trans (hb.mono B.out.size)); clear hb)
        | (go_at_call 37; (with_reducible refine (CN.out _ B.out).mono ?_); rintro e w1 ⟨rfl, hb⟩; have B := Lib.hid (B.out.trans (hb.mono B.out.size)); clear hb))
    go_ret
    exact ⟨by rw [NE.out]; rfl, B.out⟩
theorem kvref_nil (w : World) (n c : Nat) (A : Option Addr) : Calls Try.prog 25 #[.pointer none, .slice A n c] w (KInt 1 w) := by
  go_enter Try.func25, Try.ntmps25
  go_wp2_with fail
  go_ret
  exact ⟨rfl, Below.refl _ _⟩
end Go.Proofs.Ytmkfiiheeplmgaa
