/-
  The walk of the statement CodecOnly.
-/
import Derived.Test.YtogmepijpklciaaCdcLives
namespace Go.Proofs.Ytogmepijpklciaa
open Go.RowKit Cdc

theorem num_lost : num lost = lost ∧ numV lost = 0 := ⟨num_err (by decide), numV_err (by decide)⟩
theorem text_lost : text lost = lost ∧ textV lost = [] := ⟨rfl, rfl⟩
theorem list_lost : list lost = lost ∧ listV lost = [] := ⟨rfl, rfl⟩
theorem end_lost : endE lost = 2 := rfl
theorem rnum_lost (W : World) (r : Nat) (h : Rdr W r lost) : Calls Try.prog 25 #[.pointer (some ⟨r, 0, none⟩)] W (NumPost W r 0 lost) := by
  have := numb_any W r lost h (by simp [lost])
  rwa [num_lost.1, num_lost.2] at this
theorem rtext_lost (W : World) (r : Nat) (h : Rdr W r lost) : Calls Try.prog 26 #[.pointer (some ⟨r, 0, none⟩)] W fun e w' => e = .returned (.string ⟨#[]⟩) ∧ Rdr w' r lost ∧ W.grownBy w' (some r) := by
  have := rtext_any W r lost h (by simp [lost])
  unfold TextPost at this
  rwa [text_lost.1, text_lost.2] at this
theorem rlist_lost (W : World) (r : Nat) (h : Rdr W r lost) : Calls Try.prog 27 #[.pointer (some ⟨r, 0, none⟩)] W fun e w' => ∃ A c, e = .returned (.slice A 0 c) ∧ Rdr w' r lost ∧ W.grownBy w' (some r) := by
  have := rlist_any W r lost h (by simp [lost])
  unfold ListPost at this
  rw [list_lost.1, list_lost.2] at this
  exact this.mono fun _ _ ⟨A, c, h1, _, h2, h3⟩ => ⟨A, c, h1, h2, h3⟩
theorem below_r {w a b : World} {r : Nat} (h : Below w.heap.size w a) (g : a.grownBy b (some r)) (hr : w.heap.size ≤ r) : Below w.heap.size w b :=
  h.grown g h.size (fun k hk => by injection hk with hk; omega)

def OnlyRel (w : World) (r : Nat) (b0 : List Nat) (v i : Value) (wr : World) : Prop :=
  ∃ (k : Nat) (o l' : List Nat) (A : Option Addr) (c : Nat), i = .int .i64 k ∧ k ≤ 100 ∧ k ≤ o.length ∧ v = .slice A o.length c ∧ Sl wr A o.length c o ∧ Rdr wr r ⟨l', 0⟩ ∧ o ++ l' = b0 ∧ Below w.heap.size w wr ∧ ∀ a, A = some a → a.block ≠ r
theorem only_next {o l' b0 : List Nat} (hb : ∀ x ∈ b0, x < 256) (h : o ++ l' = b0) (hd : dk l' ≠ 0) : (o ++ digs (dn l')) ++ l'.drop (dk l') = b0 ∧ (digs (dn l')).length = dk l' ∧ o.length + 1 ≤ (o ++ digs (dn l')).length := by
  have hl : ∀ x ∈ l', x < 256 := fun x hx => hb x (by rw [← h]; exact List.mem_append_right _ hx)
  have e := digs_dn hl hd
  have hlen : (digs (dn l')).length = dk l' := by rw [e, List.length_take, Nat.min_eq_left (dk_le l')]
  refine ⟨by rw [e, List.append_assoc, List.take_append_drop, h], hlen, ?_⟩
  rw [List.length_append]; omega

set_option maxRecDepth 100000 in
set_option maxHeartbeats 3200000 in
theorem only_walk (n c : Nat) (A : Option Addr) (l : List Nat) (w : World) (hs : Sl w A n c l) :
    Calls Try.prog 6 #[.slice A n c] w fun e w' => e = .returned (.bool true) ∧ Below w.heap.size w w' := by
  have S := Lib.hid (hs.few 100)
  have HC := Lib.hid hs.cap
  clear hs
  have HL : Hid ((l.take 100).length ≤ 100) := by show _ ≤ _; rw [List.length_take]; omega
  generalize l.take 100 = b0 at *
  go_enter Try.func6, Try.ntmps6
  go_wp2_with fail
  refine (lives_at _ (Below.refl _ _)).mono ?_
  rintro e w1 ⟨rfl, hb1⟩
  have B1 := Lib.hid hb1; clear hb1
  go_wp2_with fail
  refine (few_any n c A w1 HC.out).mono ?_
  rintro e w2 ⟨rfl, rfl⟩
  go_wp2_with fail
  refine (reader_any _ c A b0 w1 (S.out.on B1.out) (by omega)).mono ?_
  rintro e w3 ⟨r, rfl, hr3, hge, hb3⟩
  have R3 := Lib.hid hr3; clear hr3
  have B3 := Lib.hid (B1.out.trans (hb3.mono B1.out.size)); clear hb3
  have HG := Lib.hid (Nat.le_trans B1.out.size hge); clear hge
  go_wp2_with fail
  go_loopw [4, 5] (fun v i wr => OnlyRel w r b0 v i wr) (fun _ i _ => 100 - (intOf i).toNat)
  case atStart => exact ⟨0, [], b0, none, 0, rfl, by omega, by simp, rfl, Sl.none_ _, R3.out, rfl, B3.out, fun a h => by cases h⟩
  case round =>
    obtain ⟨k, o, l', A', c', rfl, hk, hko, rfl, ho, hr, hcat, hb, hap⟩ := hrel
    have AP := Lib.hid hap; clear hap
    clear R3 B3 B1
    have O := Lib.hid ho; clear ho
    have R := Lib.hid hr; clear hr
    have C := Lib.hid hcat; clear hcat
    have B := Lib.hid hb; clear hb
    have hol : o.length + l'.length ≤ 100 := by have := HL.out; rw [← C.out, List.length_append] at this; exact this
    have L := Lib.hid (left_any wr r _ R.out)
    by_cases hin : 0 < l'.length
    · have hk2 : k < 100 := by omega
      have NB := Lib.hid (numb_any wr r _ R.out (by show l'.length ≤ _; omega))
      by_cases hd : dk l' = 0
      · have HNV : Hid (numV ⟨l', 0⟩ = 0 ∧ num ⟨l', 0⟩ = lost) := by show _ ∧ _; unfold numV num; simp only [if_pos, hd, dn_none hd, and_self]
        go_wp2_with fail
        refine L.out.mono ?_
        rintro e w4 ⟨rfl, rfl⟩
        go_wp2_with fail
        refine L.out.mono ?_
        rintro e w4 ⟨rfl, rfl⟩
        go_wp2_with fail
        refine NB.out.mono ?_
        rw [HNV.out.1, HNV.out.2]
        rintro e w4 ⟨rfl, hr4, hg4⟩
        have R4 := Lib.hid hr4; clear hr4
        have B4 := Lib.hid (below_r B.out hg4 HG.out); clear hg4
        go_wp2_with fail
        refine (err_any w4 r _ R4.out).mono ?_
        rintro e w5 ⟨rfl, rfl⟩
        rw [show lost.e = 2 from rfl]
        go_wp2_with fail
        refine (left_any w4 r _ R4.out).mono ?_
        rintro e w5 ⟨rfl, rfl⟩
        rw [show lost.l.length = 0 from rfl]
        go_wp2_with fail
        refine (rnum_lost w4 r R4.out).mono ?_
        rintro e w5 ⟨rfl, hr5, hg5⟩
        have R5 := Lib.hid hr5; clear hr5
        have B5 := Lib.hid (below_r B4.out hg5 HG.out); clear hg5
        go_wp2_with fail
        refine (rtext_lost w5 r R5.out).mono ?_
        rintro e w6 ⟨rfl, hr6, hg6⟩
        have R6 := Lib.hid hr6; clear hr6
        have B6 := Lib.hid (below_r B5.out hg6 HG.out); clear hg6
        go_wp2_with fail
        refine (rlist_lost w6 r R6.out).mono ?_
        rintro e w7 ⟨A7, c7, rfl, hr7, hg7⟩
        have R7 := Lib.hid hr7; clear hr7
        have B7 := Lib.hid (below_r B6.out hg7 HG.out); clear hg7
        go_wp2_with fail
        refine (end_any w7 r _ R7.out).mono ?_
        rintro e w8 ⟨rfl, rfl⟩
        rw [end_lost]
        go_wp2_with fail
        go_ret
        exact ⟨rfl, B7.out⟩
      · have HNV : Hid (numV ⟨l', 0⟩ = dn l' ∧ num ⟨l', 0⟩ = ⟨l'.drop (dk l'), 0⟩) := by show _ ∧ _; unfold numV num; simp only [if_pos, if_neg hd, and_self]
        have X := Lib.hid (only_next S.out.rd.1 C.out hd)
        have hdl := dk_le l'
        have hlt := Lib.hid (dn_lt l')
        have HD : Hid ((l'.drop (dk l')).length = l'.length - dk l') := List.length_drop
        clear hd
        generalize dk l' = d at *
        generalize dn l' = m at *
        go_wp2_with fail
        refine L.out.mono ?_
        rintro e w4 ⟨rfl, rfl⟩
        go_wp2_with fail
        refine L.out.mono ?_
        rintro e w4 ⟨rfl, rfl⟩
        go_wp2_with fail
        refine NB.out.mono ?_
        rw [HNV.out.1, HNV.out.2]
        rintro e w4 ⟨rfl, hr4, hg4⟩
        have R4 := Lib.hid hr4; clear hr4
        have G4 := Lib.hid hg4
        have B4 := Lib.hid (below_r B.out hg4 HG.out); clear hg4
        go_wp2_with fail
        refine (err_any w4 r _ R4.out).mono ?_
        rintro e w5 ⟨rfl, rfl⟩
        go_wp2_with fail
        have O4 := Lib.hid (O.out.apart G4.out AP.out)
        refine (number_yes o.length c' m A' o w4 O4.out (by omega) hlt.out).mono ?_
        rintro e w5 ⟨A5, c5, rfl, ho5, hb5, hfar5⟩
        have O5 := Lib.hid ho5; clear ho5
        have R5 := Lib.hid (R4.out.below hb5)
        have P5 : Hid (∀ a, A5 = some a → a.block ≠ r) := fun a ha => by have := hfar5 a ha; have := R4.out.lt; omega
        have B5 := Lib.hid (B4.out.trans (hb5.mono B4.out.size)); clear hb5 hfar5
        go_wp2_with fail
        refine (size_yes m w5 hlt.out).mono ?_
        rintro e w6 ⟨rfl, rfl⟩
        rw [X.out.2.1]
        go_wp2_with fail
        refine (left_any w5 r _ R5.out).mono ?_
        rintro e w6 ⟨rfl, rfl⟩
        simp only [HD.out]
        have hne : ((d : Int) != (l'.length : Int) - ((l'.length - d : Nat) : Int)) = false := by rw [bne_eq_false_iff_eq]; omega
        go_wp2_with fail
        go_roundw
        case rel => exact ⟨k + 1, _, _, A5, c5, by go_num, by omega, by have := X.out.2.2; omega, by rw [List.length_append, X.out.2.1], O5.out, R5.out, X.out.1, B5.out, P5.out⟩
        case measure => simp [intOf]; omega
    · obtain rfl : l' = [] := by cases l'; rfl; simp at hin
      have CC : Hid (o = b0) := by have := C.out; rw [List.append_nil] at this; exact this
      obtain rfl := CC.out
      have hc1 := conv_rd (c := c') O.out.rd rfl
      have hc2 := conv_rd (c := c) (S.out.on B.out).rd S.out.len
      have E := Lib.hid (end_any wr r _ R.out)
      have T := txt_same o
      have L0 : Hid (Calls Try.prog 22 #[.pointer (some ⟨r, 0, none⟩)] wr fun e w' => e = .returned (.int .i64 0) ∧ wr = w') := L.out
      have E0 : Hid (Calls Try.prog 23 #[.pointer (some ⟨r, 0, none⟩)] wr fun e w' => e = .returned (.int .i64 0) ∧ wr = w') := E.out
      clear L E C
      by_cases hk2 : k < 100
      · go_wp2_with fail
        refine L0.out.mono ?_
        rintro e w4 ⟨rfl, rfl⟩
        go_wp2_with fail
        refine E0.out.mono ?_
        rintro e w4 ⟨rfl, rfl⟩
        go_wp2_with fail
        go_ret
        exact ⟨rfl, B.out⟩
      · go_wp2_with fail
        refine E0.out.mono ?_
        rintro e w4 ⟨rfl, rfl⟩
        go_wp2_with fail
        go_ret
        exact ⟨rfl, B.out⟩
end Go.Proofs.Ytogmepijpklciaa
