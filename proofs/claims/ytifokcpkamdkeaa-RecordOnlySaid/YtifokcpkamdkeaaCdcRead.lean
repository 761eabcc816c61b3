/-
  A reader of package codec: take, Number, count, Text, List: what they answer, and what they leave, from any world.
-/
import Derived.Test.YtifokcpkamdkeaaCdcDigits
namespace Go.Proofs.Ytifokcpkamdkeaa
open Go.RowKit Cdc

theorem cut_run (A : Option Addr) (n c k : Nat) (hk : k ≤ n) (W : World) :
    (Instr.slice 22 (.slice A n c) (some (.int .i64 (k : Int))) none none).run Try.prog W = .ok (.slice (if c = k then A else A.map fun x => x.add k) (n - k) (c - k)) W := by
  have h1 : ∀ W : World, (sizeOf (Try.prog.elem 22)).run Try.prog W = .ok 1 W := fun _ => by kernel_rfl
  rw [run_slice_l _ 22 A n c (by kernel_rfl) IntKind.i64 (k : Int) (by omega) (by omega), h1]
  simp [Result.andThen, sliced]
theorem Rdr.kept {w w' : World} {r : Nat} {s : St} {row : Option Nat} (h : Rdr w r s) (hg : w.grownBy w' row) (hr : ∀ k, row = some k → r < k) : Rdr w' r s := by
  have hlt := h.lt
  obtain ⟨A, c, h, h2, h3⟩ := h
  have hb : ∀ k, k ≤ r → w'.heap[k]? = w.heap[k]? := fun k hk => hg.block k (by omega) (fun e => by have := hr k e.symm; omega)
  exact ⟨A, c, by rw [hb r (by omega)]; exact h, h2.keep fun p hp => World.cell?_of_block (w := w) (hb _ (by omega)), h3⟩
theorem grown_other {w a b : World} {row row2 : Option Nat} (h : w.grownBy a row) (k : a.grownBy b row2) (hr : ∀ i, row2 = some i → w.heap.size ≤ i) : w.grownBy b row :=
  ⟨k.os.trans h.os, k.tape.trans h.tape, k.output.trans h.output, Nat.le_trans h.size k.size, fun i hi hne => (k.block i (Nat.lt_of_lt_of_le hi h.size) (fun e => by have := hr i e.symm; omega)).trans (h.block i hi hne)⟩

def TakePost (w : World) (r : Nat) (s : St) (n : Nat) (e : Ending) (w' : World) : Prop :=
  ∃ A c, e = .returned (.slice A (tkV s n).length c) ∧ Rd w' w'.heap.size A (tkV s n) ∧ Rdr w' r (tk s n) ∧ w.grownBy w' (some r)
theorem take_err (w : World) (r n : Nat) (s : St) (h : Rdr w r s) (he : s.e ≠ 0) :
    Calls Try.prog 38 #[.pointer (some ⟨r, 0, none⟩), .int .i64 n] w (TakePost w r s n) := by
  have H := Lib.hid h; clear h
  have hne : (s.e != 0) = true := by rw [bne_iff_ne]; exact he
  have HT : Hid (tkV s n = [] ∧ tk s n = s) := by show _ ∧ _; unfold tkV tk; rw [if_neg he, if_neg he]; exact ⟨rfl, rfl⟩
  clear he
  go_enter Try.func38, Try.ntmps38
  go_wp2_with fail
  refine (err_any w r s H.out).mono ?_
  rintro e w1 ⟨rfl, rfl⟩
  go_wp2_with fail
  go_ret
  unfold TakePost
  rw [HT.out.1, HT.out.2]
  exact ⟨none, 0, rfl, Rd.empty _ _ _, H.out, World.grownBy.refl _ _⟩
theorem take_over (w : World) (r n : Nat) (s : St) (h : Rdr w r s) (he : s.e = 0) (hn : s.l.length < n) :
    Calls Try.prog 38 #[.pointer (some ⟨r, 0, none⟩), .int .i64 n] w (TakePost w r s n) := by
  have H := Lib.hid h
  obtain ⟨A, c, hf⟩ := h.fields
  have c0 := hf.left
  clear h hf
  have HE := Lib.hid he
  have HT : Hid (tkV s n = [] ∧ tk s n = lost) := by show _ ∧ _; unfold tkV tk; rw [if_pos he, if_pos he, if_neg (by omega), if_neg (by omega)]; exact ⟨rfl, rfl⟩
  clear he
  generalize s.l.length = m at *
  go_enter Try.func38, Try.ntmps38
  go_wp2_with fail
  refine (err_any w r s H.out).mono ?_
  rintro e w1 ⟨rfl, rfl⟩
  rw [HE.out]
  go_wp2_with fail
  refine (fail_any w r s H.out).mono ?_
  rintro e w1 ⟨rfl, hr, hg⟩
  have R := Lib.hid hr; clear hr
  have G := Lib.hid hg; clear hg
  go_wp2_with fail
  go_ret
  unfold TakePost
  rw [HT.out.1, HT.out.2]
  exact ⟨none, 0, rfl, Rd.empty _ _ _, R.out, G.out⟩
set_option maxRecDepth 100000 in
theorem take_ok (w : World) (r n : Nat) (s : St) (h : Rdr w r s) (he : s.e = 0) (hn : n ≤ s.l.length) :
    Calls Try.prog 38 #[.pointer (some ⟨r, 0, none⟩), .int .i64 n] w (TakePost w r s n) := by
  have H := Lib.hid h
  obtain ⟨A, c, hf⟩ := h.fields
  have HF := Lib.hid hf
  have c0 := hf.left
  have f0 := hf.f0
  have hcap := hf.cap
  obtain ⟨A', hA, hsl⟩ : ∃ A', A' = (if c = n then A else A.map fun x => x.add n) ∧ ∀ W, (Instr.slice 22 (.slice A s.l.length c) (some (.int .i64 (n : Int))) none none).run Try.prog W = .ok (.slice A' (s.l.length - n) (c - n)) W := ⟨_, rfl, cut_run A s.l.length c n hn⟩
  have HA := Lib.hid hA; clear hA
  have HE := Lib.hid he
  have HT : Hid (tkV s n = s.l.take n ∧ tk s n = ⟨s.l.drop n, 0⟩) := by show _ ∧ _; unfold tkV tk; rw [if_pos he, if_pos he, if_pos (by omega), if_pos (by omega)]; exact ⟨rfl, rfl⟩
  have HR : Hid (Rdr (w.setCell ⟨r, 0, none⟩ (.slice A' (s.l.length - n) (c - n))) r ⟨s.l.drop n, 0⟩) := by
    have hd : Rd w r A' (s.l.drop n) := by
      rw [HA.out]
      exact hf.rd.drop hf.cap _ fun b o => by unfold Addr.add; split <;> simp_all
    have := rdr_left (c' := c - n) hf hd (by rw [List.length_drop]; omega) (by have := hf.max; omega) (fun e => by
      rw [HA.out] at e
      split at e
      · have := hf.nil e; omega
      · rw [Option.map_eq_none_iff] at e; have := hf.nil e; omega)
    rw [List.length_drop, he] at this
    exact this
  have HD := Lib.hid hf.rd
  clear he h hf
  generalize hm : s.l.length = m at *
  have HM := Lib.hid hm; clear hm
  go_enter Try.func38, Try.ntmps38
  go_wp2_with fail
  refine (err_any w r s H.out).mono ?_
  rintro e w1 ⟨rfl, rfl⟩
  rw [HE.out]
  go_wp2_with fail
  go_ret
  unfold TakePost
  rw [HT.out.1, HT.out.2]
  have hlen : (s.l.take n).length = n := by rw [List.length_take, HM.out]; omega
  rw [hlen]
  exact ⟨A, c, rfl, ((rd_set (HD.out.take n) _).more (by have := H.out.lt; simp [World.setCell]; omega)), HR.out, grown_set _ _ _ _⟩
theorem take_any (w : World) (r n : Nat) (s : St) (h : Rdr w r s) :
    Calls Try.prog 38 #[.pointer (some ⟨r, 0, none⟩), .int .i64 n] w (TakePost w r s n) := by
  by_cases he : s.e = 0
  · by_cases hn : n ≤ s.l.length
    · exact take_ok w r n s h he hn
    · exact take_over w r n s h he (by omega)
  · exact take_err w r n s h he

def NumPost (w : World) (r : Nat) (n : Nat) (s' : St) (e : Ending) (w' : World) : Prop :=
  e = .returned (.int .i64 (n : Nat)) ∧ Rdr w' r s' ∧ w.grownBy w' (some r)
set_option maxRecDepth 100000 in
theorem numb_any (w : World) (r : Nat) (s : St) (h : Rdr w r s) (hl : s.l.length ≤ 1000000) :
    Calls Try.prog 15 #[.pointer (some ⟨r, 0, none⟩)] w (NumPost w r (numV s) (num s)) := by
  have H := Lib.hid h; clear h
  by_cases he : s.e = 0
  · have HE := Lib.hid he
    have hd := digits_any w r s H.out hl
    by_cases hk : dk s.l = 0
    · have HT : Hid (numV s = 0 ∧ num s = lost) := by show _ ∧ _; unfold numV num; rw [if_pos he, if_pos he, if_pos hk, dn_none hk]; exact ⟨rfl, rfl⟩
      unfold DPost at hd
      rw [hk, dn_none hk] at hd
      have HD := Lib.hid hd
      clear he hd hk hl
      go_enter Try.func15, Try.ntmps15
      go_wp2_with fail
      refine (err_any w r s H.out).mono ?_
      rintro e w1 ⟨rfl, rfl⟩
      rw [HE.out]
      go_wp2_with fail
      refine HD.out.mono ?_
      rintro e w1 ⟨rfl, rfl⟩
      go_wp2_with fail
      refine (fail_any w r s H.out).mono ?_
      rintro e w1 ⟨rfl, hr, hg⟩
      have R := Lib.hid hr; clear hr
      have G := Lib.hid hg; clear hg
      go_wp2_with fail
      go_ret
      rw [HT.out.1, HT.out.2]
      exact ⟨rfl, R.out, G.out⟩
    · have hne : ((dk s.l : Int) == 0) = false := by rw [beq_eq_false_iff_ne]; omega
      have HT : Hid (numV s = dn s.l ∧ num s = ⟨s.l.drop (dk s.l), 0⟩) := by show _ ∧ _; unfold numV num; rw [if_pos he, if_pos he, if_neg hk]; exact ⟨rfl, rfl⟩
      have HK := Lib.hid (take_any w r (dk s.l) s H.out)
      have HQ : Hid (tk s (dk s.l) = ⟨s.l.drop (dk s.l), 0⟩) := by show _ = _; unfold tk; rw [if_pos he, if_pos (dk_le _)]
      unfold DPost at hd
      have HD := Lib.hid hd
      clear he hd hk hl
      generalize dk s.l = k at *
      generalize dn s.l = n at *
      go_enter Try.func15, Try.ntmps15
      go_wp2_with fail
      refine (err_any w r s H.out).mono ?_
      rintro e w1 ⟨rfl, rfl⟩
      rw [HE.out]
      go_wp2_with fail
      refine HD.out.mono ?_
      rintro e w1 ⟨rfl, rfl⟩
      go_wp2_with fail
      refine HK.out.mono ?_
      rintro e w1 ⟨A, c, rfl, _, hr, hg⟩
      have R := Lib.hid hr; clear hr
      have G := Lib.hid hg; clear hg
      go_wp2_with fail
      go_ret
      rw [HT.out.1, HT.out.2, ← HQ.out]
      exact ⟨rfl, R.out, G.out⟩
  · have hne : (s.e != 0) = true := by rw [bne_iff_ne]; exact he
    have HT : Hid (numV s = 0 ∧ num s = s) := ⟨numV_err he, num_err he⟩
    clear he
    go_enter Try.func15, Try.ntmps15
    go_wp2_with fail
    refine (err_any w r s H.out).mono ?_
    rintro e w1 ⟨rfl, rfl⟩
    go_wp2_with fail
    go_ret
    rw [HT.out.1, HT.out.2]
    exact ⟨rfl, H.out, World.grownBy.refl _ _⟩

theorem count_any (w : World) (r : Nat) (s : St) (h : Rdr w r s) (hl : s.l.length ≤ 1000000) :
    Calls Try.prog 39 #[.pointer (some ⟨r, 0, none⟩), .int .i64 64] w (NumPost w r (cntV s) (cnt s)) := by
  have HN := Lib.hid (numb_any w r s h hl)
  clear h hl
  by_cases hk : numV s ≤ 64
  · have HT : Hid (cntV s = numV s ∧ cnt s = num s) := by show _ ∧ _; unfold cntV cnt; rw [if_pos hk, if_pos hk]; exact ⟨rfl, rfl⟩
    generalize numV s = n at *
    go_enter Try.func39, Try.ntmps39
    go_wp2_with fail
    refine HN.out.mono ?_
    rintro e w1 ⟨rfl, hr, hg⟩
    have R := Lib.hid hr; clear hr
    have G := Lib.hid hg; clear hg
    go_wp2_with fail
    go_ret
    rw [HT.out.1, HT.out.2]
    exact ⟨rfl, R.out, G.out⟩
  · have HT : Hid (cntV s = 0 ∧ cnt s = lost) := by show _ ∧ _; unfold cntV cnt; rw [if_neg hk, if_neg hk]; exact ⟨rfl, rfl⟩
    have hk2 : 64 < numV s := by omega
    clear hk
    generalize numV s = n at *
    go_enter Try.func39, Try.ntmps39
    go_wp2_with fail
    refine HN.out.mono ?_
    rintro e w1 ⟨rfl, hr, hg⟩
    have R := Lib.hid hr; clear hr
    have G := Lib.hid hg; clear hg
    go_wp2_with fail
    refine (fail_any w1 r _ R.out).mono ?_
    rintro e w2 ⟨rfl, hr, hg⟩
    have R2 := Lib.hid hr; clear hr
    have G2 := Lib.hid hg; clear hg
    go_wp2_with fail
    go_ret
    rw [HT.out.1, HT.out.2]
    exact ⟨rfl, R2.out, grown_trans G.out G2.out⟩

def TextPost (w : World) (r : Nat) (s : St) (e : Ending) (w' : World) : Prop :=
  e = .returned (.string (txt (textV s))) ∧ Rdr w' r (text s) ∧ w.grownBy w' (some r)
theorem rtext_any (w : World) (r : Nat) (s : St) (h : Rdr w r s) (hl : s.l.length ≤ 1000000) :
    Calls Try.prog 16 #[.pointer (some ⟨r, 0, none⟩)] w (TextPost w r s) := by
  have HN := Lib.hid (count_any w r s h hl)
  have HT : Hid (textV s = tkV (cnt s) (cntV s) ∧ text s = tk (cnt s) (cntV s)) := ⟨rfl, rfl⟩
  clear h hl
  generalize cntV s = n at *
  go_enter Try.func16, Try.ntmps16
  go_wp2_with fail
  refine HN.out.mono ?_
  rintro e w1 ⟨rfl, hr, hg⟩
  have R := Lib.hid hr; clear hr
  have G := Lib.hid hg; clear hg
  go_wp2_with fail
  refine (take_any w1 r n _ R.out).mono ?_
  rintro e w2 ⟨A, c, rfl, hd, hr, hg⟩
  have hcv := conv_rd (c := c) hd rfl
  have R2 := Lib.hid hr; clear hr hd
  have G2 := Lib.hid hg; clear hg
  generalize tkV (cnt s) n = tv at *
  go_wp2_with fail
  go_ret
  unfold TextPost
  rw [HT.out.1, HT.out.2]
  exact ⟨rfl, R2.out, grown_trans G.out G2.out⟩
end Go.Proofs.Ytifokcpkamdkeaa
