/-
  The document's Good, with what holds of the blocks in which its payloads lie.
-/
import Derived.Test.YtdamnamhbjfnlaaFrMake
import Derived.Test.YtdamnamhbjfnlaaRowsP
namespace Go.Proofs.Ytdamnamhbjfnlaa
open Go.RowKit Fr

/-- What it answers: n of the rows, or the most. -/
def FMPostP (G : Nat → Prop) (n most : Nat) (w : World) (e : Ending) (w' : World) : Prop :=
  ∃ A c own, e = .returned (.slice A own.length c) ∧ OwnP G w' w.heap.size (.slice A own.length c) own ∧ (∀ p ∈ own, ok p ∧ p.length ≤ 30) ∧ own.length = min n most ∧ Below w.heap.size w w'
def FMRelP (G : Nat → Prop) (w : World) (n most : Nat) (v i : Value) (wr : World) : Prop :=
  ∃ (k : Nat) (ps : List (List Nat)), i = .int .i64 k ∧ k ≤ n ∧ k ≤ most ∧ ps.length = k ∧ (∀ p ∈ ps, ok p ∧ p.length ≤ 30) ∧ OwnP G wr w.heap.size v ps ∧ Below w.heap.size w wr
set_option maxHeartbeats 1600000 in
theorem frMakeP_any (G : Nat → Prop) (n c most : Nat) (A : Option Addr) (ls : List (List Nat)) (w : World) (h : SlS w A n c ls) (hmost : most ≤ 100) (hG : ∀ i, w.heap.size ≤ i → G i)
    (hA : ∀ b o, A = some ⟨b, o, none⟩ → ∀ j, j < ls.length → ∀ a n' c', w.cell? ⟨b, o + j, none⟩ = some (.slice (some a) n' c') → 0 < n' → G a.block) :
    Calls Try.prog 37 #[.slice A n c, .int .i64 most] w (FMPostP G n most w) := by
  have hmax := Nat.le_trans h.cap h.max
  unfold maxLen at hmax
  have H := Lib.hid h; clear h
  have HGG := Lib.hid hG; clear hG
  have HAA := Lib.hid hA; clear hA
  go_enter Try.func37, Try.ntmps37
  go_wp2_with fail
  go_loopw [5, 6] (fun v i wr => FMRelP G w n most v i wr) (fun _ i _ => most - (intOf i).toNat)
  case atStart => exact ⟨0, [], rfl, by omega, by omega, rfl, by simp, OwnP.none_ _ _, Below.refl _ _⟩
  case round =>
    obtain ⟨k, ps, rfl, hk, hkm, hpk, hok, ho, hb⟩ := hrel
    have O := Lib.hid ho; clear ho
    have B := Lib.hid hb; clear hb
    have OK := Lib.hid hok; clear hok
    have PK := Lib.hid hpk; clear hpk
    by_cases hin : k < n ∧ k < most
    · obtain ⟨h1, h2⟩ := hin
      have hkl : k < ls.length := by rw [← H.out.len]; exact h1
      obtain ⟨b, o, hA, hbw, hc⟩ := H.out.rd (by omega)
      obtain ⟨A', n', c', hck0, hs'⟩ := hc k hkl
      have GA : Hid (0 < n' → ∀ a, A' = some a → G a.block) := fun h0 a ha => HAA.out b o hA k hkl a n' c' (by rw [← ha]; exact hck0) h0
      have hck : wr.cell? ⟨b, o + k, none⟩ = some (.slice A' n' c') := (B.out.cell (p := ⟨b, o + k, none⟩) hbw).trans hck0
      subst hA
      clear hc
      have hcap := hs'.cap
      have hm' := hs'.max
      unfold maxLen at hm'
      have S' := Lib.hid hs'; clear hs' hck0
      generalize ls.getD k [] = l at *
      have i1 : (0 : Int) ≤ (k : Int) := by omega
      have i2 : (k : Int) < (n : Int) := by omega
      have m1 : (0 : Int) ≤ min (n' : Int) 30 := by omega
      have m2 : min (n' : Int) 30 ≤ (c' : Int) := by omega
      go_wp2_with fail
      go_quiet (fail)
      have B1 := Lib.hid (below_drewN B.out nq)
      have O1 := Lib.hid (O.out.below (below_drewN (Below.refl wr.heap.size wr) nq))
      have S1 := Lib.hid ((S'.out.on B1.out).take (k := min n' 30) (by omega))
      rw [show (min (n' : Int) 30).toNat = min n' 30 from by omega]
      have BK : Hid (Sl w A' (min n' 30) c' (l.take (min n' 30))) := S'.out.take (by omega)
      have hq30 : min n' 30 ≤ 30 := by omega
      have GB : Hid (0 < min n' 30 → ∀ a, A' = some a → G a.block) := fun h0 => GA.out (by omega)
      clear m1 m2 hck S' O B GA
      generalize l.take (min n' 30) = p at *
      generalize min n' 30 = q at *
      generalize wr.drewN nq = w1 at *
      have hpl : ps.length ≤ 3000000000 := by rw [PK.out]; omega
      by_cases hq : q = 0
      · subst hq
        have hk256 : k < 256 := by omega
        have T := Lib.hid (sl_one w1 k hk256 (k : Int) rfl)
        have BX := Lib.hid ((Below.refl w1.heap.size w1).alloc (Nat.le_refl _) (.cells #[.int .u8 (k : Int)] 5))
        have HZ : Hid ((w1.alloc (.cells #[.int .u8 (k : Int)] 5)).heap.size = w1.heap.size + 1) := by show _ = _; simp
        have O2 := Lib.hid (O1.out.below BX.out)
        have HF : Hid (0 < ([k] : List Nat).length → ∀ a, (some ⟨w1.heap.size, 0, none⟩ : Option Addr) = some a → u5.ownBlock ≠ some a.block) := fun _ a ha e2 => by
          injection ha with ha
          subst ha
          have := (O1.out.rows.base _ e2).2
          simp at this
        have HB2 : Hid (w.heap.size ≤ (w1.alloc (.cells #[.int .u8 (k : Int)] 5)).heap.size) := by show _ ≤ _; rw [HZ.out]; have := B1.out.size; omega
        have GK : Hid (∀ a, (some ⟨w1.heap.size, 0, none⟩ : Option Addr) = some a → G a.block) := fun a ha => by
          injection ha with ha
          subst ha
          exact HGG.out _ B1.out.size
        have OK2 := Lib.hid (ok_snoc (p := [k]) OK.out (by simp) (by simp) (by intro x hx; simp at hx; omega))
        go_wp2_with (at_builtin; refine wpList_append_rowP rfl (.tmp 36) (.tmp 38) rfl w.heap.size u5 ps rfl O2.out _ 1 1 [k] T.out GK.out (show Value.slice (some ⟨w1.heap.size + 1, 0, none⟩) 1 1 = _ from by rw [HZ.out]) HF.out hpl HB2.out ?_; intro v3 w3 ho3 hg3; have O3 := Lib.hid ho3; have B3 := Lib.hid ((Below.refl w.heap.size _).grown hg3 HB2.out (fun i e => (O2.out.rows.base i e).1)); clear ho3 hg3)
        have B4 := Lib.hid (B1.out.trans ((BX.out.mono B1.out.size).trans B3.out))
        go_roundw
        case rel => exact ⟨k + 1, ps ++ [[k]], by go_num, by omega, by omega, by rw [List.length_append, PK.out]; simp, OK2.out, O3.out, B4.out⟩
        case measure => simp [intOf]; omega
      · have hqn : ((q : Int) == 0) = false := by rw [beq_eq_false_iff_ne]; omega
        have HF : Hid (0 < p.length → ∀ a, A' = some a → u5.ownBlock ≠ some a.block) := fun hl a ha e2 => by
          have h3 := (O1.out.rows.base _ e2).1
          have h4 := BK.out.block hl a ha
          omega
        have OK2 := Lib.hid (ok_snoc (p := p) OK.out (by rw [← S1.out.len]; omega) (by rw [← S1.out.len]; omega) S1.out.rd.1)
        have hq0 : 0 < q := by omega
        clear hq
        go_wp2_with (at_builtin; refine wpList_append_rowP rfl (.tmp 36) (.tmp 38) rfl w.heap.size u5 ps rfl O1.out A' q c' p S1.out (GB.out hq0) rfl HF.out hpl B1.out.size ?_; intro v3 w3 ho3 hg3; have O3 := Lib.hid ho3; have B3 := Lib.hid ((Below.refl w.heap.size _).grown hg3 B1.out.size (fun i e => (O1.out.rows.base i e).1)); clear ho3 hg3)
        have B4 := Lib.hid (B1.out.trans B3.out)
        go_roundw
        case rel => exact ⟨k + 1, ps ++ [p], by go_num, by omega, by omega, by rw [List.length_append, PK.out]; simp, OK2.out, O3.out, B4.out⟩
        case measure => simp [intOf]; omega
    · have hcase : (k < n ∧ ¬ k < most) ∨ ¬ k < n := by omega
      obtain ⟨Ao, co, rfl, hso⟩ := O.out.rows.sls
      clear hin
      have hfin : FMPostP G n most w (.returned (.slice Ao ps.length co)) wr := ⟨Ao, co, ps, rfl, O.out, OK.out, by rw [PK.out]; omega, B.out⟩
      have F := Lib.hid hfin; clear hfin hso
      obtain ⟨z, hz⟩ : ∃ z, z = ps.length := ⟨_, rfl⟩
      rw [← hz] at F ⊢
      clear hz
      rcases hcase with ⟨hk1, hk2⟩ | hk1
      all_goals
        go_wp2_with fail
        go_ret
        exact F.out
end Go.Proofs.Ytdamnamhbjfnlaa
