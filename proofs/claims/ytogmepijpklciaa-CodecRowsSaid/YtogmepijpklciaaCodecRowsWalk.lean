/-
  The walk of the statement CodecRows.
-/
import Derived.Test.YtogmepijpklciaaCdcSame
import Derived.Test.YtogmepijpklciaaRegion
namespace Go.Proofs.Ytogmepijpklciaa
open Go.RowKit Cdc

theorem same_of {P : Program} {f : FuncId} {args : Array Value} {w : World} {v : Value} (h : Calls P f args w fun e w' => e = .returned v ∧ w = w') : Calls P f args w fun e w' => e = .returned v ∧ w' = w :=
  h.mono fun _ _ ⟨he, hw⟩ => ⟨he, hw.symm⟩
theorem Sl.aside {w w' : World} {A : Option Addr} {n c : Nat} {row : Option Nat} {l : List Nat} (h : Sl w A n c l) (hg : w.grownBy w' row) (hr : ∀ a, A = some a → some a.block ≠ row) : Sl w' A n c l :=
  ⟨⟨h.rd.1, fun hl => by
    obtain ⟨b, o, e, hb, hc⟩ := h.rd.2 hl
    exact ⟨b, o, e, Nat.lt_of_lt_of_le hb hg.size, fun j hj => hg.cell (hc j hj) (fun e2 => hr _ e e2)⟩⟩, h.len, h.cap, h.max, h.nil⟩
theorem allOk_snoc {os : List Int} {x : Int} (h : allOk os = true) (hx : sz x ≠ 0) : allOk (os ++ [x]) = true := by
  unfold allOk at *
  rw [List.all_append, h]; simp [hx]
theorem below_r {w a b : World} {r : Nat} (h : Below w.heap.size w a) (g : a.grownBy b (some r)) (hr : w.heap.size ≤ r) : Below w.heap.size w b :=
  h.grown g h.size (fun k hk => by injection hk with hk; omega)
theorem fl_append (a b : List Int) : fl (a ++ b) = fl a ++ fl b := by unfold fl; rw [List.flatMap_append]
theorem fl_one (m : Nat) : fl [(m : Int)] = digs m := by simp [fl]
theorem fl_drop {os : List Int} {k m : Nat} (hk : k < os.length) (hm : os.getD k 0 = (m : Int)) : fl (os.drop k) = digs m ++ fl (os.drop (k + 1)) := by
  rw [List.drop_eq_getElem_cons hk, ← getD_at (d := 0) hk, hm]
  show fl ([(m : Int)] ++ os.drop (k + 1)) = _
  rw [fl_append, fl_one]

def RowsRel (w : World) (n : Nat) (v u i : Value) (wr : World) : Prop :=
  ∃ (k : Nat) (os : List Int) (A : Option Addr) (c : Nat), i = .int .i64 k ∧ k ≤ 60 ∧ k ≤ n ∧ os.length ≤ k ∧ allOk os = true ∧ OwnI wr w.heap.size v os ∧ u = .slice A (fl os).length c ∧ Sl wr A (fl os).length c (fl os) ∧ Below w.heap.size w wr

set_option maxRecDepth 100000 in
set_option maxHeartbeats 3200000 in
theorem rows_walk (n c : Nat) (A : Option Addr) (ns : List Int) (w : World) (hs : SlI w A n c ns) :
    Calls Try.prog 9 #[.slice A n c] w fun e w' => e = .returned (.bool true) ∧ Below w.heap.size w w' := by
  have S := Lib.hid hs
  have hmx := Nat.le_trans hs.cap hs.max
  unfold maxLen at hmx
  clear hs
  go_enter Try.func9, Try.ntmps9
  go_wp2_with fail
  refine (lives_at _ (Below.refl _ _)).mono ?_
  rintro e w1 ⟨rfl, hb1⟩
  have B1 := Lib.hid hb1; clear hb1
  go_wp2_with fail
  go_loopw [3, 4, 5] (fun v u i wr => RowsRel w n v u i wr) (fun _ _ i _ => 60 - (intOf i).toNat)
  case atStart => exact ⟨0, [], none, 0, rfl, by omega, by omega, by simp, rfl, World.ownsRow_nil _ _ _ _, rfl, Sl.none_ _, B1.out⟩
  case round =>
    obtain ⟨k, os, A1, c1, rfl, hk, hkn, hlen, hall, ho, rfl, hs, hb⟩ := hrel
    clear B1
    have O := Lib.hid ho; clear ho
    have T := Lib.hid hs; clear hs
    have B := Lib.hid hb; clear hb
    have AL := Lib.hid hall; clear hall
    have HF := Lib.hid (fl_len AL.out os.length (Nat.le_refl _))
    rw [List.take_length] at HF
    have hf9 : (fl os).length ≤ 540 := by have := HF.out; omega
    obtain ⟨f, hf⟩ : ∃ f, f = fl os := ⟨_, rfl⟩
    have FF := Lib.hid hf; clear hf
    rw [← FF.out] at T hf9 ⊢
    by_cases hin : k < n ∧ k < 60
    · obtain ⟨hk1, hk2⟩ := hin
      have hkl : k < ns.length := by rw [← S.out.len]; exact hk1
      obtain ⟨b, o, rfl, _, hc⟩ := (S.out.on B.out).rd (by omega)
      have hck := hc k hkl
      clear hc
      generalize ns.getD k 0 = x at *
      by_cases hz : sz x = 0
      · have C := Lib.hid (number_no f.length c1 x A1 f wr T.out (by omega) hz)
        clear hz
        go_wp2_with fail
        (with_reducible refine C.out.mono ?_)
        rintro e w2 ⟨A2, c2, rfl, _, hb2, _⟩
        have B2 := Lib.hid (B.out.trans (hb2.mono B.out.size))
        have T2 := Lib.hid (T.out.on hb2)
        have O2 := Lib.hid (OwnI.below O.out hb2); clear hb2
        go_wp2_with fail
        go_roundw
        case rel => exact ⟨k + 1, os, A1, c1, by go_num, by omega, by omega, by omega, AL.out, O2.out, by rw [FF.out], by rw [← FF.out]; exact T2.out, B2.out⟩
        case measure => simp [intOf]; omega
      · have AL2 := Lib.hid (allOk_snoc AL.out hz)
        obtain ⟨m, rfl, hm⟩ := sz_pos hz
        obtain ⟨q, hq⟩ : ∃ q, q = fl (os ++ [(m : Int)]) := ⟨_, rfl⟩
        have Q := Lib.hid hq; clear hq
        have C := Lib.hid (number_yes f.length c1 m A1 f wr T.out (by omega) hm)
        rw [show f ++ digs m = q from by rw [Q.out, FF.out, fl_append, fl_one]] at C
        have HC : Hid (wr.cell? ⟨b, o + k, none⟩ = some (.int .i64 (m : Int))) := hck
        have HBW : Hid (b < wr.heap.size) := block_lt_of_cell hck
        clear hz hm
        go_wp2_with fail
        (with_reducible refine C.out.mono ?_)
        rintro e w2 ⟨A2, c2, rfl, hs2, hb2, hfar⟩
        have hck2 : w2.cell? ⟨b, o + k, none⟩ = some (.int .i64 (m : Int)) := (hb2.cell (p := ⟨b, o + k, none⟩) HBW.out).trans HC.out
        have B2 := Lib.hid (B.out.trans (hb2.mono B.out.size))
        have O2 := Lib.hid (OwnI.below O.out hb2); clear hb2
        have T2 := Lib.hid hs2; clear hs2
        have F2 := Lib.hid hfar; clear hfar
        have hle : os.length ≤ 60 := by omega
        go_wp2_with (at_builtin; refine wpList_append_num rfl (.tmp 35) (.tmp 40) rfl w.heap.size _ os rfl O2.out _ rfl (by omega) B2.out.size ?_; intro v3 w3 ho3 hg3; have O3 := Lib.hid ho3; have G3 := Lib.hid hg3; clear ho3 hg3)
        have T3 := Lib.hid (T2.out.aside G3.out (fun a ha e2 => by have h1 := F2.out a ha; have h2 := (World.ownsRow.lt O.out a.block e2.symm).2; omega))
        have B3 := Lib.hid (B2.out.grown G3.out B2.out.size (own_base O2.out))
        go_roundw
        case rel => exact ⟨k + 1, os ++ [(m : Int)], A2, c2, by go_num, by omega, by omega, by rw [List.length_append]; simp; omega, AL2.out, O3.out, by rw [Q.out], by rw [← Q.out]; exact T3.out, B3.out⟩
        case measure => simp [intOf]; omega
    · have hcase : (k < n ∧ ¬ k < 60) ∨ ¬ k < n := by omega
      obtain ⟨wo, rfl⟩ : ∃ wo : World, wo = wr := ⟨_, rfl⟩
      obtain ⟨Ao, co, rfl, hso⟩ := OwnI.sl O.out
      have SO := Lib.hid hso; clear hso
      obtain ⟨q, hq⟩ : ∃ q, q = digs os.length ++ fl os := ⟨_, rfl⟩
      have Q := Lib.hid hq; clear hq
      have C := Lib.hid (list_yes 0 0 os.length co none Ao [] os wo (Sl.none_ _) (by omega) SO.out (by omega) AL.out)
      rw [List.nil_append, ← Q.out] at C
      have Z := Lib.hid (fun W => size_yes os.length W (by omega))
      have HZ : Hid (q.length = (digs os.length).length + f.length ∧ q.drop (digs os.length).length = f) := by
        show _ ∧ _
        rw [Q.out, FF.out]
        exact ⟨List.length_append, List.drop_left⟩
      have hz9 := digs_nine (n := os.length) (by omega)
      have hq9 : q.length ≤ 600 := by rw [HZ.out.1]; omega
      generalize (digs os.length).length = z at *
      clear hin O
      rcases hcase with ⟨hk1, hk2⟩ | hk1
      all_goals
        go_wp2_with fail
        (with_reducible refine C.out.mono ?_)
        rintro e w2 ⟨A2, c2, rfl, hs2, hb2, _⟩
        have T2 := Lib.hid hs2; clear hs2
        have SO2 := Lib.hid (SO.out.on hb2)
        have TB2 := Lib.hid (T.out.on hb2)
        have B2 := Lib.hid (B.out.trans (hb2.mono B.out.size)); clear hb2
        go_wp2_with fail
        (with_reducible refine (reader_any f.length c1 A1 f w2 TB2.out (by omega)).mono ?_)
        rintro e w3 ⟨r, rfl, hr3, hge, hb3⟩
        have R3 := Lib.hid hr3; clear hr3
        have HG := Lib.hid hge; clear hge
        have B3 := Lib.hid hb3; clear hb3
        go_wp2_with fail
        go_loopw [11] (fun i wr => ∃ k2 : Nat, k2 ≤ os.length ∧ i = .int .i64 k2 ∧ Rdr wr r ⟨fl (os.drop k2), 0⟩ ∧ w3.grownBy wr (some r)) (fun i _ => os.length - (intOf i).toNat)
        case atStart => exact ⟨0, by omega, rfl, by rw [List.drop_zero, ← FF.out]; exact R3.out, World.grownBy.refl _ _⟩
        case round =>
          obtain ⟨k2, hk3, rfl, hr, hg⟩ := hrel
          have RR := Lib.hid hr; clear hr
          have GG := Lib.hid hg; clear hg R3
          by_cases hlt : k2 < os.length
          · obtain ⟨m, hm, hml⟩ := allOk_at AL.out hlt
            obtain ⟨b, o, rfl, hbl, hc⟩ := SO2.out.rd (by omega)
            have HBR : Hid (b ≠ r) := by show b ≠ r; have := HG.out; omega
            have hcell : wr.drew.cell? ⟨b, o + k2, none⟩ = some (.int .i64 (m : Int)) := by
              have h1 := hc k2 hlt
              rw [hm] at h1
              have h2 : w3.cell? ⟨b, o + k2, none⟩ = some (.int .i64 (m : Int)) := (B3.out.cell (p := ⟨b, o + k2, none⟩) hbl).trans h1
              exact GG.out.cell h2 (fun e2 => by injection e2 with e2; exact HBR.out e2)
            have NB : Hid (∀ W, Rdr W r ⟨fl (os.drop k2), 0⟩ → Calls Try.prog 25 #[.pointer (some ⟨r, 0, none⟩)] W (NumPost W r m ⟨fl (os.drop (k2 + 1)), 0⟩)) := fun W h => by
              have hd := fl_drop hlt hm
              have hn := num_digs hml (fl (os.drop (k2 + 1)))
              rw [hd] at h
              have hL : (digs m ++ fl (os.drop (k2 + 1))).length ≤ 1000000 := by
                rw [← hd]
                have h3 : (fl os).length = (fl (os.take k2)).length + (fl (os.drop k2)).length := by rw [← List.length_append, ← fl_append, List.take_append_drop]
                rw [← FF.out] at h3
                omega
              have := numb_any W r _ h hL
              rwa [hn.1, hn.2] at this
            have i1 : (0 : Int) ≤ (k2 : Int) := by omega
            have i2 : (k2 : Int) < (os.length : Int) := by omega
            clear hc hm hml
            go_wp2_with fail
            refine wp_region_held_drew (S := fun W => W.cell? ⟨b, o + k2, none⟩ = some (.int .i64 (m : Int))) (by kernel_rfl) hcell (fun hS => ?_)
            refine tkYes 0 (v := ?_) rfl (by kernel_rfl) (fun _ _ _ h => h) rfl ?_ hS ?_
            rotate_left
            · intro W hW; go_simp; (try with_reducible rfl)
            simp only [Act.put, List.setIfInBounds_toArray, List.set_cons_zero, List.set_cons_succ]
            refine tkYes 2 (v := ?_) rfl (by kernel_rfl) (fun _ _ _ h => h) rfl ?_ hS ?_
            rotate_left
            · intro W hW; go_simp; (try with_reducible rfl)
            simp only [Act.put, List.setIfInBounds_toArray, List.set_cons_zero, List.set_cons_succ]
            refine tkYes 3 (v := ?_) rfl (by kernel_rfl) (fun _ _ _ h => h) rfl ?_ hS ?_
            rotate_left
            · intro W hW; go_simp; (try with_reducible rfl)
            simp only [Act.put, List.setIfInBounds_toArray, List.set_cons_zero, List.set_cons_succ]
            refine tkYes 4 (v := ?_) rfl (by kernel_rfl) (fun _ _ _ h => h) rfl ?_ hS ?_
            rotate_left
            · intro W hW; go_simp; (try with_reducible rfl)
            simp only [Act.put, List.setIfInBounds_toArray, List.set_cons_zero, List.set_cons_succ]
            refine tkYes 5 (v := ?_) rfl (by kernel_rfl) (fun _ _ _ h => h) rfl ?_ hS ?_
            rotate_left
            · intro W hW; have hW2 : W.cell? ⟨b, o + k2, none⟩ = some (.int .i64 (m : Int)) := hW; go_simp; (try with_reducible rfl)
            simp only [Act.put, List.setIfInBounds_toArray, List.set_cons_zero, List.set_cons_succ]
            refine rnOne 1 rfl (by kernel_rfl) rfl (fun K hK => ?_)
            go_simp
            (with_reducible refine (NB.out _ (RR.out.below ((Below.refl _ _).drew))).mono ?_)
            rintro e w9 ⟨rfl, hr9, hg9⟩
            have R9 := Lib.hid hr9; clear hr9
            have G9 := Lib.hid (grown_trans GG.out (grown_trans (grown_below _ ((Below.refl _ _).drew)) hg9))
            have hS2 : w9.cell? ⟨b, o + k2, none⟩ = some (.int .i64 (m : Int)) := hg9.cell hS (fun e2 => by injection e2 with e2; exact HBR.out e2)
            clear hS hg9
            have hS := hS2
            refine hK.out _ _ hS (fun _ => ?_)
            clear hK K
            try simp only [Act.put, List.setIfInBounds_toArray, List.set_cons_zero, List.set_cons_succ]
            refine tkYes 6 (v := ?_) rfl (by kernel_rfl) (fun _ _ _ h => h) rfl ?_ hS ?_
            rotate_left
            · intro W hW; go_simp; (try with_reducible rfl)
            simp only [Act.put, List.setIfInBounds_toArray, List.set_cons_zero, List.set_cons_succ]
            refine wpAnyH_done (by kernel_rfl) ?_ _
            go_wp2_with fail
            go_roundw
            case rel => exact ⟨k2 + 1, by omega, by go_num, R9.out, G9.out⟩
            case measure => simp [intOf]; omega
          · obtain rfl : k2 = os.length := by omega
            have R4 : Hid (Rdr wr r ⟨[], 0⟩) := by
              have := RR.out
              rw [List.drop_length] at this
              exact this
            have BX := Lib.hid (below_r B3.out GG.out HG.out)
            have BW := Lib.hid (B2.out.trans (BX.out.mono B2.out.size))
            obtain ⟨A', hA, hsl⟩ : ∃ A', A' = (if c2 = z then A2 else A2.map fun x => x.add z) ∧ ∀ W, (Instr.slice 24 (.slice A2 q.length c2) (some (.int .i64 (z : Int))) none none).run Try.prog W = .ok (.slice A' (q.length - z) (c2 - z)) W := ⟨_, rfl, cut_run A2 q.length c2 z (by have := HZ.out.1; omega)⟩
            have RD : Hid (Rd w2 w2.heap.size A' f) := by
              show Rd _ _ _ _
              have := T2.out.rd.drop (k := z) T2.out.cap (fun x => x.add z) (fun b o => by unfold Addr.add; split <;> simp_all)
              rw [← hA, HZ.out.2] at this
              exact this
            have hc1 : ∀ d, (convert 24 9 (.slice A' (q.length - z) (c2 - z))).run Try.prog (wr.drewN d) = .ok (.string (txt f)) (wr.drewN d) := fun d => conv_rd (RD.out.below (below_drewN BX.out d)) (by have := HZ.out.1; omega)
            have hc2 : ∀ d, (convert 24 9 (.slice A1 f.length c1)).run Try.prog (wr.drewN d) = .ok (.string (txt f)) (wr.drewN d) := fun d => conv_rd (TB2.out.on (below_drewN BX.out d)).rd rfl
            have E0 : Hid (∀ d, Calls Try.prog 23 #[.pointer (some ⟨r, 0, none⟩)] (wr.drewN d) fun e w' => e = .returned (.int .i64 0) ∧ wr.drewN d = w') := fun d => end_any (wr.drewN d) r ⟨[], 0⟩ (R4.out.below (below_drewN (Below.refl _ _) d))
            have hwr : IntKind.i64.wrap ((f.length : Int) + (z : Int)) = (q.length : Int) := by
              have := HZ.out.1
              rw [IntWalk.i64_in _ (by omega)]; omega
            have TS := txt_same f
            have j1 : (0 : Int) ≤ (z : Int) := by omega
            have j2 : (z : Int) ≤ (q.length : Int) := by have := HZ.out.1; omega
            clear hA hk3 hlt
            go_wp2_with fail
            go_quiet (first
              | (go_at_call 23; exact Calls.quiet_of_same (same_of (E0.out _)))
              | (go_at_call 17; exact Calls.quiet_of_same (same_of (Z.out _))))
            go_wp2_with fail
            go_ret
            exact ⟨rfl, below_drewN BW.out _⟩
end Go.Proofs.Ytogmepijpklciaa
