/-
  The walk of NetRow. No condition.
-/
import Derived.Test.YtmhhjipdbfepiaaNtLives
import Derived.Test.YtmhhjipdbfepiaaNtArg
import Derived.Test.YtmhhjipdbfepiaaNtR2
namespace Go.Proofs.Ytmhhjipdbfepiaa
open Go.RowKit Go.Deep
set_option maxRecDepth 100000
set_option linter.unusedSimpArgs false
set_option linter.unusedVariables false

/-- What the law asks of the two loops. -/
theorem row_send (l : List Nt.M) (j : Nat) (x : Nt.M) (hj : j < 64) (hx : l[j]? = some x) :
    Nt.sendE ⟨64, (l.take j).map Nt.good, j, 0⟩ (Nt.good x) = 0 ∧ Nt.sendS ⟨64, (l.take j).map Nt.good, j, 0⟩ (Nt.good x) = ⟨64, (l.take (j + 1)).map Nt.good, (j : Int) + 1, 0⟩ := by
  have hl := (List.getElem?_eq_some_iff.1 hx).1
  have h1 : ((l.take j).map Nt.good).length = j := by rw [List.length_map, List.length_take]; omega
  unfold Nt.sendE Nt.sendS Nt.putE
  simp only [Nt.good_right, if_true, h1, if_pos hj, true_and]
  rw [List.take_add_one, hx, List.map_append]
  rfl
theorem row_take (l : List Nt.M) (j : Nat) (x : Nt.M) (se lo : Int) (hx : l[j]? = some x) :
    Nt.takeB ⟨64, (l.drop j).map Nt.good, se, lo⟩ = true ∧ Nt.takeM ⟨64, (l.drop j).map Nt.good, se, lo⟩ 0 = Nt.good x ∧ Nt.takeS ⟨64, (l.drop j).map Nt.good, se, lo⟩ 0 = ⟨64, (l.drop (j + 1)).map Nt.good, se, lo⟩ := by
  have hl := (List.getElem?_eq_some_iff.1 hx).1
  have hd : l.drop j = x :: l.drop (j + 1) := by rw [List.drop_eq_getElem_cons hl, (List.getElem?_eq_some_iff.1 hx).2]
  have hp : ∀ n, Nt.pl (n + 1) 0 = 0 := fun n => by unfold Nt.pl; simp
  rw [hd, List.map_cons]
  unfold Nt.takeB Nt.takeM Nt.takeS Nt.cutL
  simp only [List.length_cons, hp, Nat.zero_lt_succ, if_true, decide_true, true_and, List.getD_cons_zero, List.take_zero, List.nil_append, Nat.zero_add, List.drop_succ_cons, List.drop_zero]
theorem row_full (l : List Nt.M) (x : Nt.M) (h : l.length = 64) :
    Nt.sendE ⟨64, l.map Nt.good, 64, 0⟩ (Nt.good x) = 4 ∧ Nt.sendS ⟨64, l.map Nt.good, 64, 0⟩ (Nt.good x) = ⟨64, l.map Nt.good, 64, 1⟩ := by
  unfold Nt.sendE Nt.sendS Nt.putE
  simp only [Nt.good_right, if_true, List.length_map, h, Nat.lt_irrefl, if_false, true_and]
  rfl
theorem nat_send0 {w0 W : World} {F : Nat → Prop} {r : Nat} {s s' : Nt.St} {m : Nt.M} {e : Int} (h : NAt w0 F r s W) (hm : Nt.In m) (hlo : 0 ≤ s.lost ∧ s.lost ≤ 1000000) (hse : 0 ≤ s.sent ∧ s.sent ≤ 1000000) (h1 : Nt.sendE s m = e) (h2 : Nt.sendS s m = s') : Calls Try.prog 16 #[.pointer (some ⟨r, 0, none⟩), Nt.val m] W (NRes w0 F r s' (.int .i64 e) W) := by
  have h3 := nat_send h m hm hlo hse
  rw [h1, h2] at h3
  exact h3
theorem nat_take0 {w0 W : World} {F : Nat → Prop} {r : Nat} {s s' : Nt.St} {m : Nt.M} {at_ : Int} {b : Bool} (h : NAt w0 F r s W) (ha : Nt.i64 at_) (h1 : Nt.takeB s = b) (h2 : Nt.takeM s at_ = m) (h3 : Nt.takeS s at_ = s') : Calls Try.prog 18 #[.pointer (some ⟨r, 0, none⟩), .int .i64 at_] W (NRes w0 F r s' (.tuple #[Nt.val m, .bool b]) W) := by
  have h4 := nat_take h at_ ha
  rw [h1, h2, h3] at h4
  exact h4
set_option maxHeartbeats 6400000 in
theorem netrow_walk (A : Option Addr) (k c : Nat) (l : List Nt.M) (w : World) (hs : SlM w A k c l) : Calls Try.prog 5 #[.slice A k c] w (NPos w (.bool true)) := by
  have CL := Lib.hid (ntlives_any w)
  obtain ⟨n, hn⟩ : ∃ n, n = min k 64 := ⟨_, rfl⟩
  have hs1 := hs.1.take Nt.mC_len (k := n) (by omega)
  have hkl := hs.1.len
  have hkc := hs.1.cap
  have hcm := hs.1.max
  have hc63 : (c : Int) ≤ 9223372036854775807 := by unfold maxLen at hcm; omega
  obtain ⟨es, hes⟩ : ∃ es, es = l.take n := ⟨_, rfl⟩
  rw [← hes] at hs1
  have S := Lib.hid hs1
  have IN : Hid (∀ x ∈ es, Nt.In x) := fun x hx => hs.2 x (by rw [hes] at hx; exact List.mem_of_mem_take hx)
  have hmn : min (k : Int) 64 = (n : Int) := by omega
  have hn64 : n ≤ 64 := by omega
  have LN : Hid (es.length = n) := by show _ = _; rw [hes, List.length_take]; omega
  have hcut : ∀ W : World, (Instr.slice 26 (.slice A k c) none (some (.int .i64 (n : Int))) none).run Try.prog W = .ok (.slice A n c) W := fun W => by
    cases A with
    | none =>
      have := hs.1.nil rfl
      have hn0 : n = 0 := by omega
      have hk0 : k = 0 := by omega
      have hc0 : c = 0 := this
      subst hn0 hk0 hc0
      rw [run_slice_h _ 26 none 0 0 (by kernel_rfl) IntKind.i64 ((0 : Nat) : Int) (by omega) (by omega), mElem]
      simp [Result.andThen, sliced]
    | some ad =>
      obtain ⟨b, o, f⟩ := ad
      rw [run_slice_h _ 26 (some ⟨b, o, f⟩) k c (by kernel_rfl) IntKind.i64 (n : Int) (by omega) (by omega), mElem]
      cases f <;> simp [Result.andThen, sliced, Addr.add]
  clear hs hs1 hes hn hkl hcm
  go_enter Try.func5, Try.ntmps5
  go_upto_region 3 with (go_at_call 9; (with_reducible refine CL.out.mono ?_); rintro e w1 ⟨rfl, hb⟩; have B1 := Lib.hid hb; clear hb)
  have CN := Lib.hid (nat_new (w0 := w) (W := w1) (F := fun _ => False) 64 B1.out (fun b h => h.elim))
  go_upto_region 4 with (go_at_call 10; (with_reducible refine CN.out.mono ?_); rintro e w2 ⟨r, rfl, hn, _⟩; have N2 : Hid (NAt w (fun _ => False) r ⟨64, [], 0, 0⟩ w2) := hn; clear hn)
  clear CN CL B1
  go_wp2_with fail
  go_loopw [4] (fun i wr => ∃ j : Nat, j ≤ n ∧ i = .int .i64 j ∧ NAt w (fun _ => False) r ⟨64, (es.take j).map Nt.good, j, 0⟩ wr) (fun i _ => n - (intOf i).toNat)
  case atStart => exact ⟨0, by omega, rfl, N2.out⟩
  case round =>
    clear N2
    obtain ⟨j, hj, rfl, hm⟩ := hrel
    have N := Lib.hid hm
    clear hm
    by_cases hlt : j < n
    · have hjl : j < es.length := by have := LN.out; omega
      have EX : Hid (es[j]? = some es[j]) := List.getElem?_eq_getElem hjl
      generalize es[j] = x at EX
      obtain ⟨b, o, rfl, hbl, hrg⟩ := nt_range (S.out.on N.out.below) EX.out
      have RG := Lib.hid hrg
      have i1 : (0 : Int) ≤ (j : Int) := by omega
      have i2 : (j : Int) < (n : Int) := by omega
      have RS := Lib.hid (row_send es j x (by omega) EX.out)
      have hj64 : (j : Int) ≤ 64 := by omega
      clear hrg hbl
      go_wp2_with (first
        | ((with_reducible show wpList _ _ _ ({ dst := some 28, op := .load _ _, type := _, pos := _, after := _, guard := _ } :: _) _ _); refine wpList_load_msg rfl (.tmp 27) rfl b (o + j * 6) rfl x RG.out ?_)
        | (go_at_call 30; (with_reducible refine (rtgood_any x _).mono ?_); rintro e w3 ⟨rfl, hb3⟩; have N3 := Lib.hid (N.out.on hb3); clear hb3)
        | (go_at_call 16; (with_reducible refine (nat_send0 N3.out (Nt.good_in x) ⟨by simp, by simp⟩ ⟨by simp, by simp; omega⟩ RS.out.1 RS.out.2).mono ?_); rintro e w4 ⟨rfl, hn4, _⟩; have N4 := Lib.hid hn4; clear hn4))
      exact ⟨⟨j + 1, by omega, by go_num, N4.out⟩, by simp [intOf]; omega⟩
    · obtain rfl : n = j := by omega
      have ET : Hid (es.take n = es) := List.take_of_length_le (by have := LN.out; omega)
      rw [ET.out] at N
      have RF := Lib.hid (row_full es)
      by_cases h64 : n = 64
      · have q64 : ((n : Int) == 64) = true := by rw [beq_iff_eq]; omega
        have hjl : 0 < es.length := by have := LN.out; omega
        have EX : Hid (es[0]? = some es[0]) := List.getElem?_eq_getElem hjl
        generalize es[0] = x at EX
        obtain ⟨bb, oo, rfl, hbl, hrg⟩ := nt_range (S.out.on N.out.below) EX.out
        have RG : Hid (wr.rangeAt bb oo (Nt.mC x)) := by
          have h0 := hrg
          rw [Nat.zero_mul, Nat.add_zero] at h0
          exact h0
        have RF2 := Lib.hid (RF.out x (LN.out.trans h64))
        have i2 : (0 : Int) < (n : Int) := by omega
        have E64 : Hid ((n : Int) = 64) := by show _ = _; omega
        rw [E64.out] at N
        clear hrg hbl h64 RF
        go_upto_region 12 with (first
          | ((with_reducible show wpList _ _ _ ({ dst := some 39, op := .load _ _, type := _, pos := _, after := _, guard := _ } :: _) _ _); refine wpList_load_msgw rfl (.tmp 38) rfl bb oo rfl x RG.out ?_)
          | (go_at_call 30; (with_reducible refine (rtgood_any x _).mono ?_); rintro e w3 ⟨rfl, hb3⟩; have N3 := Lib.hid (N.out.on hb3); clear hb3)
          | (go_at_call 16; (with_reducible refine (nat_send0 N3.out (Nt.good_in x) ⟨by simp, by simp⟩ ⟨by simp, by simp⟩ RF2.out.1 RF2.out.2).mono ?_); rintro e w4 ⟨rfl, hn4, _⟩; have N4 := Lib.hid hn4; clear hn4))
        rw [← E64.out] at N4
        obtain ⟨lo, hlo⟩ : ∃ lo : Int, lo = 1 := ⟨_, rfl⟩
        rw [← hlo] at N4
        clear N3 N E64 RF2 RG hlo EX
        go_wp2_with fail
        go_loopw [5] (fun i wr => ∃ j : Nat, j ≤ n ∧ i = .int .i64 j ∧ NAt w (fun _ => False) r ⟨64, (es.drop j).map Nt.good, n, lo⟩ wr) (fun i _ => n - (intOf i).toNat)
        case atStart => exact ⟨0, by omega, rfl, by rw [List.drop_zero]; exact N4.out⟩
        case round =>
          clear N4
          obtain ⟨j, hj, rfl, hm⟩ := hrel
          have N := Lib.hid hm
          clear hm
          by_cases hlt : j < n
          · have hjl : j < es.length := by have := LN.out; omega
            have EX : Hid (es[j]? = some es[j]) := List.getElem?_eq_getElem hjl
            generalize es[j] = x at EX
            obtain ⟨b, o, hA, hbl, hrg⟩ := nt_range S.out EX.out
            first
              | subst hA
              | (injection hA with hA; injection hA with e1 e2; have e1' := e1.symm; have e2' := e2.symm; subst e1' e2')
            have HB := Lib.hid hbl
            have RG := Lib.hid hrg
            have i1 : (0 : Int) ≤ (j : Int) := by omega
            have i2 : (j : Int) < (n : Int) := by omega
            have RT := Lib.hid (row_take es j x n lo EX.out)
            have hne : ∀ W, (binOp .neq 32 (Nt.val (Nt.good x)) (Nt.val (Nt.good x))).run Try.prog W = .ok (.bool false) W := fun W => msg_neq (by simp) W
            clear hrg hbl
            go_upto_region 16 with (go_at_call 18; (with_reducible refine (nat_take0 N.out ⟨by decide, by decide⟩ RT.out.1 RT.out.2.1 RT.out.2.2).mono ?_); rintro e w6 ⟨rfl, hn6, _⟩; have N6 := Lib.hid hn6; clear hn6)
            have hb7 : Below w6.heap.size w6 (w6.alloc (.cells (Nt.cs (Nt.good x)) 32)).drew := ((Below.refl _ _).alloc (Nat.le_refl _) _).drew
            have X7 : Hid (NtAt (w6.alloc (.cells (Nt.cs (Nt.good x)) 32)).drew w6.heap.size (Nt.good x)) := ⟨heap_alloc_new w6 _⟩
            have N7 := Lib.hid (N6.out.on hb7)
            have R7 := Lib.hid (nrange_on RG.out (N7.out.below.block b HB.out))
            obtain ⟨g7, hg7⟩ : ∃ g, g = w6.heap.size := ⟨_, rfl⟩
            rw [← hg7] at X7 ⊢
            clear hg7 hb7 N6
            generalize hw7 : (w6.alloc (.cells (Nt.cs (Nt.good x)) 32)).drew = w7 at *
            refine wp_region_held_drew (S := fun X => NtAt X g7 (Nt.good x) ∧ X.rangeAt b (o + j * 6) (Nt.mC x) ∧ NAt w (fun _ => False) r ⟨64, (es.drop (j + 1)).map Nt.good, n, lo⟩ X) (by kernel_rfl) (by rw [hw7]; exact ⟨X7.out, R7.out, N7.out⟩) (fun hS => ?_)
            rw [hw7] at hS ⊢
            clear hw7
            refine tkYes 0 (v := Nt.val (Nt.good x)) rfl (by kernel_rfl) (fun _ _ _ h => h) rfl (fun W hW => take_msg (.tmp 6) rfl g7 0 (Nt.good x) rfl hW.1.range) hS ?_
            simp only [Act.put, List.setIfInBounds_toArray, List.set_cons_zero, List.set_cons_succ]
            refine tkYes 1 (v := ?_) rfl (by kernel_rfl) (fun _ _ _ h => h) rfl ?_ hS ?_
            rotate_left
            · intro W hW; go_simp; (try with_reducible rfl)
            simp only [Act.put, List.setIfInBounds_toArray, List.set_cons_zero, List.set_cons_succ]
            refine tkYes 2 (v := ?_) rfl (by kernel_rfl) (fun _ _ _ h => h) rfl ?_ hS ?_
            rotate_left
            · intro W hW; go_simp; (try with_reducible rfl)
            simp only [Act.put, List.setIfInBounds_toArray, List.set_cons_zero, List.set_cons_succ]
            refine tkYes 3 (v := ?_) rfl (by kernel_rfl) (fun _ _ _ h => h) rfl ?_ hS ?_
            rotate_left
            · intro W hW; go_simp; (try with_reducible rfl)
            simp only [Act.put, List.setIfInBounds_toArray, List.set_cons_zero, List.set_cons_succ]
            refine tkYes 4 (v := Nt.val x) rfl (by kernel_rfl) (fun _ _ _ h => h) rfl (fun W hW => take_msg (.tmp 58) rfl b (o + j * 6) x (by simp [Act.eval, go_sem]) hW.2.1) hS ?_
            simp only [Act.put, List.setIfInBounds_toArray, List.set_cons_zero, List.set_cons_succ]
            refine rnOne 5 rfl (by kernel_rfl) rfl (fun K hK => ?_)
            go_simp
            with_reducible refine (rtgood_any x _).mono ?_
            rintro e w9 ⟨rfl, hb9⟩
            have hS2 : NtAt w9 g7 (Nt.good x) ∧ w9.rangeAt b (o + j * 6) (Nt.mC x) ∧ NAt w (fun _ => False) r ⟨64, (es.drop (j + 1)).map Nt.good, n, lo⟩ w9 := ⟨hS.1.on hb9, nrange_on hS.2.1 (hb9.block b (by have := hS.2.2.below.size; have := HB.out; omega)), hS.2.2.on hb9⟩
            clear hS hb9
            have hS := hS2
            clear hS2
            refine hK.out _ _ hS (fun _ => ?_)
            clear hK K
            try simp only [Act.put, List.setIfInBounds_toArray, List.set_cons_zero, List.set_cons_succ]
            refine tkYes 6 (v := ?_) rfl (by kernel_rfl) (fun _ _ _ h => h) rfl ?_ hS ?_
            rotate_left
            · intro W hW; go_simp; (try with_reducible rfl)
            simp only [Act.put, List.setIfInBounds_toArray, List.set_cons_zero, List.set_cons_succ]
            refine tkYes 7 (v := ?_) rfl (by kernel_rfl) (fun _ _ _ h => h) rfl ?_ hS ?_
            rotate_left
            · intro W hW; go_simp; (try with_reducible rfl)
            simp only [Act.put, List.setIfInBounds_toArray, List.set_cons_zero, List.set_cons_succ]
            refine tkYes 8 (v := ?_) rfl (by kernel_rfl) (fun _ _ _ h => h) rfl ?_ hS ?_
            rotate_left
            · intro W hW; go_simp; (try with_reducible rfl)
            simp only [Act.put, List.setIfInBounds_toArray, List.set_cons_zero, List.set_cons_succ]
            refine tkYes 9 (v := ?_) rfl (by kernel_rfl) (fun _ _ _ h => h) rfl ?_ hS ?_
            rotate_left
            · intro W hW; go_simp; (try with_reducible rfl)
            simp only [Act.put, List.setIfInBounds_toArray, List.set_cons_zero, List.set_cons_succ]
            refine tkYes 10 (v := ?_) rfl (by kernel_rfl) (fun _ _ _ h => h) rfl ?_ hS ?_
            rotate_left
            · intro W hW; go_simp; (try with_reducible rfl)
            simp only [Act.put, List.setIfInBounds_toArray, List.set_cons_zero, List.set_cons_succ]
            refine wpAnyH_done (by kernel_rfl) ?_ _
            have N9 := Lib.hid hS.2.2
            clear hS
            go_wp2_with fail
            exact ⟨⟨j + 1, by omega, by go_num, N9.out⟩, by simp [intOf]; omega⟩
          · obtain rfl : n = j := by omega
            have ED : Hid (es.drop n = []) := List.drop_eq_nil_of_le (by have := LN.out; omega)
            rw [ED.out] at N
            have EN : Hid (Nt.takeB ⟨64, ([] : List Nt.M).map Nt.good, (n : Int), lo⟩ = false ∧ Nt.takeM ⟨64, ([] : List Nt.M).map Nt.good, (n : Int), lo⟩ 0 = Nt.zero ∧ Nt.takeS ⟨64, ([] : List Nt.M).map Nt.good, (n : Int), lo⟩ 0 = ⟨64, [], (n : Int), lo⟩) := ⟨rfl, rfl, rfl⟩
            go_upto_region 19 with (go_at_call 18; (with_reducible refine (nat_take0 N.out ⟨by decide, by decide⟩ EN.out.1 EN.out.2.1 EN.out.2.2).mono ?_); rintro e w6 ⟨rfl, hn6, _⟩; have N6 := Lib.hid hn6; clear hn6)
            have N7 := Lib.hid (N6.out.on (W' := w6.alloc (.cells (Nt.cs Nt.zero) 32)) ((Below.refl _ _).alloc (Nat.le_refl _) _))
            clear N6
            generalize w6.alloc (.cells (Nt.cs Nt.zero) 32) = w7 at *
            go_wp2_with (first
              | (go_at_call 25; (with_reducible refine (nlen_any _ _ _ _ _ N7.out.ask).mono ?_); rintro e wz ⟨rfl, hw⟩; rw [hw]; clear hw wz)
              | (go_at_call 26; (with_reducible refine (nsent_any _ _ _ _ _ N7.out.ask).mono ?_); rintro e wz ⟨rfl, hw⟩; rw [hw]; clear hw wz))
            go_ret
            exact ⟨rfl, N7.out.below⟩
      · have q64 : ((n : Int) == 64) = false := by rw [beq_eq_false_iff_ne]; omega
        go_upto_region 12 with fail
        have N4 := N
        obtain ⟨lo, hlo⟩ : ∃ lo : Int, lo = 0 := ⟨_, rfl⟩
        rw [← hlo] at N4
        clear N hlo RF h64
        go_wp2_with fail
        go_loopw [5] (fun i wr => ∃ j : Nat, j ≤ n ∧ i = .int .i64 j ∧ NAt w (fun _ => False) r ⟨64, (es.drop j).map Nt.good, n, lo⟩ wr) (fun i _ => n - (intOf i).toNat)
        case atStart => exact ⟨0, by omega, rfl, by rw [List.drop_zero]; exact N4.out⟩
        case round =>
          clear N4
          obtain ⟨j, hj, rfl, hm⟩ := hrel
          have N := Lib.hid hm
          clear hm
          by_cases hlt : j < n
          · have hjl : j < es.length := by have := LN.out; omega
            have EX : Hid (es[j]? = some es[j]) := List.getElem?_eq_getElem hjl
            generalize es[j] = x at EX
            obtain ⟨b, o, hA, hbl, hrg⟩ := nt_range S.out EX.out
            first
              | subst hA
              | (injection hA with hA; injection hA with e1 e2; have e1' := e1.symm; have e2' := e2.symm; subst e1' e2')
            have HB := Lib.hid hbl
            have RG := Lib.hid hrg
            have i1 : (0 : Int) ≤ (j : Int) := by omega
            have i2 : (j : Int) < (n : Int) := by omega
            have RT := Lib.hid (row_take es j x n lo EX.out)
            have hne : ∀ W, (binOp .neq 32 (Nt.val (Nt.good x)) (Nt.val (Nt.good x))).run Try.prog W = .ok (.bool false) W := fun W => msg_neq (by simp) W
            clear hrg hbl
            go_upto_region 16 with (go_at_call 18; (with_reducible refine (nat_take0 N.out ⟨by decide, by decide⟩ RT.out.1 RT.out.2.1 RT.out.2.2).mono ?_); rintro e w6 ⟨rfl, hn6, _⟩; have N6 := Lib.hid hn6; clear hn6)
            have hb7 : Below w6.heap.size w6 (w6.alloc (.cells (Nt.cs (Nt.good x)) 32)).drew := ((Below.refl _ _).alloc (Nat.le_refl _) _).drew
            have X7 : Hid (NtAt (w6.alloc (.cells (Nt.cs (Nt.good x)) 32)).drew w6.heap.size (Nt.good x)) := ⟨heap_alloc_new w6 _⟩
            have N7 := Lib.hid (N6.out.on hb7)
            have R7 := Lib.hid (nrange_on RG.out (N7.out.below.block b HB.out))
            obtain ⟨g7, hg7⟩ : ∃ g, g = w6.heap.size := ⟨_, rfl⟩
            rw [← hg7] at X7 ⊢
            clear hg7 hb7 N6
            generalize hw7 : (w6.alloc (.cells (Nt.cs (Nt.good x)) 32)).drew = w7 at *
            refine wp_region_held_drew (S := fun X => NtAt X g7 (Nt.good x) ∧ X.rangeAt b (o + j * 6) (Nt.mC x) ∧ NAt w (fun _ => False) r ⟨64, (es.drop (j + 1)).map Nt.good, n, lo⟩ X) (by kernel_rfl) (by rw [hw7]; exact ⟨X7.out, R7.out, N7.out⟩) (fun hS => ?_)
            rw [hw7] at hS ⊢
            clear hw7
            refine tkYes 0 (v := Nt.val (Nt.good x)) rfl (by kernel_rfl) (fun _ _ _ h => h) rfl (fun W hW => take_msg (.tmp 6) rfl g7 0 (Nt.good x) rfl hW.1.range) hS ?_
            simp only [Act.put, List.setIfInBounds_toArray, List.set_cons_zero, List.set_cons_succ]
            refine tkYes 1 (v := ?_) rfl (by kernel_rfl) (fun _ _ _ h => h) rfl ?_ hS ?_
            rotate_left
            · intro W hW; go_simp; (try with_reducible rfl)
            simp only [Act.put, List.setIfInBounds_toArray, List.set_cons_zero, List.set_cons_succ]
            refine tkYes 2 (v := ?_) rfl (by kernel_rfl) (fun _ _ _ h => h) rfl ?_ hS ?_
            rotate_left
            · intro W hW; go_simp; (try with_reducible rfl)
            simp only [Act.put, List.setIfInBounds_toArray, List.set_cons_zero, List.set_cons_succ]
            refine tkYes 3 (v := ?_) rfl (by kernel_rfl) (fun _ _ _ h => h) rfl ?_ hS ?_
            rotate_left
            · intro W hW; go_simp; (try with_reducible rfl)
            simp only [Act.put, List.setIfInBounds_toArray, List.set_cons_zero, List.set_cons_succ]
            refine tkYes 4 (v := Nt.val x) rfl (by kernel_rfl) (fun _ _ _ h => h) rfl (fun W hW => take_msg (.tmp 58) rfl b (o + j * 6) x (by simp [Act.eval, go_sem]) hW.2.1) hS ?_
            simp only [Act.put, List.setIfInBounds_toArray, List.set_cons_zero, List.set_cons_succ]
            refine rnOne 5 rfl (by kernel_rfl) rfl (fun K hK => ?_)
            go_simp
            with_reducible refine (rtgood_any x _).mono ?_
            rintro e w9 ⟨rfl, hb9⟩
            have hS2 : NtAt w9 g7 (Nt.good x) ∧ w9.rangeAt b (o + j * 6) (Nt.mC x) ∧ NAt w (fun _ => False) r ⟨64, (es.drop (j + 1)).map Nt.good, n, lo⟩ w9 := ⟨hS.1.on hb9, nrange_on hS.2.1 (hb9.block b (by have := hS.2.2.below.size; have := HB.out; omega)), hS.2.2.on hb9⟩
            clear hS hb9
            have hS := hS2
            clear hS2
            refine hK.out _ _ hS (fun _ => ?_)
            clear hK K
            try simp only [Act.put, List.setIfInBounds_toArray, List.set_cons_zero, List.set_cons_succ]
            refine tkYes 6 (v := ?_) rfl (by kernel_rfl) (fun _ _ _ h => h) rfl ?_ hS ?_
            rotate_left
            · intro W hW; go_simp; (try with_reducible rfl)
            simp only [Act.put, List.setIfInBounds_toArray, List.set_cons_zero, List.set_cons_succ]
            refine tkYes 7 (v := ?_) rfl (by kernel_rfl) (fun _ _ _ h => h) rfl ?_ hS ?_
            rotate_left
            · intro W hW; go_simp; (try with_reducible rfl)
            simp only [Act.put, List.setIfInBounds_toArray, List.set_cons_zero, List.set_cons_succ]
            refine tkYes 8 (v := ?_) rfl (by kernel_rfl) (fun _ _ _ h => h) rfl ?_ hS ?_
            rotate_left
            · intro W hW; go_simp; (try with_reducible rfl)
            simp only [Act.put, List.setIfInBounds_toArray, List.set_cons_zero, List.set_cons_succ]
            refine tkYes 9 (v := ?_) rfl (by kernel_rfl) (fun _ _ _ h => h) rfl ?_ hS ?_
            rotate_left
            · intro W hW; go_simp; (try with_reducible rfl)
            simp only [Act.put, List.setIfInBounds_toArray, List.set_cons_zero, List.set_cons_succ]
            refine tkYes 10 (v := ?_) rfl (by kernel_rfl) (fun _ _ _ h => h) rfl ?_ hS ?_
            rotate_left
            · intro W hW; go_simp; (try with_reducible rfl)
            simp only [Act.put, List.setIfInBounds_toArray, List.set_cons_zero, List.set_cons_succ]
            refine wpAnyH_done (by kernel_rfl) ?_ _
            have N9 := Lib.hid hS.2.2
            clear hS
            go_wp2_with fail
            exact ⟨⟨j + 1, by omega, by go_num, N9.out⟩, by simp [intOf]; omega⟩
          · obtain rfl : n = j := by omega
            have ED : Hid (es.drop n = []) := List.drop_eq_nil_of_le (by have := LN.out; omega)
            rw [ED.out] at N
            have EN : Hid (Nt.takeB ⟨64, ([] : List Nt.M).map Nt.good, (n : Int), lo⟩ = false ∧ Nt.takeM ⟨64, ([] : List Nt.M).map Nt.good, (n : Int), lo⟩ 0 = Nt.zero ∧ Nt.takeS ⟨64, ([] : List Nt.M).map Nt.good, (n : Int), lo⟩ 0 = ⟨64, [], (n : Int), lo⟩) := ⟨rfl, rfl, rfl⟩
            go_upto_region 19 with (go_at_call 18; (with_reducible refine (nat_take0 N.out ⟨by decide, by decide⟩ EN.out.1 EN.out.2.1 EN.out.2.2).mono ?_); rintro e w6 ⟨rfl, hn6, _⟩; have N6 := Lib.hid hn6; clear hn6)
            have N7 := Lib.hid (N6.out.on (W' := w6.alloc (.cells (Nt.cs Nt.zero) 32)) ((Below.refl _ _).alloc (Nat.le_refl _) _))
            clear N6
            generalize w6.alloc (.cells (Nt.cs Nt.zero) 32) = w7 at *
            go_wp2_with (first
              | (go_at_call 25; (with_reducible refine (nlen_any _ _ _ _ _ N7.out.ask).mono ?_); rintro e wz ⟨rfl, hw⟩; rw [hw]; clear hw wz)
              | (go_at_call 26; (with_reducible refine (nsent_any _ _ _ _ _ N7.out.ask).mono ?_); rintro e wz ⟨rfl, hw⟩; rw [hw]; clear hw wz))
            go_ret
            exact ⟨rfl, N7.out.below⟩
end Go.Proofs.Ytmhhjipdbfepiaa
