import Derived.Test.YtnacjhnfkkddcaaGreatDoorSe29
import Derived.Test.YtnacjhnfkkddcaaGreatDoorRows
import Derived.Test.YtnacjhnfkkddcaaGreatDoorTie
import Derived.Test.YtnacjhnfkkddcaaGreatDoorCards
import Derived.WalkKit
import Derived.ProofKit
import Derived.OpenShut
import Derived.ShutString
import Derived.ChangeOld
import Derived.Below
import Derived.LaidMore
import Derived.Lay
import Derived.SevenTiedAt
import Derived.Deep.Matrix
namespace Go.Proofs.YtnacjhnfkkddcaaGreatDoor
open Go.RowKit
set_option maxRecDepth 100000
set_option linter.unusedSimpArgs false
set_option linter.unusedVariables false
set_option maxHeartbeats 6400000 in
theorem bookstable_walk (m : Int) (A : Option Addr) (k c : Nat) (l : List Rc.R) (hin : ∀ r ∈ l, Rc.In r) (W : World) (hs : SlF Bk.rcC W A k c l) (ht : BT W) : Calls Tryz.prog 5 #[.int .i64 m, .slice A k c] W (BRet (.bool true) W) := by
 have T0 := Lib.hid ht
 have S0 := Lib.hid hs
 have CLV := Lib.hid (lives_any W ht)
 have CSH : Hid (∀ w, SlF Bk.rcC w A k c l → Calls Tryz.prog 12 #[.slice A k c, .int .i64 60] w (SomeRecs w 60)) := fun w h => bkshort_any A k c 60 l hin w h (by omega)
 have CON : Hid (∀ w A k c l, SlF Bk.rcC w A k c l → (∀ r ∈ l, Rc.In r) → k ≤ 1000 → Calls Tryz.prog 13 #[.int .i64 m, .slice A k c] w (SomeRecs w k)) := fun w A k c l h1 h2 h3 => bkon_any m A k c l h2 w h1 h3
 have CNW := Lib.hid (fun w => bp_new w m)
 clear ht hs hin
 go_enter Tryz.func5, Tryz.ntmps5
 have hzv : ∀ W : World, (zeroValue 48).run Tryz.prog W = .ok (.agg (Bk.viewC Bk.none_)) W := (zero_of_info (n := 22) (by kernel_rfl)).1
 go_upto_region 5 with (first
  | (go_at_call 11; (with_reducible refine CLV.out.mono ?_); rintro e w1 ⟨rfl, hb⟩; have B1 := Lib.hid hb; have S1 := Lib.hid (S0.out.on hb); clear hb)
  | (go_at_call 12; (with_reducible refine (CSH.out _ S1.out).mono ?_); rintro e w2 ⟨A2, c2, l2, rfl, h1, h2, h3, h4⟩; have S2 := Lib.hid h1; have I2 := Lib.hid h2; have N2 := Lib.hid h3; have B2 := Lib.hid (B1.out.trans (h4.mono B1.out.size)); clear h1 h2 h3 h4)
  | (go_at_call 13; (with_reducible refine (CON.out _ _ _ _ _ S2.out I2.out (by have := N2.out; omega)).mono ?_); rintro e w3 ⟨A3, c3, l3, rfl, h1, h2, h3, h4⟩; have S3 := Lib.hid h1; have I3 := Lib.hid h2; have N3 := Lib.hid (Nat.le_trans h3 N2.out); have B3 := Lib.hid (B2.out.trans (h4.mono B2.out.size)); clear h1 h2 h3 h4)
  | (go_at_call 20; (with_reducible refine (CNW.out _).mono ?_); rintro e w4 ⟨q, rfl, hd⟩; have D4 := Lib.hid hd; clear hd))
 clear S0 S1 S2 I2 N2 B1 B2 CLV CSH CON CNW
 have T3 := Lib.hid (T0.out.on B3.out)
 clear T0
 have SZ := Lib.hid S3.out.len
 have hcap := S3.out.cap
 have n60 : ((l3.length : Nat) : Int) ≤ 60 := by have := N3.out; omega
 go_wp2_with fail
 go_loopw [6] (fun i wr => ∃ j : Nat, j ≤ l3.length ∧ i = .int .i64 j ∧ BP w3 (fun _ => False) q (Bk.run (Bk.new m) (l3.take j)) wr) (fun i _ => l3.length - (intOf i).toNat)
 case atStart => exact ⟨0, Nat.zero_le _, rfl, D4.out⟩
 case round =>
  clear D4
  obtain ⟨j, hj, rfl, hd⟩ := hrel
  have D := Lib.hid hd
  clear hd
  have i1 : (0 : Int) ≤ (j : Int) := by omega
  by_cases hlt : j < l3.length
  ·have hx : l3[j]? = some (l3[j]'hlt) := List.getElem?_eq_getElem _
   have HT := Lib.hid (Bk.take_run (Bk.new m) l3 (k := j) hlt).1
   generalize l3[j]'hlt = r at hx HT
   have HR : Hid (Rc.In r) := I3.out r (List.mem_of_getElem? hx)
   obtain ⟨b, o, rfl, hbl, hrg⟩ := rc_range S3.out hx
   have RG := Lib.hid hrg
   have HB := Lib.hid hbl
   have HLT := Lib.hid hlt
   have i2 : (j : Int) < (l3.length : Nat) := by omega
   clear hx hrg hbl hlt
   have OK : Hid (Bk.Ok (Bk.run (Bk.new m) (l3.take j))) := bp_ok D.out
   generalize Bk.run (Bk.new m) (l3.take j) = s at *
   have HE := Lib.hid (Bk.stables (s := s) (r := r))
   have CP := Lib.hid (fun F w (h : BP w3 F q s w) => bp_apply h (T3.out.on (bp_below h)) HR.out)
   have OK2 : Hid (Bk.Ok (Bk.app s r)) := Bk.app_okay OK.out
   obtain ⟨s2, hs2⟩ : ∃ s2, s2 = Bk.app s r := ⟨_, rfl⟩
   obtain ⟨z, hz⟩ : ∃ z, z = Bk.chk s r := ⟨_, rfl⟩
   rw [← hs2, ← hz] at HE CP
   rw [← hs2] at HT OK2
   clear hs2 hz
   go_upto_region 9 with (first
    | (go_at_call 21; (with_reducible refine (bp_view D.out).mono ?_); rintro e w5 ⟨rfl, hb⟩; have D1 := Lib.hid (bp_on D.out hb); have RG5 := Lib.hid (range_on RG.out ((bp_below D1.out).block b HB.out)); clear hb D)
    | ((with_reducible show wpList _ _ _ ({ dst := none, op := .store _ _ _, type := _, pos := _, after := _, guard := _ } :: _) _ _); refine wpList_store_view (s := s) rfl (.tmp 7) (.tmp 27) rfl rfl rfl (heap_alloc_new w5 _) rfl ?_))
   rw [World.setRow_alloc_new]
   have hb6 : Below w5.heap.size w5 (w5.alloc (.cells (Bk.viewC s) 48)) := (Below.refl _ _).alloc (Nat.le_refl _) _
   have D2 := Lib.hid (bp_more D1.out hb6)
   have V7 := Lib.hid (heap_alloc_new w5 (.cells (Bk.viewC s) 48))
   have RG6 := Lib.hid (range_on RG5.out (hb6.block b (Nat.lt_of_lt_of_le HB.out (bp_below D1.out).size)))
   have G7 : Hid (w5.heap.size ≤ w5.heap.size ∧ w5.heap.size < (w5.alloc (.cells (Bk.viewC s) 48)).heap.size) := ⟨Nat.le_refl _, by simp⟩
   clear hb6 D1 RG5
   generalize w5.alloc (.cells (Bk.viewC s) 48) = w6 at *
   obtain ⟨n5, hn5⟩ : ∃ n5, n5 = w5.heap.size := ⟨_, rfl⟩
   obtain ⟨g7, hg7⟩ : ∃ g7, g7 = w5.heap.size := ⟨_, rfl⟩
   rw [← hn5] at D2
   have G7b : Hid (n5 ≤ g7 ∧ g7 < w6.heap.size) := by show _ ∧ _; rw [hn5, hg7]; exact G7.out
   rw [← hg7] at V7 ⊢
   clear G7 hn5 hg7
   go_upto_region 10 with (first
    | ((with_reducible show wpList _ _ _ ({ dst := some 32, op := .load _ _, type := _, pos := _, after := _, guard := _ } :: _) _ _); refine wpList_load_rcm rfl (.tmp 31) rfl b (o + j * 18) (by simp [Act.eval, go_sem]) r RG6.out ?_)
    | (go_at_call 22; (with_reducible refine (CP.out _ _ D2.out).mono ?_); rintro e w7 hp; obtain ⟨rfl, hd2, hkk⟩ := hp; have V7a := Lib.hid ((hkk g7 (.inr G7b.out)).trans V7.out); have D3 := Lib.hid (bp_less (G := fun _ => False) hd2 fun _ h => h.elim); clear hd2 hkk D2 V7))
   go_upto_region 11 with (first
    | (go_at_call 21; (with_reducible refine (bp_view D3.out).mono ?_); rintro e w8 ⟨rfl, hb⟩; have D4 := Lib.hid (bp_on D3.out hb); have V7b := Lib.hid (blk_on V7a.out hb); clear hb D3 V7a)
    | ((with_reducible show wpList _ _ _ ({ dst := none, op := .store _ _ _, type := _, pos := _, after := _, guard := _ } :: _) _ _); refine wpList_store_view (s := s2) rfl (.tmp 9) (.tmp 35) rfl rfl rfl (heap_alloc_new w8 _) rfl ?_))
   rw [World.setRow_alloc_new]
   have hb9 : Below w8.heap.size w8 (w8.alloc (.cells (Bk.viewC s2) 48)) := (Below.refl _ _).alloc (Nat.le_refl _) _
   have D5 := Lib.hid (bp_on D4.out hb9)
   have V9 := Lib.hid (heap_alloc_new w8 (.cells (Bk.viewC s2) 48))
   have V7c := Lib.hid (blk_on V7b.out hb9)
   have RG9 := range_on RG.out ((bp_below D5.out).block b HB.out)
   have lg := Nat.lt_of_lt_of_le HB.out (bp_below D5.out).size
   clear hb9 D4 V7b RG6 CP
   generalize w8.alloc (.cells (Bk.viewC s2) 48) = w9 at *
   generalize w8.heap.size = g9 at *
   have a3 : w9.cell? ⟨g7, 3, none⟩ = some (.int .i64 s.stable) := by rw [cell_of_row _ g7 3 _ _ _ V7c.out]; rfl
   have a10 : w9.cell? ⟨g7, 10, none⟩ = some (.int .i64 s.sp.v) := by rw [cell_of_row _ g7 10 _ _ _ V7c.out]; rfl
   have b3 : w9.cell? ⟨g9, 3, none⟩ = some (.int .i64 s2.stable) := by rw [cell_of_row _ g9 3 _ _ _ V9.out]; rfl
   have b4 : w9.cell? ⟨g9, 4, none⟩ = some (.int .i64 s2.from_) := by rw [cell_of_row _ g9 4 _ _ _ V9.out]; rfl
   have b5 : w9.cell? ⟨g9, 5, none⟩ = some (.int .i64 s2.ph) := by rw [cell_of_row _ g9 5 _ _ _ V9.out]; rfl
   have e0 := RG9 0 _ rfl
   have e3 := RG9 3 _ rfl
   rw [Nat.add_zero] at e0
   have l7 := (Array.getElem?_eq_some_iff.1 V7c.out).1
   have l9 := (Array.getElem?_eq_some_iff.1 V9.out).1
   have TB := Lib.hid (T3.out.on (bp_below D5.out))
   have hst := OK2.out.stable
   have CD := Lib.hid (bp_digest D5.out TB.out s2.stable ⟨by omega, by omega⟩)
   have HS : Hid (0 < s2.stable → Bk.has s2.vs s2.stable = true) := fun h => OK2.out.known (by omega)
   have HP : Hid (s2.ph = 5 → s2.stable = s2.from_) := fun h => Bk.rolled OK2.out h
   clear RG9 V7c V9 OK OK2
   generalize Bk.has s2.vs s2.stable = hh at *
   generalize Bk.text s2.vs s2.stable = tx at *
   by_cases h1 : s2.stable = s.stable
   ·have q1 : (s2.stable != s.stable) = false := by simp [h1]
    clear h1 HE
    go_upto_region 13 with fail
    by_cases h2 : s2.ph = 5
    ·have q2 : (s2.ph == 5) = true := by simp [h2]
     have q3 : (s2.stable != s2.from_) = false := by simp [HP.out h2]
     clear h2 HP
     go_upto_region 15 with fail
     by_cases h3 : 0 < s2.stable
     ·have q8 : s2.stable > 0 := h3
      obtain rfl := HS.out h3
      clear h3
      go_wp2_with (go_at_call 23; (with_reducible refine CD.out.mono ?_); rintro e w10 ⟨rfl, hb⟩; have D6 := Lib.hid (bp_on D5.out hb); clear hb)
      exact ⟨⟨j + 1, by have := HLT.out; omega, by go_num, by rw [HT.out]; exact D6.out⟩, by simp [intOf]; have := HLT.out; omega⟩
     ·have q8 : s2.stable ≤ 0 := by omega
      clear h3
      go_wp2_with fail
      exact ⟨⟨j + 1, by have := HLT.out; omega, by go_num, by rw [HT.out]; exact D5.out⟩, by simp [intOf]; have := HLT.out; omega⟩
    ·have q2 : (s2.ph == 5) = false := by simp [h2]
     clear h2 HP
     go_upto_region 15 with fail
     by_cases h3 : 0 < s2.stable
     ·have q8 : s2.stable > 0 := h3
      obtain rfl := HS.out h3
      clear h3
      go_wp2_with (go_at_call 23; (with_reducible refine CD.out.mono ?_); rintro e w10 ⟨rfl, hb⟩; have D6 := Lib.hid (bp_on D5.out hb); clear hb)
      exact ⟨⟨j + 1, by have := HLT.out; omega, by go_num, by rw [HT.out]; exact D6.out⟩, by simp [intOf]; have := HLT.out; omega⟩
     ·have q8 : s2.stable ≤ 0 := by omega
      clear h3
      go_wp2_with fail
      exact ⟨⟨j + 1, by have := HLT.out; omega, by go_num, by rw [HT.out]; exact D5.out⟩, by simp [intOf]; have := HLT.out; omega⟩
   ·obtain ⟨x1, x2, x3, x4⟩ := HE.out.resolve_left h1
    have q1 : (s2.stable != s.stable) = true := by simpa using h1
    have q4 : (z != 0) = false := by simp [x1]
    have q5 : (r.kind != 4) = false := by simp [x2]
    have q6 : (r.n != 3) = false := by simp [x3]
    have q7 : (s2.stable != s.sp.v) = false := by simp [x4]
    clear h1 HE x1 x2 x3 x4
    go_upto_region 13 with fail
    by_cases h2 : s2.ph = 5
    ·have q2 : (s2.ph == 5) = true := by simp [h2]
     have q3 : (s2.stable != s2.from_) = false := by simp [HP.out h2]
     clear h2 HP
     go_upto_region 15 with fail
     by_cases h3 : 0 < s2.stable
     ·have q8 : s2.stable > 0 := h3
      obtain rfl := HS.out h3
      clear h3
      go_wp2_with (go_at_call 23; (with_reducible refine CD.out.mono ?_); rintro e w10 ⟨rfl, hb⟩; have D6 := Lib.hid (bp_on D5.out hb); clear hb)
      exact ⟨⟨j + 1, by have := HLT.out; omega, by go_num, by rw [HT.out]; exact D6.out⟩, by simp [intOf]; have := HLT.out; omega⟩
     ·have q8 : s2.stable ≤ 0 := by omega
      clear h3
      go_wp2_with fail
      exact ⟨⟨j + 1, by have := HLT.out; omega, by go_num, by rw [HT.out]; exact D5.out⟩, by simp [intOf]; have := HLT.out; omega⟩
    ·have q2 : (s2.ph == 5) = false := by simp [h2]
     clear h2 HP
     go_upto_region 15 with fail
     by_cases h3 : 0 < s2.stable
     ·have q8 : s2.stable > 0 := h3
      obtain rfl := HS.out h3
      clear h3
      go_wp2_with (go_at_call 23; (with_reducible refine CD.out.mono ?_); rintro e w10 ⟨rfl, hb⟩; have D6 := Lib.hid (bp_on D5.out hb); clear hb)
      exact ⟨⟨j + 1, by have := HLT.out; omega, by go_num, by rw [HT.out]; exact D6.out⟩, by simp [intOf]; have := HLT.out; omega⟩
     ·have q8 : s2.stable ≤ 0 := by omega
      clear h3
      go_wp2_with fail
      exact ⟨⟨j + 1, by have := HLT.out; omega, by go_num, by rw [HT.out]; exact D5.out⟩, by simp [intOf]; have := HLT.out; omega⟩
  ·obtain rfl : j = l3.length := by omega
   have B9 := Lib.hid (B3.out.trans ((bp_below D.out).mono B3.out.size))
   have i2 : ((l3.length : Nat) : Int) ≤ ((l3.length : Nat) : Int) := Int.le_refl _
   clear hlt
   go_wp2_with fail
   go_ret
   exact ⟨rfl, B9.out⟩
end Go.Proofs.YtnacjhnfkkddcaaGreatDoor
namespace Go.Proofs.YtnacjhnfkkddcaaGreatDoor.bookStable
open Go.ChangeShapes Go.WideShapes Go.ChangeAt Go.RowKit Go.Deep
open Go.ChangeMaps (open_string shut_string)
set_option linter.unusedVariables false
theorem own : ownKnob Tryz.prog.godebug = none := by kernel_rfl
theorem laidOut : laidOutB Tryz.prog = true := by kernel_rfl
set_option maxRecDepth 100000 in
theorem lifted (os : Os) (started : os.Started) (H : Type) (enc : TypeId × Value → H) :
  ReturnsInHanded {} Tryz.checked os 5 .any (fun w args => (Rows.bookStableSpec.pre enc Tryz.prog Tryz.f5 Rows.bookStableRow.domain false w args ∧ laidMetH Tryz.prog Rows.bookStableRow.laid w) ∧ sizedMet enc Tryz.prog Tryz.f5 (OpenSpec.ofChange Rows.bookStableSpec) false w args)
   (Rows.bookStableSpec.post enc Tryz.prog Tryz.f5 false true false false) := by
 refine returns_laid_shaped (C := Tryz.checked) (X := fun w _ => laidMetH Tryz.prog Rows.bookStableRow.laid w) (fun _ _ _ hh h => h.of_heap hh) own started (by kernel_rfl) Tryz.func5
  (ChangeSpec.witness_shaped (enc := enc) (C := Tryz.checked) (os := os) (X := fun w _ => laidMetH Tryz.prog Rows.bookStableRow.laid w) false (World.laidAll Tryz.prog os Rows.bookStableRow.laid) #[.int .i64 0, .slice none 0 0] 8 (World.laidAll_os _ _ _)
   (World.shaped_of_ZipB (by kernel_rfl) (by kernel_rfl)) (by kernel_rfl) (by kernel_rfl) (by kernel_rfl)
   (by rw [MakeChecks.laidMetH_plain _ _ _ (by kernel_rfl)]; exact laidMet_laidAll _ (by kernel_rfl) (by kernel_rfl))) ?_
 intro W base args ds gs before hval0 hW hL hsh
 have TB : BT W := tb_of hL hsh
 have hval : ∀ (j : Nat) t v, Tryz.f5.params[j]? = some t → args[j]? = some v → Value.okWide Tryz.prog W .any base t v := hval0
 have hW' := hW
 obtain ⟨p, q, hA0, hV, rfl, hfz, hnd⟩ := hW
 have hA : DataW.TrodAll enc Tryz.prog W 0 (fun _ => true) true Tryz.f5.params.toList args.toList ds p := hA0
 rw [Tryz.params5] at hA hval
 obtain ⟨v0, vs0, d0, ds0, p0, q0, hargs, rfl, rfl, h0, r0⟩ := trodAll_cons hA
 obtain ⟨v1, vs1, d1, ds1, p1, q1, rfl, rfl, rfl, h1, r1⟩ := trodAll_cons r0
 obtain ⟨rfl, rfl, rfl⟩ := trodAll_nil r1
 obtain rfl : args = #[v0, v1] := by cases args; simp_all
 obtain ⟨rfl, rfl⟩ := trodVars_none hV
 obtain ⟨a0, rfl, rfl, rfl, w0⟩ := open_int Tryz.underlying3 (hval 0 3 v0 rfl rfl) h0
 obtain ⟨a1, len1, cap1, rfl⟩ := okWide_slice Tryz.underlying22 (hval 1 22 v1 rfl rfl)
 have k1 := h1
 have lt1 : ∀ x ∈ p1, x.block < W.heap.size := by obtain ⟨m, hm⟩ := k1; exact DataW.trod_lt m _ _ _ hm
 obtain ⟨l1, s1⟩ : ∃ ts, SlF Bk.rcC W a1 len1 cap1 ts ∧ ∀ r ∈ ts, Rc.In r := by
  obtain ⟨fuel, hf⟩ := h1
  exact recs_of hf
 clear hA0 hval0
 refine (bookstable_walk a0 a1 len1 cap1 l1 s1.2 W s1.1 TB).mono fun e W' ⟨he, bel⟩ => ?_
 subst he
 exact ⟨_, rfl, _, _, _, [], _, [], hW', trodAll_mk1 (shut_bool Tryz.underlying4 _), (trodAll_cons_mk (shut_int Tryz.underlying3 w0) (trodAll_cons_mk (Below.trod laidOut (by kernel_rfl) (of_decide_eq_true (by kernel_rfl)) k1 bel lt1) trodAll_mk0)), rfl, bel.frame _, fun h => by cases h⟩
theorem over : Rows.bookStableRow.holds Tryz.pinned (OpenSpec.ofChange Rows.bookStableSpec) :=
 OpenClaim.holds_of_wide 5 Tryz.f5 rfl rfl rfl rfl rfl rfl rfl ⟨rfl, rfl, rfl, rfl, rfl⟩ rfl rfl rfl rfl rfl (by kernel_rfl) Tryz.func5 (by kernel_rfl)
  (of_decide_eq_true (by kernel_rfl)) (by unfold Func.isWrapper; first | (rw [if_pos (by decide +kernel)]; kernel_rfl) | (rw [if_neg (by decide +kernel)]; exact ⟨rfl, rfl⟩))
  (fun os started H enc _ => lifted os started H enc)
theorem proved : Rows.BookStableCardSaid :=
 Claim7.holds_tied_plain_at .later [] [.data, .data, .data, .data, .data] true (true, "c5c1848f9e642c3994f925240c50aea25b5ca66c5be079995ae028e73a4b7396") true over (fun _ h => by cases h) (by kernel_rfl) (fun _ h => by cases h) bookStable_row_tie rfl ⟨rfl, rfl⟩ (by kernel_rfl) rfl
  (fun f fn hf hfn => by
   obtain rfl : f = 5 := Option.some.inj ((show Tryz.prog.funcNamed Rows.bookStableRow.func = some 5 by kernel_rfl).symm.trans hf) |>.symm
   obtain rfl : fn = Tryz.f5 := (Option.some.inj (Tryz.func5.symm.trans hfn)).symm
   exact ⟨by kernel_rfl, fun j t ht => by
    rw [Tryz.params5] at ht
    have hm : t ∈ [3, 22] := by simpa using Array.mem_of_getElem? ht
    have hall : ([3, 22].all fun u => !Tryz.prog.wantsStandIn u) = true := by kernel_rfl
    exact (show Tryz.prog.wantsStandIn t = false by simpa using List.all_eq_true.1 hall t hm)⟩)
  (by kernel_rfl)
end Go.Proofs.YtnacjhnfkkddcaaGreatDoor.bookStable
