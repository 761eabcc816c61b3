/-
  The walk of the statement JournalOpens, of whatever journal keeps JC.
-/
import Derived.Test.YtdamnamhbjfnlaaJrnJB
import Derived.Test.YtdamnamhbjfnlaaJrnRef
import Derived.Test.YtdamnamhbjfnlaaFrMake
import Derived.Test.YtdamnamhbjfnlaaRegion
import Derived.Deep.Cut
import Derived.Deep.DeepCutAuto
import Derived.Lib.MinMax
namespace Go.Proofs.Ytdamnamhbjfnlaa
open Go.RowKit
set_option linter.unusedSimpArgs false

theorem op_write {l : List Nat} (h : l.length ≤ 300) : Dk.write (Dk.new 1000) l = ⟨1000, 0, l⟩ ∧ Dk.writeE (Dk.new 1000) l = 0 := by
  have hg : Dk.goes (Dk.new 1000) l := by unfold Dk.goes; show 0 + l.length ≤ 1000; omega
  unfold Dk.write Dk.writeE
  rw [if_pos hg, if_pos hg]
  exact ⟨rfl, rfl⟩
theorem jb_again {J : JPred} (hJ : JC J) {w0 : World} {X : Nat → Prop} {q r : Nat} {d : Dk.St} (W : World) (h : JBX J w0 X q r d W) (ho : Jn.opened d = d) :
    Calls Try.prog 10 #[.pointer (some ⟨r, 0, none⟩)] W (fun e w' => ∃ q', e = .returned (.tuple #[.pointer (some ⟨q', 0, none⟩), .int .i64 0]) ∧ JBX J w0 X q r d w' ∧ JBX J w0 X q' r d w' ∧ Kept X W w') := by
  refine (hJ.again W X q r d h.jr ho h.fresh).mono ?_
  rintro e w' ⟨q', rfl, h1, h2, h3⟩
  have hb := h.below.trans (h3.below h.below.size h.inX)
  exact ⟨q', rfl, ⟨hb, h1, h.inX, fun i hi => h.fresh i (Nat.le_trans h3.size hi)⟩, ⟨hb, h2, h.inX, fun i hi => h.fresh i (Nat.le_trans h3.size hi)⟩, h3⟩
set_option maxRecDepth 100000 in
set_option maxHeartbeats 6400000 in
theorem jopens_walk {J : JPred} (hJ : JC J) (n c : Nat) (A : Option Addr) (l : List Nat) (w : World) (h : Sl w A n c l) :
    Calls Try.prog 4 #[.slice A n c] w fun e w' => e = .returned (.bool true) ∧ Below w.heap.size w w' := by
  have HJ := Lib.hid hJ
  have hs := h.few 300
  have hcap := h.cap
  have hmax := h.max
  unfold maxLen at hmax
  have hmn : min (n : Int) 300 = ((min n 300 : Nat) : Int) := by omega
  have hmc : min n 300 ≤ c := by omega
  have hm3 : min n 300 ≤ 300 := by omega
  have HS := Lib.hid hs
  clear hJ h hs
  generalize l.take 300 = b at *
  generalize min n 300 = m at *
  have hbl : b.length ≤ 300 := by rw [← HS.out.len]; exact hm3
  have hbb : ∀ x ∈ b, x < 256 := HS.out.rd.1
  obtain ⟨d1, hd1⟩ : ∃ d1 : Dk.St, d1 = ⟨1000, 0, b⟩ := ⟨_, rfl⟩
  have OK1 : Dk.Okay d1 := by rw [hd1]; exact ⟨by simp, by show b.length ≤ 1000; omega, by show (1000 : Nat) ≤ 1048576; omega⟩
  have BY1 : Jn.Byt d1 := by rw [hd1]; exact hbb
  have hW1 : Dk.write (Dk.new 1000) b = d1 := by rw [hd1]; exact (op_write hbl).1
  have HW := Lib.hid hW1
  have OK2 : Dk.Okay (Jn.opened d1) := Jn.okay_opened OK1 BY1
  have BY2 : Jn.Byt (Jn.opened d1) := Jn.Byt.opened BY1
  obtain ⟨ho1, ho2, ho3, ho4, ho5⟩ := Jn.opened_l d1 BY1
  obtain ⟨k, hk⟩ : ∃ k, k = Jn.cutN d1 := ⟨_, rfl⟩
  have hkL : k ≤ m := by
    have h1 := Jn.cutN_le d1 BY1
    have h2 : d1.l.length = m := by rw [hd1]; exact HS.out.len.symm
    omega
  have hl1 : d1.l.length = m := by rw [hd1]; exact HS.out.len.symm
  have hl2 : (Jn.opened d1).l.length = k := by
    show (d1.l.take (Jn.cutN d1)).length = k
    rw [List.length_take, hl1, ← hk]
    omega
  have hsf : (Jn.opened d1).safe = k := hk.symm
  have hoo : Jn.opened (Jn.opened d1) = Jn.opened d1 := by
    have e : Jn.cutN (Jn.opened d1) = (Jn.opened d1).l.length := by
      unfold Jn.cutN
      rw [ho1, Fr.scan_whole ho5]
    unfold Jn.opened at e ⊢
    rw [e]
    unfold Dk.leave
    simp only [List.take_length]
    rw [List.length_take, Nat.min_eq_left (Jn.cutN_le d1 BY1)]
  have HOO := Lib.hid hoo
  have HE := Lib.hid ho4
  have CO := Lib.hid (fun W => jqOpen OK1 BY1 W)
  rw [hl1, ← hk] at CO
  obtain ⟨d2, hd2⟩ : ∃ d2, d2 = Jn.opened d1 := ⟨_, rfl⟩
  rw [← hd2] at OK2 BY2 hl2 hsf HOO HE CO
  have CA := Lib.hid (fun W => jqAll OK2 BY2 W)
  have CWR : Hid (∀ W, Calls Try.prog 33 #[.agg #[.int .i64 1000, .string ⟨#[]⟩, .string ⟨#[]⟩], .string (txt b)] W (QPost d1 (Dk.writeE (Dk.new 1000) b) W)) := by
    intro W
    have := qWrite (d := Dk.new 1000) ⟨Nat.le_refl _, Nat.zero_le _, Dk.fits_le 1000⟩ b (by omega) W
    rw [hW1] at this
    exact this
  have HD2 := Lib.hid hd2
  have HL2 := Lib.hid hl2
  have HSF := Lib.hid hsf
  have HK := Lib.hid hk
  have HL1 := Lib.hid hl1
  have BB1 := Lib.hid BY1
  clear hd1 OK1 BY1 hW1 OK2 BY2 ho1 ho2 ho3 ho4 ho5 hk hl1 hl2 hsf hoo hd2 hbl hbb
  go_enter Try.func4, Try.ntmps4
  go_wp2_with fail
  (with_reducible refine (jlives_any HJ.out _).mono ?_)
  rintro e w1 ⟨rfl, hb1⟩
  have B1 := Lib.hid hb1
  have H1 := Lib.hid (HS.out.on hb1)
  clear hb1
  go_wp2_with fail
  (with_reducible refine (dNew_at w1 1000 (Below.refl _ _)).mono ?_)
  rintro e w2 ⟨r, rfl, _, hd2, hb2, _⟩
  have D2 := Lib.hid hd2
  have B2 := Lib.hid hb2
  clear hd2 hb2
  go_wp2_with fail
  (with_reducible refine (dWrite_at w2 B2.out D2.out (H1.out.on B2.out)).mono ?_)
  rintro e w3 ⟨rfl, hd3, hb3⟩
  rw [HW.out] at hd3
  have C3 := Lib.hid (jOpen_b HJ.out w3 hb3 hd3 (Nat.le_refl _) BB1.out)
  rw [HL1.out, ← HK.out, ← HD2.out] at C3
  clear hd3 hb3 D2 B2
  go_wp2_with fail
  (with_reducible refine C3.out.mono ?_)
  rintro e w4 ⟨q, rfl, hp4⟩
  have P4 := Lib.hid hp4
  clear hp4 C3
  go_upto_region 7 with fail
  go_cut [6] (fun s6 wx => ∃ g6, s6 = .pointer (some ⟨g6, 0, none⟩) ∧ wx.heap[g6]? = some (.cells #[.int .i64 (d1.room : Nat), .string (tA d1), .string (tB d1)] 30) ∧ Below w4.heap.size w4 wx)
  case first =>
    refine wp_region_held_drew (S := fun W => Below w4.heap.size w4 W) (by kernel_rfl) (Below.refl w4.heap.size w4).drew (fun hS => ?_)
    refine tkYes 1 (v := ?_) rfl (by kernel_rfl) (fun _ _ _ h => h) rfl ?_ hS ?_
    rotate_left
    · intro W hW; go_simp; (try with_reducible rfl)
    simp only [Act.put, List.setIfInBounds_toArray, List.set_cons_zero, List.set_cons_succ]
    refine tkYes 2 (v := ?_) rfl (by kernel_rfl) (fun _ _ _ h => h) rfl ?_ hS ?_
    rotate_left
    · intro W hW; have hW1 : Below w4.heap.size w4 W := hW; have hcvk := conv_rd (c := c) ((H1.out.on (P4.out.below.trans (hW1.mono P4.out.below.size))).rd) H1.out.len; go_simp; (try with_reducible rfl)
    simp only [Act.put, List.setIfInBounds_toArray, List.set_cons_zero, List.set_cons_succ]
    refine rnTwo 0 7 rfl rfl (by kernel_rfl) rfl rfl (fun K hK => ?_) (fun K hK => ?_)
    · go_simp
      (with_reducible refine (rNew_any 1000 _).mono ?_)
      rintro e w6 ⟨rfl, hb6⟩
      have hS2 := hS.trans (hb6.mono hS.size)
      have BN := Lib.hid hS2
      rw [show Dk.fits 1000 = 1000 from rfl]
      
      clear hb6
      clear hS
      have hS := hS2
      clear hS2
      refine hK.out _ _ hS (fun _ => ?_)
      clear hK K
      try simp only [Act.put, List.setIfInBounds_toArray, List.set_cons_zero, List.set_cons_succ]
      refine rnTwo 3 7 rfl rfl (by kernel_rfl) rfl rfl (fun K hK => ?_) (fun K hK => ?_)
      · go_simp
        (with_reducible refine (CWR.out _).mono ?_)
        rintro e w7 ⟨rfl, hb7⟩
        have hS2 := hS.trans (hb7.mono hS.size)
        have BS := Lib.hid hS2
        
        clear hb7
        clear hS
        have hS := hS2
        clear hS2
        refine hK.out _ _ hS (fun _ => ?_)
        clear hK K
        try simp only [Act.put, List.setIfInBounds_toArray, List.set_cons_zero, List.set_cons_succ]
        refine tkYes 4 (v := ?_) rfl (by kernel_rfl) (fun _ _ _ h => h) rfl ?_ hS ?_
        rotate_left
        · intro W hW; go_simp; (try with_reducible rfl)
        simp only [Act.put, List.setIfInBounds_toArray, List.set_cons_zero, List.set_cons_succ]
        refine tkYes 5 (v := ?_) rfl (by kernel_rfl) (fun _ _ _ h => h) rfl ?_ hS ?_
        rotate_left
        · intro W hW; go_simp; (try with_reducible rfl)
        simp only [Act.put, List.setIfInBounds_toArray, List.set_cons_zero, List.set_cons_succ]
        refine tkYes 6 (v := ?_) rfl (by kernel_rfl) (fun _ _ _ h => h) rfl ?_ hS ?_
        rotate_left
        · intro W hW; go_simp; (try with_reducible rfl)
        simp only [Act.put, List.setIfInBounds_toArray, List.set_cons_zero, List.set_cons_succ]
        refine rnOne 7 rfl (by kernel_rfl) rfl (fun K hK => ?_)
        go_simp
        have hS2 := BS.out.alloc BS.out.size (.cells #[.int .i64 0, .string ⟨#[]⟩, .string ⟨#[]⟩] 30)
        clear hS
        have hS := hS2
        clear hS2
        refine hK.out _ _ hS (fun _ => ?_)
        clear hK K
        try simp only [Act.put, List.setIfInBounds_toArray, List.set_cons_zero, List.set_cons_succ]
        refine rnOne 8 rfl (by kernel_rfl) rfl (fun K hK => ?_)
        go_simp
        have hS2 := BS.out.alloc BS.out.size (.cells #[.int .i64 (d1.room : Nat), .string (tA d1), .string (tB d1)] 30)
        clear hS
        have hS := hS2
        clear hS2
        refine hK.out _ _ hS (fun _ => ?_)
        clear hK K
        try simp only [Act.put, List.setIfInBounds_toArray, List.set_cons_zero, List.set_cons_succ]
        refine tkYes 9 (v := ?_) rfl (by kernel_rfl) (fun _ _ _ h => h) rfl ?_ hS ?_
        rotate_left
        · intro W hW; go_simp; (try with_reducible rfl)
        simp only [Act.put, List.setIfInBounds_toArray, List.set_cons_zero, List.set_cons_succ]
        refine wpAnyH_done (by kernel_rfl) ?_ _
        go_wp2_with fail
        go_meet
        case rel => exact ⟨_, rfl, heap_alloc_new w7 _, hS⟩
      · go_simp
        have hS2 := hS.alloc hS.size (.cells #[.int .i64 0, .string ⟨#[]⟩, .string ⟨#[]⟩] 30)
        have G0 := Lib.hid hS.size
        have N0 := Lib.hid (heap_alloc_new w6 (.cells #[.int .i64 0, .string ⟨#[]⟩, .string ⟨#[]⟩] 30))
        have N00 : Hid ((w6.alloc (.cells #[.int .i64 0, .string ⟨#[]⟩, .string ⟨#[]⟩] 30)).heap[w6.heap.size]? = some (.cells #[.int .i64 0, .string ⟨#[]⟩, .string ⟨#[]⟩] 30)) := N0.out
        clear N0
        clear hS
        have hS := hS2
        clear hS2
        refine hK.out _ _ hS (fun _ => ?_)
        clear hK K
        try simp only [Act.put, List.setIfInBounds_toArray, List.set_cons_zero, List.set_cons_succ]
        refine rnOne 3 rfl (by kernel_rfl) rfl (fun K hK => ?_)
        go_simp
        (with_reducible refine (CWR.out _).mono ?_)
        rintro e w7 ⟨rfl, hb7⟩
        have hS2 := hS.trans (hb7.mono hS.size)
        have BS := Lib.hid hS2
        have N8 := Lib.hid (blk_on N00.out hb7)
        obtain ⟨r0, r1, r2, r3, r4, r5⟩ := s_facts6 N8.out
        clear hb7
        clear hS
        have hS := hS2
        clear hS2
        refine hK.out _ _ hS (fun _ => ?_)
        clear hK K
        try simp only [Act.put, List.setIfInBounds_toArray, List.set_cons_zero, List.set_cons_succ]
        refine tkYes 4 (v := ?_) rfl (by kernel_rfl) (fun _ _ _ h => h) rfl ?_ hS ?_
        rotate_left
        · intro W hW; go_simp; (try with_reducible rfl)
        simp only [Act.put, List.setIfInBounds_toArray, List.set_cons_zero, List.set_cons_succ]
        refine tkYes 5 (v := ?_) rfl (by kernel_rfl) (fun _ _ _ h => h) rfl ?_ hS ?_
        rotate_left
        · intro W hW; go_simp; (try with_reducible rfl)
        simp only [Act.put, List.setIfInBounds_toArray, List.set_cons_zero, List.set_cons_succ]
        refine tkYes 6 (v := ?_) rfl (by kernel_rfl) (fun _ _ _ h => h) rfl ?_ hS ?_
        rotate_left
        · intro W hW; go_simp; (try with_reducible rfl)
        simp only [Act.put, List.setIfInBounds_toArray, List.set_cons_zero, List.set_cons_succ]
        refine rnOne 8 rfl (by kernel_rfl) rfl (fun K hK => ?_)
        go_simp
        have hS2 := hS.grown (put3_grown _ w6.heap.size (.int .i64 (d1.room : Nat)) (.string (tA d1)) (.string (tB d1))) hS.size (fun i hi => by injection hi with hi; rw [← hi]; exact G0.out)
        have N9 := Lib.hid (put3_heap N8.out (.int .i64 (d1.room : Nat)) (.string (tA d1)) (.string (tB d1)))
        clear hS
        have hS := hS2
        clear hS2
        refine hK.out _ _ hS (fun _ => ?_)
        clear hK K
        try simp only [Act.put, List.setIfInBounds_toArray, List.set_cons_zero, List.set_cons_succ]
        refine tkYes 9 (v := ?_) rfl (by kernel_rfl) (fun _ _ _ h => h) rfl ?_ hS ?_
        rotate_left
        · intro W hW; go_simp; (try with_reducible rfl)
        simp only [Act.put, List.setIfInBounds_toArray, List.set_cons_zero, List.set_cons_succ]
        refine wpAnyH_done (by kernel_rfl) ?_ _
        go_wp2_with fail
        go_meet
        case rel => exact ⟨_, rfl, N9.out, hS⟩
    · go_simp
      have hS2 := hS.alloc hS.size (.cells #[.int .i64 0, .string ⟨#[]⟩, .string ⟨#[]⟩] 30)
      have G0 := Lib.hid hS.size
      have N0 := Lib.hid (heap_alloc_new w4.drew (.cells #[.int .i64 0, .string ⟨#[]⟩, .string ⟨#[]⟩] 30))
      have N00 : Hid ((w4.drew.alloc (.cells #[.int .i64 0, .string ⟨#[]⟩, .string ⟨#[]⟩] 30)).heap[w4.heap.size]? = some (.cells #[.int .i64 0, .string ⟨#[]⟩, .string ⟨#[]⟩] 30)) := N0.out
      clear N0
      clear hS
      have hS := hS2
      clear hS2
      refine hK.out _ _ hS (fun _ => ?_)
      clear hK K
      try simp only [Act.put, List.setIfInBounds_toArray, List.set_cons_zero, List.set_cons_succ]
      refine rnOne 0 rfl (by kernel_rfl) rfl (fun K hK => ?_)
      go_simp
      (with_reducible refine (rNew_any 1000 _).mono ?_)
      rintro e w6 ⟨rfl, hb6⟩
      have hS2 := hS.trans (hb6.mono hS.size)
      have BN := Lib.hid hS2
      rw [show Dk.fits 1000 = 1000 from rfl]
      have N7 := Lib.hid (blk_on N00.out hb6)
      clear hb6
      clear hS
      have hS := hS2
      clear hS2
      refine hK.out _ _ hS (fun _ => ?_)
      clear hK K
      try simp only [Act.put, List.setIfInBounds_toArray, List.set_cons_zero, List.set_cons_succ]
      refine rnOne 3 rfl (by kernel_rfl) rfl (fun K hK => ?_)
      go_simp
      (with_reducible refine (CWR.out _).mono ?_)
      rintro e w7 ⟨rfl, hb7⟩
      have hS2 := hS.trans (hb7.mono hS.size)
      have BS := Lib.hid hS2
      have N8 := Lib.hid (blk_on N7.out hb7)
      obtain ⟨r0, r1, r2, r3, r4, r5⟩ := s_facts6 N8.out
      clear hb7
      clear hS
      have hS := hS2
      clear hS2
      refine hK.out _ _ hS (fun _ => ?_)
      clear hK K
      try simp only [Act.put, List.setIfInBounds_toArray, List.set_cons_zero, List.set_cons_succ]
      refine tkYes 4 (v := ?_) rfl (by kernel_rfl) (fun _ _ _ h => h) rfl ?_ hS ?_
      rotate_left
      · intro W hW; go_simp; (try with_reducible rfl)
      simp only [Act.put, List.setIfInBounds_toArray, List.set_cons_zero, List.set_cons_succ]
      refine tkYes 5 (v := ?_) rfl (by kernel_rfl) (fun _ _ _ h => h) rfl ?_ hS ?_
      rotate_left
      · intro W hW; go_simp; (try with_reducible rfl)
      simp only [Act.put, List.setIfInBounds_toArray, List.set_cons_zero, List.set_cons_succ]
      refine tkYes 6 (v := ?_) rfl (by kernel_rfl) (fun _ _ _ h => h) rfl ?_ hS ?_
      rotate_left
      · intro W hW; go_simp; (try with_reducible rfl)
      simp only [Act.put, List.setIfInBounds_toArray, List.set_cons_zero, List.set_cons_succ]
      refine rnOne 8 rfl (by kernel_rfl) rfl (fun K hK => ?_)
      go_simp
      have hS2 := hS.grown (put3_grown _ w4.heap.size (.int .i64 (d1.room : Nat)) (.string (tA d1)) (.string (tB d1))) hS.size (fun i hi => by injection hi with hi; rw [← hi]; exact G0.out)
      have N9 := Lib.hid (put3_heap N8.out (.int .i64 (d1.room : Nat)) (.string (tA d1)) (.string (tB d1)))
      clear hS
      have hS := hS2
      clear hS2
      refine hK.out _ _ hS (fun _ => ?_)
      clear hK K
      try simp only [Act.put, List.setIfInBounds_toArray, List.set_cons_zero, List.set_cons_succ]
      refine tkYes 9 (v := ?_) rfl (by kernel_rfl) (fun _ _ _ h => h) rfl ?_ hS ?_
      rotate_left
      · intro W hW; go_simp; (try with_reducible rfl)
      simp only [Act.put, List.setIfInBounds_toArray, List.set_cons_zero, List.set_cons_succ]
      refine wpAnyH_done (by kernel_rfl) ?_ _
      go_wp2_with fail
      go_meet
      case rel => exact ⟨_, rfl, N9.out, hS⟩
  case rest =>
    obtain ⟨g6, rfl, hg6, hb5⟩ := hcut
    have P5 := Lib.hid (P4.out.on HJ.out hb5)
    obtain ⟨r0, r1, r2, _⟩ := s_facts6 hg6
    clear hb5 P4
    go_wp2_with fail
    (with_reducible refine (CO.out _).mono ?_)
    rintro e w8 ⟨rfl, hb8⟩
    have hb8a := hb8.trans ((alloc_below w8 (.cells #[.int .i64 (d2.room : Nat), .string (tA d2), .string (tB d2)] 30)).mono hb8.size)
    have R8 : Hid (RefAt (w8.alloc (.cells #[.int .i64 (d2.room : Nat), .string (tA d2), .string (tB d2)] 30)) w8.heap.size d2) := heap_alloc_new w8 _
    obtain ⟨g8, hg8⟩ : ∃ g8, g8 = w8.heap.size := ⟨_, rfl⟩
    rw [← hg8] at R8
    obtain ⟨X', hX'⟩ : ∃ X' : Nat → Prop, X' = (fun i => w1.heap.size ≤ i ∧ i ≠ g8) := ⟨_, rfl⟩
    have P8 : Hid (JBX J w1 X' q r d2 (w8.alloc (.cells #[.int .i64 (d2.room : Nat), .string (tA d2), .string (tB d2)] 30))) := by
      have h8 := P5.out.on HJ.out hb8
      refine ⟨(P5.out.on HJ.out hb8a).below, HJ.out.below (HJ.out.more _ _ _ _ _ _ h8.jr (fun i hi hlt => ?_)) (alloc_below w8 _), fun i hi => ?_, fun i hi => ?_⟩
      · rw [hX']
        have hi2 : w1.heap.size ≤ i := hi
        exact ⟨hi2, by omega⟩
      · rw [hX'] at hi
        exact hi.1
      · rw [hX']
        have h1 := h8.below.size
        simp at hi
        exact ⟨by omega, by omega⟩
    have GX : Hid (¬ X' g8) := by
      show ¬ _
      rw [hX']
      exact fun hx => hx.2 rfl
    have HG8 := Lib.hid hg8
    have C9 := Lib.hid (jb_again HJ.out _ P8.out HOO.out)
    clear hb8 hb8a P5 hg6 r0 r1 r2 hg8 hX'
    go_wp2_with fail
    rw [← HG8.out]
    (with_reducible refine C9.out.mono ?_)
    rintro e w9 ⟨q', rfl, hp9, hp9', hk9⟩
    clear C9
    have K9 := Lib.hid hk9
    have P9 := Lib.hid hp9
    have Q9 := Lib.hid hp9'
    have R9 : Hid (RefAt w9 g8 d2) := ref_kept R8.out hk9 GX.out
    clear hp9 hp9' hk9 P8 R8 K9
    obtain ⟨ls, hls⟩ : ∃ ls, ls = Jn.ents d2 := ⟨_, rfl⟩
    obtain ⟨x1, hx1⟩ : ∃ x1, x1 = ls.length := ⟨_, rfl⟩
    have b1 : x1 ≤ 1048576 := by rw [hx1, hls]; exact Jn.scan_small (HJ.out.okay _ _ _ _ _ P9.out.jr).1
    rw [← hls, ← hx1] at CA
    have CJ : Hid (∀ W q, JBX J w1 X' q r d2 W → Calls Try.prog 28 #[.pointer (some ⟨q, 0, none⟩)] W (fun e w' => ∃ A c, e = .returned (.slice A x1 c) ∧ OwnS w' W.heap.size (.slice A x1 c) ls ∧ JBX J w1 X' q r d2 w' ∧ Below W.heap.size W w')) := by
      intro W q hq
      have := jAll_b HJ.out W hq
      rw [← hls] at this
      unfold JBAll at this
      rw [← hx1] at this
      exact this
    have HX1 := Lib.hid hx1
    have CL : Hid (∀ W, JBX J w1 X' q r d2 W → Calls Try.prog 35 #[.pointer (some ⟨r, 0, none⟩)] W (APost W (.int .i64 (k : Nat)))) := by
      intro W hq
      have := dLen_x W (HJ.out.disk _ _ _ _ _ hq.jr)
      rw [HL2.out] at this
      exact this
    have CS : Hid (∀ W, JBX J w1 X' q r d2 W → Calls Try.prog 36 #[.pointer (some ⟨r, 0, none⟩)] W (APost W (.int .i64 (k : Nat)))) := by
      intro W hq
      have := dSafe_x W (HJ.out.disk _ _ _ _ _ hq.jr)
      rw [HSF.out] at this
      exact this
    have hwk : IntKind.i64.wrap ((m : Int) - ((m : Int) - (k : Int))) = (k : Int) := by
      rw [show (m : Int) - ((m : Int) - (k : Int)) = (k : Int) from by omega]
      exact IntWalk.i64_in _ (by omega)
    clear hls hx1
    go_upto_region 10 with fail
    have PD := Lib.hid (P9.out.on HJ.out (Below.refl w9.heap.size w9).drew)
    have QD := Lib.hid (Q9.out.on HJ.out (Below.refl w9.heap.size w9).drew)
    have RD := Lib.hid (R9.out.on (Below.refl w9.heap.size w9).drew)
    clear P9 Q9 R9
    refine wp_region_held_drew (S := fun W => RefAt W g8 d2) (by kernel_rfl) RD.out (fun hS => ?_)
    refine tkYes 0 (v := ?_) rfl (by kernel_rfl) (fun _ _ _ h => h) rfl ?_ hS ?_
    rotate_left
    · intro W hW; go_simp; (try with_reducible rfl)
    simp only [Act.put, List.setIfInBounds_toArray, List.set_cons_zero, List.set_cons_succ]
    refine tkYes 1 (v := ?_) rfl (by kernel_rfl) (fun _ _ _ h => h) rfl ?_ hS ?_
    rotate_left
    · intro W hW; go_simp; (try with_reducible rfl)
    simp only [Act.put, List.setIfInBounds_toArray, List.set_cons_zero, List.set_cons_succ]
    refine tkYes 2 (v := ?_) rfl (by kernel_rfl) (fun _ _ _ h => h) rfl ?_ hS ?_
    rotate_left
    · intro W hW; go_simp; (try with_reducible rfl)
    simp only [Act.put, List.setIfInBounds_toArray, List.set_cons_zero, List.set_cons_succ]
    refine tkYes 3 (v := ?_) rfl (by kernel_rfl) (fun _ _ _ h => h) rfl ?_ hS ?_
    rotate_left
    · intro W hW; go_simp; (try with_reducible rfl)
    simp only [Act.put, List.setIfInBounds_toArray, List.set_cons_zero, List.set_cons_succ]
    refine tkYes 4 (v := ?_) rfl (by kernel_rfl) (fun _ _ _ h => h) rfl ?_ hS ?_
    rotate_left
    · intro W hW; go_simp; (try with_reducible rfl)
    simp only [Act.put, List.setIfInBounds_toArray, List.set_cons_zero, List.set_cons_succ]
    refine tkYes 6 (v := ?_) rfl (by kernel_rfl) (fun _ _ _ h => h) rfl ?_ hS ?_
    rotate_left
    · intro W hW; obtain ⟨q0, q1, q2, _⟩ := RefAt.facts (show RefAt W g8 d2 from hW); go_simp; (try with_reducible rfl)
    simp only [Act.put, List.setIfInBounds_toArray, List.set_cons_zero, List.set_cons_succ]
    refine rnOne 5 rfl (by kernel_rfl) rfl (fun K hK => ?_)
    go_simp
    (with_reducible refine (CJ.out _ _ PD.out).mono ?_)
    rintro e v1 ⟨A1, c1, rfl, ho1, _, hbX⟩
    have O1 := Lib.hid (sls_own' HX1.out ho1)
    clear ho1
    replace RD := Lib.hid (RD.out.on hbX)
    replace PD := Lib.hid (PD.out.on HJ.out hbX)
    replace QD := Lib.hid (QD.out.on HJ.out hbX)
    clear hS hbX
    have hS := RD.out
    refine hK.out _ _ hS (fun _ => ?_)
    clear hK K
    try simp only [Act.put, List.setIfInBounds_toArray, List.set_cons_zero, List.set_cons_succ]
    refine rnOne 7 rfl (by kernel_rfl) rfl (fun K hK => ?_)
    go_simp
    (with_reducible refine (CA.out _).mono ?_)
    rintro e v2 ⟨A2, c2, rfl, ho2, hbX⟩
    have O2 := Lib.hid (sls_own' HX1.out ho2)
    replace O1 := Lib.hid (O1.out.on hbX)
    clear ho2
    replace RD := Lib.hid (RD.out.on hbX)
    replace PD := Lib.hid (PD.out.on HJ.out hbX)
    replace QD := Lib.hid (QD.out.on HJ.out hbX)
    clear hS hbX
    have hS := RD.out
    refine hK.out _ _ hS (fun _ => ?_)
    clear hK K
    try simp only [Act.put, List.setIfInBounds_toArray, List.set_cons_zero, List.set_cons_succ]
    refine rnOne 8 rfl (by kernel_rfl) rfl (fun K hK => ?_)
    go_simp
    (with_reducible refine (frSame_any x1 c1 c2 A1 A2 ls _ O1.out O2.out (by omega)).mono ?_)
    rintro e v3 ⟨rfl, dd, rfl⟩
    have hbX := Below.drewN (Below.refl v2.heap.size v2) dd
    replace RD := Lib.hid (RD.out.on hbX)
    replace PD := Lib.hid (PD.out.on HJ.out hbX)
    replace QD := Lib.hid (QD.out.on HJ.out hbX)
    clear hS hbX
    have hS := RD.out
    refine hK.out _ _ hS (fun _ => ?_)
    clear hK K
    try simp only [Act.put, List.setIfInBounds_toArray, List.set_cons_zero, List.set_cons_succ]
    refine tkYes 9 (v := ?_) rfl (by kernel_rfl) (fun _ _ _ h => h) rfl ?_ hS ?_
    rotate_left
    · intro W hW; go_simp; (try with_reducible rfl)
    simp only [Act.put, List.setIfInBounds_toArray, List.set_cons_zero, List.set_cons_succ]
    refine tkYes 10 (v := ?_) rfl (by kernel_rfl) (fun _ _ _ h => h) rfl ?_ hS ?_
    rotate_left
    · intro W hW; go_simp; (try with_reducible rfl)
    simp only [Act.put, List.setIfInBounds_toArray, List.set_cons_zero, List.set_cons_succ]
    refine tkYes 11 (v := ?_) rfl (by kernel_rfl) (fun _ _ _ h => h) rfl ?_ hS ?_
    rotate_left
    · intro W hW; go_simp; (try with_reducible rfl)
    simp only [Act.put, List.setIfInBounds_toArray, List.set_cons_zero, List.set_cons_succ]
    refine tkYes 13 (v := ?_) rfl (by kernel_rfl) (fun _ _ _ h => h) rfl ?_ hS ?_
    rotate_left
    · intro W hW; go_simp; (try with_reducible rfl)
    simp only [Act.put, List.setIfInBounds_toArray, List.set_cons_zero, List.set_cons_succ]
    refine tkYes 14 (v := ?_) rfl (by kernel_rfl) (fun _ _ _ h => h) rfl ?_ hS ?_
    rotate_left
    · intro W hW; go_simp; (try with_reducible rfl)
    simp only [Act.put, List.setIfInBounds_toArray, List.set_cons_zero, List.set_cons_succ]
    refine tkYes 15 (v := ?_) rfl (by kernel_rfl) (fun _ _ _ h => h) rfl ?_ hS ?_
    rotate_left
    · intro W hW; go_simp; (try with_reducible rfl)
    simp only [Act.put, List.setIfInBounds_toArray, List.set_cons_zero, List.set_cons_succ]
    refine tkYes 16 (v := ?_) rfl (by kernel_rfl) (fun _ _ _ h => h) rfl ?_ hS ?_
    rotate_left
    · intro W hW; go_simp; (try with_reducible rfl)
    simp only [Act.put, List.setIfInBounds_toArray, List.set_cons_zero, List.set_cons_succ]
    refine rnOne 12 rfl (by kernel_rfl) rfl (fun K hK => ?_)
    go_simp
    (with_reducible refine (CL.out _ PD.out).mono ?_)
    rintro e v4 ⟨rfl, hbX⟩
    replace RD := Lib.hid (RD.out.on hbX)
    replace PD := Lib.hid (PD.out.on HJ.out hbX)
    replace QD := Lib.hid (QD.out.on HJ.out hbX)
    clear hS hbX
    have hS := RD.out
    refine hK.out _ _ hS (fun _ => ?_)
    clear hK K
    try simp only [Act.put, List.setIfInBounds_toArray, List.set_cons_zero, List.set_cons_succ]
    refine tkYes 17 (v := ?_) rfl (by kernel_rfl) (fun _ _ _ h => h) rfl ?_ hS ?_
    rotate_left
    · intro W hW; go_simp; (try with_reducible rfl)
    simp only [Act.put, List.setIfInBounds_toArray, List.set_cons_zero, List.set_cons_succ]
    refine tkYes 18 (v := ?_) rfl (by kernel_rfl) (fun _ _ _ h => h) rfl ?_ hS ?_
    rotate_left
    · intro W hW; go_simp; (try with_reducible rfl)
    simp only [Act.put, List.setIfInBounds_toArray, List.set_cons_zero, List.set_cons_succ]
    refine tkYes 19 (v := ?_) rfl (by kernel_rfl) (fun _ _ _ h => h) rfl ?_ hS ?_
    rotate_left
    · intro W hW; go_simp; (try with_reducible rfl)
    simp only [Act.put, List.setIfInBounds_toArray, List.set_cons_zero, List.set_cons_succ]
    refine tkYes 20 (v := ?_) rfl (by kernel_rfl) (fun _ _ _ h => h) rfl ?_ hS ?_
    rotate_left
    · intro W hW; go_simp; (try with_reducible rfl)
    simp only [Act.put, List.setIfInBounds_toArray, List.set_cons_zero, List.set_cons_succ]
    refine tkYes 21 (v := ?_) rfl (by kernel_rfl) (fun _ _ _ h => h) rfl ?_ hS ?_
    rotate_left
    · intro W hW; go_simp; (try with_reducible rfl)
    simp only [Act.put, List.setIfInBounds_toArray, List.set_cons_zero, List.set_cons_succ]
    refine tkYes 22 (v := ?_) rfl (by kernel_rfl) (fun _ _ _ h => h) rfl ?_ hS ?_
    rotate_left
    · intro W hW; go_simp; (try with_reducible rfl)
    simp only [Act.put, List.setIfInBounds_toArray, List.set_cons_zero, List.set_cons_succ]
    refine tkYes 23 (v := ?_) rfl (by kernel_rfl) (fun _ _ _ h => h) rfl ?_ hS ?_
    rotate_left
    · intro W hW; go_simp; (try with_reducible rfl)
    simp only [Act.put, List.setIfInBounds_toArray, List.set_cons_zero, List.set_cons_succ]
    refine tkYes 24 (v := ?_) rfl (by kernel_rfl) (fun _ _ _ h => h) rfl ?_ hS ?_
    rotate_left
    · intro W hW; go_simp; (try with_reducible rfl)
    simp only [Act.put, List.setIfInBounds_toArray, List.set_cons_zero, List.set_cons_succ]
    refine tkYes 26 (v := ?_) rfl (by kernel_rfl) (fun _ _ _ h => h) rfl ?_ hS ?_
    rotate_left
    · intro W hW; go_simp; (try with_reducible rfl)
    simp only [Act.put, List.setIfInBounds_toArray, List.set_cons_zero, List.set_cons_succ]
    refine rnOne 25 rfl (by kernel_rfl) rfl (fun K hK => ?_)
    go_simp
    (with_reducible refine (CJ.out _ _ QD.out).mono ?_)
    rintro e v5 ⟨A5, c5, rfl, ho5, _, hbX⟩
    have O5 := Lib.hid (sls_own' HX1.out ho5)
    clear ho5
    replace RD := Lib.hid (RD.out.on hbX)
    replace PD := Lib.hid (PD.out.on HJ.out hbX)
    replace QD := Lib.hid (QD.out.on HJ.out hbX)
    clear hS hbX
    have hS := RD.out
    refine hK.out _ _ hS (fun _ => ?_)
    clear hK K
    try simp only [Act.put, List.setIfInBounds_toArray, List.set_cons_zero, List.set_cons_succ]
    refine rnOne 27 rfl (by kernel_rfl) rfl (fun K hK => ?_)
    go_simp
    (with_reducible refine (CJ.out _ _ PD.out).mono ?_)
    rintro e v6 ⟨A6, c6, rfl, ho6, _, hbX⟩
    have O6 := Lib.hid (sls_own' HX1.out ho6)
    replace O5 := Lib.hid (O5.out.on hbX)
    clear ho6
    replace RD := Lib.hid (RD.out.on hbX)
    replace PD := Lib.hid (PD.out.on HJ.out hbX)
    replace QD := Lib.hid (QD.out.on HJ.out hbX)
    clear hS hbX
    have hS := RD.out
    refine hK.out _ _ hS (fun _ => ?_)
    clear hK K
    try simp only [Act.put, List.setIfInBounds_toArray, List.set_cons_zero, List.set_cons_succ]
    refine rnOne 28 rfl (by kernel_rfl) rfl (fun K hK => ?_)
    go_simp
    (with_reducible refine (frSame_any x1 c5 c6 A5 A6 ls _ O5.out O6.out (by omega)).mono ?_)
    rintro e v7 ⟨rfl, dd, rfl⟩
    have hbX := Below.drewN (Below.refl v6.heap.size v6) dd
    replace RD := Lib.hid (RD.out.on hbX)
    replace PD := Lib.hid (PD.out.on HJ.out hbX)
    replace QD := Lib.hid (QD.out.on HJ.out hbX)
    clear hS hbX
    have hS := RD.out
    refine hK.out _ _ hS (fun _ => ?_)
    clear hK K
    try simp only [Act.put, List.setIfInBounds_toArray, List.set_cons_zero, List.set_cons_succ]
    refine tkYes 29 (v := ?_) rfl (by kernel_rfl) (fun _ _ _ h => h) rfl ?_ hS ?_
    rotate_left
    · intro W hW; go_simp; (try with_reducible rfl)
    simp only [Act.put, List.setIfInBounds_toArray, List.set_cons_zero, List.set_cons_succ]
    refine tkYes 30 (v := ?_) rfl (by kernel_rfl) (fun _ _ _ h => h) rfl ?_ hS ?_
    rotate_left
    · intro W hW; go_simp; (try with_reducible rfl)
    simp only [Act.put, List.setIfInBounds_toArray, List.set_cons_zero, List.set_cons_succ]
    refine tkYes 31 (v := ?_) rfl (by kernel_rfl) (fun _ _ _ h => h) rfl ?_ hS ?_
    rotate_left
    · intro W hW; go_simp; (try with_reducible rfl)
    simp only [Act.put, List.setIfInBounds_toArray, List.set_cons_zero, List.set_cons_succ]
    refine tkYes 33 (v := ?_) rfl (by kernel_rfl) (fun _ _ _ h => h) rfl ?_ hS ?_
    rotate_left
    · intro W hW; go_simp; (try with_reducible rfl)
    simp only [Act.put, List.setIfInBounds_toArray, List.set_cons_zero, List.set_cons_succ]
    refine rnOne 32 rfl (by kernel_rfl) rfl (fun K hK => ?_)
    go_simp
    (with_reducible refine (CS.out _ PD.out).mono ?_)
    rintro e v8 ⟨rfl, hbX⟩
    replace RD := Lib.hid (RD.out.on hbX)
    replace PD := Lib.hid (PD.out.on HJ.out hbX)
    replace QD := Lib.hid (QD.out.on HJ.out hbX)
    clear hS hbX
    have hS := RD.out
    refine hK.out _ _ hS (fun _ => ?_)
    clear hK K
    try simp only [Act.put, List.setIfInBounds_toArray, List.set_cons_zero, List.set_cons_succ]
    refine rnOne 34 rfl (by kernel_rfl) rfl (fun K hK => ?_)
    go_simp
    (with_reducible refine (CL.out _ PD.out).mono ?_)
    rintro e v9 ⟨rfl, hbX⟩
    replace RD := Lib.hid (RD.out.on hbX)
    replace PD := Lib.hid (PD.out.on HJ.out hbX)
    replace QD := Lib.hid (QD.out.on HJ.out hbX)
    clear hS hbX
    have hS := RD.out
    refine hK.out _ _ hS (fun _ => ?_)
    clear hK K
    try simp only [Act.put, List.setIfInBounds_toArray, List.set_cons_zero, List.set_cons_succ]
    refine tkYes 35 (v := ?_) rfl (by kernel_rfl) (fun _ _ _ h => h) rfl ?_ hS ?_
    rotate_left
    · intro W hW; go_simp; (try with_reducible rfl)
    simp only [Act.put, List.setIfInBounds_toArray, List.set_cons_zero, List.set_cons_succ]
    refine tkYes 36 (v := ?_) rfl (by kernel_rfl) (fun _ _ _ h => h) rfl ?_ hS ?_
    rotate_left
    · intro W hW; go_simp; (try with_reducible rfl)
    simp only [Act.put, List.setIfInBounds_toArray, List.set_cons_zero, List.set_cons_succ]
    refine tkYes 37 (v := ?_) rfl (by kernel_rfl) (fun _ _ _ h => h) rfl ?_ hS ?_
    rotate_left
    · intro W hW; go_simp; (try with_reducible rfl)
    simp only [Act.put, List.setIfInBounds_toArray, List.set_cons_zero, List.set_cons_succ]
    refine wpAnyH_done (by kernel_rfl) ?_ _
    go_wp2_with fail
    go_ret
    exact ⟨rfl, B1.out.trans (PD.out.below.mono B1.out.size)⟩
end Go.Proofs.Ytdamnamhbjfnlaa
