/-
  The walk of NetPlays. Written by wip/tools/gen/ntplays.py. No condition.
-/
import Derived.Test.YtmhhjipdbfepiaaNtP1
import Derived.Test.YtmhhjipdbfepiaaNtLives
import Derived.Test.YtmhhjipdbfepiaaNtArg
namespace Go.Proofs.Ytmhhjipdbfepiaa
open Go.RowKit Go.Deep
set_option maxRecDepth 100000
set_option linter.unusedSimpArgs false
set_option linter.unusedVariables false

theorem take_np {w : World} {op : Oper} {a : Act} (y : Operand) (ho : op.op = .load 34 y) (b o : Nat) (p : Np) (hx : a.eval y = .pointer (some ⟨b, o, none⟩)) (h : w.rangeAt b o (npC p)) : (execOp a.eval op).run Try.prog w = .ok (.value (npV p)) w := by
  have := run_loadVar_mid (P := Try.prog) w b o 34 (npC p) _ h np_fields rfl (np_size p)
  unfold execOp
  simp only [ho, hx, Instr.loadAt, Instr.sureAddr, Sem.run_bind, Sem.run_pure, Result.andThen_ok, this]
  rfl
set_option maxHeartbeats 12800000 in
theorem netplays_walk (room : Int) (A : Option Addr) (k c : Nat) (l : List Np) (unit : Int) (w : World) (hs : SlN w A k c l) : Calls Try.prog 3 #[.int .i64 room, .slice A k c, .int .i64 unit] w (NPos w (.bool true)) := by
  have CL := Lib.hid (ntlives_any w)
  have CE := Lib.hid (fun W => npearly_any A k c l w W hs)
  obtain ⟨n, hn⟩ : ∃ n, n = min k 100 := ⟨_, rfl⟩
  rw [← hn] at CE
  have hs1 := hs.1.take npC_len (k := n) (by omega)
  have hcm := hs1.max
  have hkc := hs1.cap
  have hc63 : (c : Int) ≤ 9223372036854775807 := by unfold maxLen at hcm; omega
  have hn100 : n ≤ 100 := by omega
  have LN : Hid ((l.take n).length = n) := by show _ = _; have := hs.1.len; rw [List.length_take]; omega
  have INN : Hid (∀ x ∈ l.take n, NpIn x) := fun x hx => hs.2 x (List.mem_of_mem_take hx)
  have S := Lib.hid hs1
  clear hs hs1 hn hcm
  generalize l.take n = es at *
  have CR := Lib.hid (fun W => rtnew_any room W)
  have PSM := Lib.hid (fun (r : Nat) (W : World) (h : NAt w (fun _ => False) r (Nt.new room) W) => ps_make h)
  obtain ⟨s0, hs0⟩ : ∃ s0, s0 = Nt.new room := ⟨_, rfl⟩
  have BD0 : Hid (Bd s0 0) := by rw [hs0]; exact ⟨⟨Int.le_refl _, Int.le_refl _⟩, ⟨Int.le_refl _, Int.le_refl _⟩, by omega⟩
  have CN := Lib.hid (fun (W : World) (hb : Below w.heap.size w W) => nat_new (w0 := w) (W := W) (F := fun _ => False) room hb (fun b h => h.elim))
  rw [← hs0] at CR PSM CN
  obtain ⟨rm, hrm⟩ : ∃ rm : Int, rm = (s0.room : Nat) := ⟨_, rfl⟩
  rw [← hrm] at CR PSM
  clear hs0 hrm
  go_enter Try.func3, Try.ntmps3
  go_upto_region 4 with (first
    | (go_at_call 9; (with_reducible refine CL.out.mono ?_); rintro e w1 ⟨rfl, hb⟩; have B1 := Lib.hid hb; clear hb CL)
    | (go_at_call 10; (with_reducible refine (CN.out _ B1.out).mono ?_); rintro e w2 ⟨r, rfl, hn, _⟩; have N2 := Lib.hid hn; clear hn)
    | (go_at_call 11; (with_reducible refine (CR.out _).mono ?_); rintro e w3 ⟨rfl, hb⟩; have N3 := Lib.hid (N2.out.on hb); clear hb))
  have PS0 := Lib.hid (PSM.out r w3 N3.out)
  obtain ⟨g, hg⟩ : ∃ g, g = w3.heap.size := ⟨_, rfl⟩
  rw [← hg] at PS0 ⊢
  clear hg PSM CN CR N2 N3 B1
  generalize w3.alloc (.cells #[.int .i64 rm, .slice none 0 0, .int .i64 0, .int .i64 0] 28) = w4 at *
  go_upto_region 5 with (go_at_call 12; (with_reducible refine (CE.out _).mono ?_); rintro e wz ⟨rfl, hw⟩; rw [hw]; clear hw wz)
  clear CE
  go_wp2_with fail
  go_loopw [9] (fun i wr => ∃ (j : Nat) (s : Nt.St), j ≤ n ∧ i = .int .i64 j ∧ Bd s j ∧ PS w r g s wr) (fun i _ => n - (intOf i).toNat)
  case atStart => exact ⟨0, s0, by omega, rfl, BD0.out, PS0.out⟩
  case round =>
    clear BD0 PS0
    obtain ⟨j, s, hj, rfl, hbd, A1, c1, hnr, hpm⟩ := hrel
    have BD := Lib.hid hbd
    have R := Lib.hid hnr
    have P := Lib.hid hpm
    clear hbd hnr hpm
    by_cases hlt : j < n
    · have hjl : j < es.length := by have := LN.out; omega
      have EX : Hid (es[j]? = some es[j]) := List.getElem?_eq_getElem hjl
      have HIN : Hid (NpIn es[j]) := INN.out _ (List.getElem_mem hjl)
      generalize es[j] = x at EX HIN
      obtain ⟨b, o, rfl, hbl, hrg⟩ := np_range (S.out.on P.out.na.below) EX.out
      have RG := Lib.hid hrg
      have i1 : (0 : Int) ≤ (j : Int) := by omega
      have i2 : (j : Int) < (n : Int) := by omega
      have hj1 : j < 100 := by omega
      have hb1 : Below wr.heap.size wr (wr.alloc (.cells (npCs x) 34)) := (Below.refl _ _).alloc (Nat.le_refl _) _
      have GLT := Lib.hid P.out.lt
      have P1 := Lib.hid (P.out.on hb1)
      have R1 := Lib.hid (R.out.on hb1)
      have X1 := Lib.hid (NpAt.new wr x)
      have CK := Lib.hid (fun W => npkind_any x W)
      clear hrg hbl hb1 P R
      rcases npK_cases x with hk | hk | hk | hk | hk
      · rw [hk] at CK
        clear hk
        have BD2 := Lib.hid (BD.out.send hj1 (npM x))
        have CS := Lib.hid (fun (E : Nat → Prop) (W : World) (h : PM w r g s A1 c1 s E W) => rts_send (w := W) h.na.ok BD.out.lo1 BD.out.se1 (npM x) h.sl)
        have CN := Lib.hid (fun (A5 : Option Addr) (c5 : Nat) (s3 : Nt.St) (E : Nat → Prop) (W : World) (h : PM w r g s A5 c5 s3 E W) => nat_send h.na (npM x) (npM_in HIN.out) BD.out.lo1 BD.out.se1)
        obtain ⟨s2, hs2⟩ : ∃ s2, s2 = Nt.sendS s (npM x) := ⟨_, rfl⟩
        rw [← hs2] at BD2 CS CN
        clear hs2
        generalize Nt.sendE s (npM x) = ee at CS CN

        go_upto_region 13 with (first
          | ((with_reducible show wpList _ _ _ ({ dst := some 40, op := .load _ _, type := _, pos := _, after := _, guard := _ } :: _) _ _); refine wpList_load_np rfl (.tmp 39) rfl b (o + j * 8) rfl x RG.out ?_)
          | ((with_reducible show wpList _ _ _ ({ dst := some 41, op := .load _ _, type := _, pos := _, after := _, guard := _ } :: _) _ _); refine wpList_load_np rfl (.tmp 10) rfl wr.heap.size 0 rfl x X1.out.range ?_)
          | (go_at_call 13; (with_reducible refine (CK.out _).mono ?_); rintro e w3 ⟨rfl, hb⟩; have P := Lib.hid (P1.out.on hb); have R := Lib.hid (R1.out.on hb); have X := Lib.hid (X1.out.on hb); have B3 := Lib.hid hb.size; clear hb))
        obtain ⟨q0, hq0⟩ : ∃ q, q = wr.heap.size := ⟨_, rfl⟩
        have HQ0 : Hid (g < q0 ∧ q0 < w3.heap.size) := by show _ ∧ _; rw [hq0]; exact ⟨GLT.out, X.out.cs.2.2⟩
        rw [← hq0] at X ⊢
        clear hq0 P1 R1 X1 CK RG

        have D3 := Lib.hid ((Below.refl w3.heap.size w3).drew)
        have P := Lib.hid (P.out.on D3.out)
        have R := Lib.hid (R.out.on D3.out)
        have X := Lib.hid (X.out.on D3.out)
        clear D3
        generalize hwd : w3.drew = wd at *
        refine wp_region_held_drew (S := fun W => NrAt W g (s.room : Nat) (.slice A1 s.l.length c1) s.sent s.lost ∧ NpAt W q0 x) (by kernel_rfl) (by rw [hwd]; exact ⟨R.out, X.out⟩) (fun hS => ?_)
        rw [hwd] at hS ⊢
        clear hwd R X
        refine tkYes 0 (v := nrV (s.room : Nat) (.slice A1 s.l.length c1) s.sent s.lost) rfl (by kernel_rfl) (fun _ _ _ h => h) rfl (fun W hW => take_nr (.tmp 8) rfl rfl hW.1) hS ?_
        simp only [Act.put, List.setIfInBounds_toArray, List.set_cons_zero, List.set_cons_succ]
        refine tkYes 1 (v := npV x) rfl (by kernel_rfl) (fun _ _ _ h => h) rfl (fun W hW => take_np (.tmp 10) rfl q0 0 x rfl hW.2.range) hS ?_
        simp only [Act.put, List.setIfInBounds_toArray, List.set_cons_zero, List.set_cons_succ]
        refine rnTwo 2 7 rfl rfl (by kernel_rfl) rfl rfl (fun K hK => ?_) (fun K hK => ?_)
        · go_simp
          with_reducible refine (npmsg_any x _).mono ?_
          rintro e w4 ⟨rfl, hb4⟩
          have P := Lib.hid (P.out.on hb4)
  
          have hS2 : NrAt w4 g (s.room : Nat) (.slice A1 s.l.length c1) s.sent s.lost ∧ NpAt w4 q0 x := ⟨hS.1.on hb4, hS.2.on hb4⟩
          clear hS
          have hS := hS2
          clear hS2
          clear hb4
          refine hK.out _ _ hS (fun _ => ?_)
          clear hK K
          try simp only [Act.put, List.setIfInBounds_toArray, List.set_cons_zero, List.set_cons_succ]
          refine rnTwo 3 7 rfl rfl (by kernel_rfl) rfl rfl (fun K hK => ?_) (fun K hK => ?_)
          · go_simp
            with_reducible refine (CS.out _ _ P.out).mono ?_
            rintro e w5 hp5
            obtain ⟨A5, c5, rfl, hpm, hb5⟩ := P.out.ref hp5
            have P := Lib.hid hpm
    
            have hS2 : NrAt w5 g (s.room : Nat) (.slice A1 s.l.length c1) s.sent s.lost ∧ NpAt w5 q0 x := ⟨hS.1.on hb5, hS.2.on hb5⟩
            clear hS
            have hS := hS2
            clear hS2
            clear hp5 hpm hb5
            refine hK.out _ _ hS (fun _ => ?_)
            clear hK K
            try simp only [Act.put, List.setIfInBounds_toArray, List.set_cons_zero, List.set_cons_succ]
            refine tkYes 4 (v := ?_) rfl (by kernel_rfl) (fun _ _ _ h => h) rfl ?_ hS ?_
            rotate_left
            · intro W hW; go_simp; (try with_reducible rfl)
            simp only [Act.put, List.setIfInBounds_toArray, List.set_cons_zero, List.set_cons_succ]
            refine tkYes 5 (v := ?_) rfl (by kernel_rfl) (fun _ _ _ h => h) rfl ?_ hS ?_
            rotate_left
            · intro W hW; go_simp; (try with_reducible rfl)
            simp only [Act.put, List.setIfInBounds_toArray, List.set_cons_zero, List.set_cons_succ]
            refine tkYes 6 (v := ?_) rfl (by kernel_rfl) (fun _ _ _ h => h) rfl ?_ hS ?_
            rotate_left
            · intro W hW; go_simp; (try with_reducible rfl)
            simp only [Act.put, List.setIfInBounds_toArray, List.set_cons_zero, List.set_cons_succ]
            refine rnOne 7 rfl (by kernel_rfl) rfl (fun K hK => ?_)
            go_simp
            have hb7 : Below w5.heap.size w5 (w5.alloc (.cells #[.int .i64 0, .slice none 0 0, .int .i64 0, .int .i64 0] 28)) := (Below.refl _ _).alloc (Nat.le_refl _) _
            have Z := Lib.hid (NrAt.new w5 0 (.slice none 0 0) 0 0)
            have HQ1 : Hid (g < w5.heap.size ∧ q0 < w5.heap.size) := ⟨P.out.lt, hS.2.cs.2.2⟩
            have P := Lib.hid ((P.out.extra hb7).sub (E' := fun b => b = w5.heap.size) (by rintro b rfl; exact ⟨Nat.le_refl _, Z.out.cs.lt⟩))
            have hS2 : NrAt (w5.alloc (.cells #[.int .i64 0, .slice none 0 0, .int .i64 0, .int .i64 0] 28)) g (s.room : Nat) (.slice A1 s.l.length c1) s.sent s.lost ∧ NpAt (w5.alloc (.cells #[.int .i64 0, .slice none 0 0, .int .i64 0, .int .i64 0] 28)) q0 x := ⟨hS.1.on hb7, hS.2.on hb7⟩
            clear hS
            have hS := hS2
            clear hS2 hb7
            obtain ⟨q1, hq1⟩ : ∃ q, q = w5.heap.size := ⟨_, rfl⟩
            rw [← hq1] at Z HQ1 P ⊢
            clear hq1
            generalize w5.alloc (.cells #[.int .i64 0, .slice none 0 0, .int .i64 0, .int .i64 0] 28) = w6 at *
            refine hK.out _ _ hS (fun _ => ?_)
            clear hK K
            try simp only [Act.put, List.setIfInBounds_toArray, List.set_cons_zero, List.set_cons_succ]
            refine rnOne 8 rfl (by kernel_rfl) rfl (fun K hK => ?_)
            refine run_store_nr (.tmp 12) (.tmp 51) rfl rfl rfl rfl Z.out ?_
            intro w7 hx7 hg7
            have ZR := Lib.hid hx7
            have P := Lib.hid (P.out.at_ hg7 (.inr rfl) (by have := HQ1.out; have := P.out.ge; omega))
            have hS2 : NrAt w7 g (s.room : Nat) (.slice A1 s.l.length c1) s.sent s.lost ∧ NpAt w7 q0 x := ⟨hS.1.keep (hg7.block g hS.1.cs.lt (fun e => by injection e with e; have := HQ1.out; omega)), ⟨(hg7.block q0 hS.2.cs.2.2 (fun e => by injection e with e; have := HQ1.out; omega)).trans hS.2.row⟩⟩
            clear hS hx7 hg7
            have hS := hS2
            clear hS2
            refine hK.out _ _ hS (fun _ => ?_)
            clear hK K
            try simp only [Act.put, List.setIfInBounds_toArray, List.set_cons_zero, List.set_cons_succ]
            refine tkYes 9 (v := ?_) rfl (by kernel_rfl) (fun _ _ _ h => h) rfl ?_ hS ?_
            rotate_left
            · intro W hW; go_simp; (try with_reducible rfl)
            simp only [Act.put, List.setIfInBounds_toArray, List.set_cons_zero, List.set_cons_succ]
            refine wpAnyH_done (by kernel_rfl) ?_ _
            have R7 := Lib.hid hS.1
            have X7 := Lib.hid hS.2
            clear hS
            go_upto_region 29 with (first
              | ((with_reducible show wpList _ _ _ ({ dst := some 53, op := .load _ _, type := _, pos := _, after := _, guard := _ } :: _) _ _); refine wpList_load_nr rfl (.tmp 12) rfl rfl ZR.out ?_)
              | (((with_reducible show wpList _ _ _ ({ dst := none, op := .store _ _ _, type := _, pos := _, after := _, guard := _ } :: _) _ _); refine wpList_store_nr rfl (.tmp 8) (.tmp 53) rfl rfl rfl rfl R7.out ?_); intro w8 hx8 hg8; have R8 := Lib.hid hx8; have P8 := Lib.hid (P.out.store hg8); have X8 : Hid (NpAt w8 q0 x) := ⟨(hg8.block q0 X7.out.cs.2.2 (fun e => by injection e with e; have := HQ0.out; omega)).trans X7.out.row⟩; clear hx8 hg8)
              | ((with_reducible show wpList _ _ _ ({ dst := some 55, op := .load _ _, type := _, pos := _, after := _, guard := _ } :: _) _ _); refine wpList_load_np rfl (.tmp 10) rfl q0 0 rfl x X8.out.range ?_)
              | (go_at_call 15; (with_reducible refine (npmsg_any x _).mono ?_); rintro e w9 ⟨rfl, hb9⟩; have P9 := Lib.hid (P8.out.on hb9); have R9 := Lib.hid (R8.out.on hb9); clear hb9)
              | (go_at_call 16; (with_reducible refine (CN.out _ _ _ _ _ P9.out).mono ?_); rintro e wa hra; obtain ⟨rfl, hpa, hka⟩ := P9.out.res hra; have P := Lib.hid hpa; have R := Lib.hid (R9.out.keep (hka g (.inl rfl))); clear hra hpa hka))
            clear P8 P9 R7 R8 R9 X7 X8 ZR Z HQ1 CS CN
    
            obtain ⟨m2, hm2⟩ : ∃ m2, m2 = s2.l.length := ⟨_, rfl⟩
            obtain ⟨se2, hse2⟩ : ∃ se2, se2 = s2.sent := ⟨_, rfl⟩
            obtain ⟨lo2, hlo2⟩ : ∃ lo2, lo2 = s2.lost := ⟨_, rfl⟩
            have HM2 := Lib.hid hm2.symm
            have HSE2 := Lib.hid hse2.symm
            have HLO2 := Lib.hid hlo2.symm
            rw [← hm2, ← hse2, ← hlo2] at R
            clear hm2 hse2 hlo2
            have D9 := Lib.hid ((Below.refl wa.heap.size wa).drew)
            have P := Lib.hid (P.out.on D9.out)
            have R := Lib.hid (R.out.on D9.out)
            clear D9
            generalize hw10 : wa.drew = w10 at *
            refine wp_region_held_drew (S := fun W => PM w r g s2 A5 c5 s2 (fun _ => False) W ∧ NrAt W g (s2.room : Nat) (.slice A5 m2 c5) se2 lo2) (by kernel_rfl) (by rw [hw10]; exact ⟨P.out, R.out⟩) (fun hS => ?_)
            rw [hw10] at hS ⊢
            clear hw10 P R
            refine tkYes 0 (v := ?_) rfl (by kernel_rfl) (fun _ _ _ h => h) rfl ?_ hS ?_
            rotate_left
            · intro W hW; go_simp; (try with_reducible rfl)
            simp only [Act.put, List.setIfInBounds_toArray, List.set_cons_zero, List.set_cons_succ]
            refine tkYes 1 (v := ?_) rfl (by kernel_rfl) (fun _ _ _ h => h) rfl ?_ hS ?_
            rotate_left
            · intro W hW; go_simp; (try with_reducible rfl)
            simp only [Act.put, List.setIfInBounds_toArray, List.set_cons_zero, List.set_cons_succ]
            refine tkYes 2 (v := ?_) rfl (by kernel_rfl) (fun _ _ _ h => h) rfl ?_ hS ?_
            rotate_left
            · intro W hW; go_simp; (try with_reducible rfl)
            simp only [Act.put, List.setIfInBounds_toArray, List.set_cons_zero, List.set_cons_succ]
            refine tkYes 3 (v := ?_) rfl (by kernel_rfl) (fun _ _ _ h => h) rfl ?_ hS ?_
            rotate_left
            · intro W hW; go_simp; (try with_reducible rfl)
            simp only [Act.put, List.setIfInBounds_toArray, List.set_cons_zero, List.set_cons_succ]
            refine tkYes 5 (v := ?_) rfl (by kernel_rfl) (fun _ _ _ h => h) rfl ?_ hS ?_
            rotate_left
            · intro W hW; go_simp; (try with_reducible rfl)
            simp only [Act.put, List.setIfInBounds_toArray, List.set_cons_zero, List.set_cons_succ]
            refine tkYes 6 (v := ?_) rfl (by kernel_rfl) (fun _ _ _ h => h) rfl ?_ hS ?_
            rotate_left
            · intro W hW; obtain ⟨y0, y1, y2, y3, yf, yl⟩ := hW.2.cs; go_simp; (try with_reducible rfl)
            simp only [Act.put, List.setIfInBounds_toArray, List.set_cons_zero, List.set_cons_succ]
            refine rnOne 4 rfl (by kernel_rfl) rfl (fun K hK => ?_)
            go_simp
            with_reducible refine (p_all hS.1 HM2.out).mono ?_
            rintro e w11 ⟨A7, c7, rfl, hs7, hb7⟩
            have S7 := Lib.hid hs7
            have hS2 : PM w r g s2 A5 c5 s2 (fun _ => False) w11 ∧ NrAt w11 g (s2.room : Nat) (.slice A5 m2 c5) se2 lo2 := ⟨hS.1.on hb7, hS.2.on hb7⟩
            clear hS
            have hS := hS2
            clear hS2
            clear hs7 hb7
            refine hK.out _ _ hS (fun _ => ?_)
            clear hK K
            try simp only [Act.put, List.setIfInBounds_toArray, List.set_cons_zero, List.set_cons_succ]
            refine rnOne 7 rfl (by kernel_rfl) rfl (fun K hK => ?_)
            go_simp
            with_reducible refine (rtsame_eq A7 A5 m2 c7 c5 s2.l _ S7.out (HM2.out ▸ hS.1.sl)).mono ?_
            rintro e w12 ⟨rfl, hb8⟩
            have hS2 : PM w r g s2 A5 c5 s2 (fun _ => False) w12 ∧ NrAt w12 g (s2.room : Nat) (.slice A5 m2 c5) se2 lo2 := ⟨hS.1.on hb8, hS.2.on hb8⟩
            clear hS
            have hS := hS2
            clear hS2
            clear hb8
            refine hK.out _ _ hS (fun _ => ?_)
            clear hK K
            try simp only [Act.put, List.setIfInBounds_toArray, List.set_cons_zero, List.set_cons_succ]
            refine tkYes 8 (v := ?_) rfl (by kernel_rfl) (fun _ _ _ h => h) rfl ?_ hS ?_
            rotate_left
            · intro W hW; go_simp; (try with_reducible rfl)
            simp only [Act.put, List.setIfInBounds_toArray, List.set_cons_zero, List.set_cons_succ]
            refine tkYes 9 (v := ?_) rfl (by kernel_rfl) (fun _ _ _ h => h) rfl ?_ hS ?_
            rotate_left
            · intro W hW; go_simp; (try with_reducible rfl)
            simp only [Act.put, List.setIfInBounds_toArray, List.set_cons_zero, List.set_cons_succ]
            refine tkYes 10 (v := ?_) rfl (by kernel_rfl) (fun _ _ _ h => h) rfl ?_ hS ?_
            rotate_left
            · intro W hW; go_simp; (try with_reducible rfl)
            simp only [Act.put, List.setIfInBounds_toArray, List.set_cons_zero, List.set_cons_succ]
            refine tkYes 11 (v := ?_) rfl (by kernel_rfl) (fun _ _ _ h => h) rfl ?_ hS ?_
            rotate_left
            · intro W hW; go_simp; (try with_reducible rfl)
            simp only [Act.put, List.setIfInBounds_toArray, List.set_cons_zero, List.set_cons_succ]
            refine tkYes 13 (v := ?_) rfl (by kernel_rfl) (fun _ _ _ h => h) rfl ?_ hS ?_
            rotate_left
            · intro W hW; go_simp; (try with_reducible rfl)
            simp only [Act.put, List.setIfInBounds_toArray, List.set_cons_zero, List.set_cons_succ]
            refine tkYes 14 (v := ?_) rfl (by kernel_rfl) (fun _ _ _ h => h) rfl ?_ hS ?_
            rotate_left
            · intro W hW; obtain ⟨y0, y1, y2, y3, yf, yl⟩ := hW.2.cs; go_simp; (try with_reducible rfl)
            simp only [Act.put, List.setIfInBounds_toArray, List.set_cons_zero, List.set_cons_succ]
            refine tkYes 15 (v := ?_) rfl (by kernel_rfl) (fun _ _ _ h => h) rfl ?_ hS ?_
            rotate_left
            · intro W hW; go_simp; (try with_reducible rfl)
            simp only [Act.put, List.setIfInBounds_toArray, List.set_cons_zero, List.set_cons_succ]
            refine rnOne 12 rfl (by kernel_rfl) rfl (fun K hK => ?_)
            go_simp
            with_reducible refine (p_len hS.1 HM2.out).mono ?_
            rintro e wz ⟨rfl, hw⟩
            subst hw
            refine hK.out _ _ hS (fun _ => ?_)
            clear hK K
            try simp only [Act.put, List.setIfInBounds_toArray, List.set_cons_zero, List.set_cons_succ]
            refine tkYes 16 (v := ?_) rfl (by kernel_rfl) (fun _ _ _ h => h) rfl ?_ hS ?_
            rotate_left
            · intro W hW; go_simp; (try with_reducible rfl)
            simp only [Act.put, List.setIfInBounds_toArray, List.set_cons_zero, List.set_cons_succ]
            refine tkYes 17 (v := ?_) rfl (by kernel_rfl) (fun _ _ _ h => h) rfl ?_ hS ?_
            rotate_left
            · intro W hW; go_simp; (try with_reducible rfl)
            simp only [Act.put, List.setIfInBounds_toArray, List.set_cons_zero, List.set_cons_succ]
            refine tkYes 18 (v := ?_) rfl (by kernel_rfl) (fun _ _ _ h => h) rfl ?_ hS ?_
            rotate_left
            · intro W hW; go_simp; (try with_reducible rfl)
            simp only [Act.put, List.setIfInBounds_toArray, List.set_cons_zero, List.set_cons_succ]
            refine tkYes 19 (v := ?_) rfl (by kernel_rfl) (fun _ _ _ h => h) rfl ?_ hS ?_
            rotate_left
            · intro W hW; go_simp; (try with_reducible rfl)
            simp only [Act.put, List.setIfInBounds_toArray, List.set_cons_zero, List.set_cons_succ]
            refine tkYes 21 (v := ?_) rfl (by kernel_rfl) (fun _ _ _ h => h) rfl ?_ hS ?_
            rotate_left
            · intro W hW; go_simp; (try with_reducible rfl)
            simp only [Act.put, List.setIfInBounds_toArray, List.set_cons_zero, List.set_cons_succ]
            refine tkYes 22 (v := ?_) rfl (by kernel_rfl) (fun _ _ _ h => h) rfl ?_ hS ?_
            rotate_left
            · intro W hW; obtain ⟨y0, y1, y2, y3, yf, yl⟩ := hW.2.cs; go_simp; (try with_reducible rfl)
            simp only [Act.put, List.setIfInBounds_toArray, List.set_cons_zero, List.set_cons_succ]
            refine rnOne 20 rfl (by kernel_rfl) rfl (fun K hK => ?_)
            go_simp
            with_reducible refine (p_sent hS.1 HSE2.out).mono ?_
            rintro e wz ⟨rfl, hw⟩
            subst hw
            refine hK.out _ _ hS (fun _ => ?_)
            clear hK K
            try simp only [Act.put, List.setIfInBounds_toArray, List.set_cons_zero, List.set_cons_succ]
            refine tkYes 23 (v := ?_) rfl (by kernel_rfl) (fun _ _ _ h => h) rfl ?_ hS ?_
            rotate_left
            · intro W hW; go_simp; (try with_reducible rfl)
            simp only [Act.put, List.setIfInBounds_toArray, List.set_cons_zero, List.set_cons_succ]
            refine tkYes 24 (v := ?_) rfl (by kernel_rfl) (fun _ _ _ h => h) rfl ?_ hS ?_
            rotate_left
            · intro W hW; go_simp; (try with_reducible rfl)
            simp only [Act.put, List.setIfInBounds_toArray, List.set_cons_zero, List.set_cons_succ]
            refine tkYes 25 (v := ?_) rfl (by kernel_rfl) (fun _ _ _ h => h) rfl ?_ hS ?_
            rotate_left
            · intro W hW; go_simp; (try with_reducible rfl)
            simp only [Act.put, List.setIfInBounds_toArray, List.set_cons_zero, List.set_cons_succ]
            refine tkYes 26 (v := ?_) rfl (by kernel_rfl) (fun _ _ _ h => h) rfl ?_ hS ?_
            rotate_left
            · intro W hW; go_simp; (try with_reducible rfl)
            simp only [Act.put, List.setIfInBounds_toArray, List.set_cons_zero, List.set_cons_succ]
            refine tkYes 28 (v := ?_) rfl (by kernel_rfl) (fun _ _ _ h => h) rfl ?_ hS ?_
            rotate_left
            · intro W hW; go_simp; (try with_reducible rfl)
            simp only [Act.put, List.setIfInBounds_toArray, List.set_cons_zero, List.set_cons_succ]
            refine tkYes 29 (v := ?_) rfl (by kernel_rfl) (fun _ _ _ h => h) rfl ?_ hS ?_
            rotate_left
            · intro W hW; obtain ⟨y0, y1, y2, y3, yf, yl⟩ := hW.2.cs; go_simp; (try with_reducible rfl)
            simp only [Act.put, List.setIfInBounds_toArray, List.set_cons_zero, List.set_cons_succ]
            refine rnOne 27 rfl (by kernel_rfl) rfl (fun K hK => ?_)
            go_simp
            with_reducible refine (p_lost hS.1 HLO2.out).mono ?_
            rintro e wz ⟨rfl, hw⟩
            subst hw
            refine hK.out _ _ hS (fun _ => ?_)
            clear hK K
            try simp only [Act.put, List.setIfInBounds_toArray, List.set_cons_zero, List.set_cons_succ]
            refine tkYes 30 (v := ?_) rfl (by kernel_rfl) (fun _ _ _ h => h) rfl ?_ hS ?_
            rotate_left
            · intro W hW; go_simp; (try with_reducible rfl)
            simp only [Act.put, List.setIfInBounds_toArray, List.set_cons_zero, List.set_cons_succ]
            refine tkYes 31 (v := ?_) rfl (by kernel_rfl) (fun _ _ _ h => h) rfl ?_ hS ?_
            rotate_left
            · intro W hW; go_simp; (try with_reducible rfl)
            simp only [Act.put, List.setIfInBounds_toArray, List.set_cons_zero, List.set_cons_succ]
            refine wpAnyH_done (by kernel_rfl) ?_ _
            have HP := Lib.hid hS
            clear hS
            go_wp2_with fail
            exact ⟨⟨j + 1, s2, by omega, by go_num, BD2.out, A5, c5, HM2.out.symm ▸ HSE2.out.symm ▸ HLO2.out.symm ▸ HP.out.2, HP.out.1⟩, by simp [intOf]; omega⟩
          · go_simp
            have hb7 : Below w4.heap.size w4 (w4.alloc (.cells #[.int .i64 0, .slice none 0 0, .int .i64 0, .int .i64 0] 28)) := (Below.refl _ _).alloc (Nat.le_refl _) _
            have Z := Lib.hid (NrAt.new w4 0 (.slice none 0 0) 0 0)
            have HQ1 : Hid (g < w4.heap.size ∧ q0 < w4.heap.size) := ⟨P.out.lt, hS.2.cs.2.2⟩
            have P := Lib.hid ((P.out.extra hb7).sub (E' := fun b => b = w4.heap.size) (by rintro b rfl; exact ⟨Nat.le_refl _, Z.out.cs.lt⟩))
            have hS2 : NrAt (w4.alloc (.cells #[.int .i64 0, .slice none 0 0, .int .i64 0, .int .i64 0] 28)) g (s.room : Nat) (.slice A1 s.l.length c1) s.sent s.lost ∧ NpAt (w4.alloc (.cells #[.int .i64 0, .slice none 0 0, .int .i64 0, .int .i64 0] 28)) q0 x := ⟨hS.1.on hb7, hS.2.on hb7⟩
            clear hS
            have hS := hS2
            clear hS2 hb7
            obtain ⟨q1, hq1⟩ : ∃ q, q = w4.heap.size := ⟨_, rfl⟩
            rw [← hq1] at Z HQ1 P ⊢
            clear hq1
            generalize w4.alloc (.cells #[.int .i64 0, .slice none 0 0, .int .i64 0, .int .i64 0] 28) = w6 at *
            refine hK.out _ _ hS (fun _ => ?_)
            clear hK K
            try simp only [Act.put, List.setIfInBounds_toArray, List.set_cons_zero, List.set_cons_succ]
            refine rnOne 3 rfl (by kernel_rfl) rfl (fun K hK => ?_)
            go_simp
            with_reducible refine (CS.out _ _ P.out).mono ?_
            rintro e w5 hp5
            obtain ⟨A5, c5, rfl, hpm, hb5⟩ := P.out.ref hp5
            have P := Lib.hid hpm
            have Z := Lib.hid (Z.out.on hb5)
            have hS2 : NrAt w5 g (s.room : Nat) (.slice A1 s.l.length c1) s.sent s.lost ∧ NpAt w5 q0 x := ⟨hS.1.on hb5, hS.2.on hb5⟩
            clear hS
            have hS := hS2
            clear hS2
            clear hp5 hpm hb5
            refine hK.out _ _ hS (fun _ => ?_)
            clear hK K
            try simp only [Act.put, List.setIfInBounds_toArray, List.set_cons_zero, List.set_cons_succ]
            refine tkYes 4 (v := ?_) rfl (by kernel_rfl) (fun _ _ _ h => h) rfl ?_ hS ?_
            rotate_left
            · intro W hW; go_simp; (try with_reducible rfl)
            simp only [Act.put, List.setIfInBounds_toArray, List.set_cons_zero, List.set_cons_succ]
            refine tkYes 5 (v := ?_) rfl (by kernel_rfl) (fun _ _ _ h => h) rfl ?_ hS ?_
            rotate_left
            · intro W hW; go_simp; (try with_reducible rfl)
            simp only [Act.put, List.setIfInBounds_toArray, List.set_cons_zero, List.set_cons_succ]
            refine tkYes 6 (v := ?_) rfl (by kernel_rfl) (fun _ _ _ h => h) rfl ?_ hS ?_
            rotate_left
            · intro W hW; go_simp; (try with_reducible rfl)
            simp only [Act.put, List.setIfInBounds_toArray, List.set_cons_zero, List.set_cons_succ]
            refine rnOne 8 rfl (by kernel_rfl) rfl (fun K hK => ?_)
            refine run_store_nr (.tmp 12) (.tmp 51) rfl rfl rfl rfl Z.out ?_
            intro w7 hx7 hg7
            have ZR := Lib.hid hx7
            have P := Lib.hid (P.out.at_ hg7 (.inr rfl) (by have := HQ1.out; have := P.out.ge; omega))
            have hS2 : NrAt w7 g (s.room : Nat) (.slice A1 s.l.length c1) s.sent s.lost ∧ NpAt w7 q0 x := ⟨hS.1.keep (hg7.block g hS.1.cs.lt (fun e => by injection e with e; have := HQ1.out; omega)), ⟨(hg7.block q0 hS.2.cs.2.2 (fun e => by injection e with e; have := HQ1.out; omega)).trans hS.2.row⟩⟩
            clear hS hx7 hg7
            have hS := hS2
            clear hS2
            refine hK.out _ _ hS (fun _ => ?_)
            clear hK K
            try simp only [Act.put, List.setIfInBounds_toArray, List.set_cons_zero, List.set_cons_succ]
            refine tkYes 9 (v := ?_) rfl (by kernel_rfl) (fun _ _ _ h => h) rfl ?_ hS ?_
            rotate_left
            · intro W hW; go_simp; (try with_reducible rfl)
            simp only [Act.put, List.setIfInBounds_toArray, List.set_cons_zero, List.set_cons_succ]
            refine wpAnyH_done (by kernel_rfl) ?_ _
            have R7 := Lib.hid hS.1
            have X7 := Lib.hid hS.2
            clear hS
            go_upto_region 29 with (first
              | ((with_reducible show wpList _ _ _ ({ dst := some 53, op := .load _ _, type := _, pos := _, after := _, guard := _ } :: _) _ _); refine wpList_load_nr rfl (.tmp 12) rfl rfl ZR.out ?_)
              | (((with_reducible show wpList _ _ _ ({ dst := none, op := .store _ _ _, type := _, pos := _, after := _, guard := _ } :: _) _ _); refine wpList_store_nr rfl (.tmp 8) (.tmp 53) rfl rfl rfl rfl R7.out ?_); intro w8 hx8 hg8; have R8 := Lib.hid hx8; have P8 := Lib.hid (P.out.store hg8); have X8 : Hid (NpAt w8 q0 x) := ⟨(hg8.block q0 X7.out.cs.2.2 (fun e => by injection e with e; have := HQ0.out; omega)).trans X7.out.row⟩; clear hx8 hg8)
              | ((with_reducible show wpList _ _ _ ({ dst := some 55, op := .load _ _, type := _, pos := _, after := _, guard := _ } :: _) _ _); refine wpList_load_np rfl (.tmp 10) rfl q0 0 rfl x X8.out.range ?_)
              | (go_at_call 15; (with_reducible refine (npmsg_any x _).mono ?_); rintro e w9 ⟨rfl, hb9⟩; have P9 := Lib.hid (P8.out.on hb9); have R9 := Lib.hid (R8.out.on hb9); clear hb9)
              | (go_at_call 16; (with_reducible refine (CN.out _ _ _ _ _ P9.out).mono ?_); rintro e wa hra; obtain ⟨rfl, hpa, hka⟩ := P9.out.res hra; have P := Lib.hid hpa; have R := Lib.hid (R9.out.keep (hka g (.inl rfl))); clear hra hpa hka))
            clear P8 P9 R7 R8 R9 X7 X8 ZR Z HQ1 CS CN
    
            obtain ⟨m2, hm2⟩ : ∃ m2, m2 = s2.l.length := ⟨_, rfl⟩
            obtain ⟨se2, hse2⟩ : ∃ se2, se2 = s2.sent := ⟨_, rfl⟩
            obtain ⟨lo2, hlo2⟩ : ∃ lo2, lo2 = s2.lost := ⟨_, rfl⟩
            have HM2 := Lib.hid hm2.symm
            have HSE2 := Lib.hid hse2.symm
            have HLO2 := Lib.hid hlo2.symm
            rw [← hm2, ← hse2, ← hlo2] at R
            clear hm2 hse2 hlo2
            have D9 := Lib.hid ((Below.refl wa.heap.size wa).drew)
            have P := Lib.hid (P.out.on D9.out)
            have R := Lib.hid (R.out.on D9.out)
            clear D9
            generalize hw10 : wa.drew = w10 at *
            refine wp_region_held_drew (S := fun W => PM w r g s2 A5 c5 s2 (fun _ => False) W ∧ NrAt W g (s2.room : Nat) (.slice A5 m2 c5) se2 lo2) (by kernel_rfl) (by rw [hw10]; exact ⟨P.out, R.out⟩) (fun hS => ?_)
            rw [hw10] at hS ⊢
            clear hw10 P R
            refine tkYes 0 (v := ?_) rfl (by kernel_rfl) (fun _ _ _ h => h) rfl ?_ hS ?_
            rotate_left
            · intro W hW; go_simp; (try with_reducible rfl)
            simp only [Act.put, List.setIfInBounds_toArray, List.set_cons_zero, List.set_cons_succ]
            refine tkYes 1 (v := ?_) rfl (by kernel_rfl) (fun _ _ _ h => h) rfl ?_ hS ?_
            rotate_left
            · intro W hW; go_simp; (try with_reducible rfl)
            simp only [Act.put, List.setIfInBounds_toArray, List.set_cons_zero, List.set_cons_succ]
            refine tkYes 2 (v := ?_) rfl (by kernel_rfl) (fun _ _ _ h => h) rfl ?_ hS ?_
            rotate_left
            · intro W hW; go_simp; (try with_reducible rfl)
            simp only [Act.put, List.setIfInBounds_toArray, List.set_cons_zero, List.set_cons_succ]
            refine tkYes 3 (v := ?_) rfl (by kernel_rfl) (fun _ _ _ h => h) rfl ?_ hS ?_
            rotate_left
            · intro W hW; go_simp; (try with_reducible rfl)
            simp only [Act.put, List.setIfInBounds_toArray, List.set_cons_zero, List.set_cons_succ]
            refine tkYes 5 (v := ?_) rfl (by kernel_rfl) (fun _ _ _ h => h) rfl ?_ hS ?_
            rotate_left
            · intro W hW; go_simp; (try with_reducible rfl)
            simp only [Act.put, List.setIfInBounds_toArray, List.set_cons_zero, List.set_cons_succ]
            refine tkYes 6 (v := ?_) rfl (by kernel_rfl) (fun _ _ _ h => h) rfl ?_ hS ?_
            rotate_left
            · intro W hW; obtain ⟨y0, y1, y2, y3, yf, yl⟩ := hW.2.cs; go_simp; (try with_reducible rfl)
            simp only [Act.put, List.setIfInBounds_toArray, List.set_cons_zero, List.set_cons_succ]
            refine rnOne 4 rfl (by kernel_rfl) rfl (fun K hK => ?_)
            go_simp
            with_reducible refine (p_all hS.1 HM2.out).mono ?_
            rintro e w11 ⟨A7, c7, rfl, hs7, hb7⟩
            have S7 := Lib.hid hs7
            have hS2 : PM w r g s2 A5 c5 s2 (fun _ => False) w11 ∧ NrAt w11 g (s2.room : Nat) (.slice A5 m2 c5) se2 lo2 := ⟨hS.1.on hb7, hS.2.on hb7⟩
            clear hS
            have hS := hS2
            clear hS2
            clear hs7 hb7
            refine hK.out _ _ hS (fun _ => ?_)
            clear hK K
            try simp only [Act.put, List.setIfInBounds_toArray, List.set_cons_zero, List.set_cons_succ]
            refine rnOne 7 rfl (by kernel_rfl) rfl (fun K hK => ?_)
            go_simp
            with_reducible refine (rtsame_eq A7 A5 m2 c7 c5 s2.l _ S7.out (HM2.out ▸ hS.1.sl)).mono ?_
            rintro e w12 ⟨rfl, hb8⟩
            have hS2 : PM w r g s2 A5 c5 s2 (fun _ => False) w12 ∧ NrAt w12 g (s2.room : Nat) (.slice A5 m2 c5) se2 lo2 := ⟨hS.1.on hb8, hS.2.on hb8⟩
            clear hS
            have hS := hS2
            clear hS2
            clear hb8
            refine hK.out _ _ hS (fun _ => ?_)
            clear hK K
            try simp only [Act.put, List.setIfInBounds_toArray, List.set_cons_zero, List.set_cons_succ]
            refine tkYes 8 (v := ?_) rfl (by kernel_rfl) (fun _ _ _ h => h) rfl ?_ hS ?_
            rotate_left
            · intro W hW; go_simp; (try with_reducible rfl)
            simp only [Act.put, List.setIfInBounds_toArray, List.set_cons_zero, List.set_cons_succ]
            refine tkYes 9 (v := ?_) rfl (by kernel_rfl) (fun _ _ _ h => h) rfl ?_ hS ?_
            rotate_left
            · intro W hW; go_simp; (try with_reducible rfl)
            simp only [Act.put, List.setIfInBounds_toArray, List.set_cons_zero, List.set_cons_succ]
            refine tkYes 10 (v := ?_) rfl (by kernel_rfl) (fun _ _ _ h => h) rfl ?_ hS ?_
            rotate_left
            · intro W hW; go_simp; (try with_reducible rfl)
            simp only [Act.put, List.setIfInBounds_toArray, List.set_cons_zero, List.set_cons_succ]
            refine tkYes 11 (v := ?_) rfl (by kernel_rfl) (fun _ _ _ h => h) rfl ?_ hS ?_
            rotate_left
            · intro W hW; go_simp; (try with_reducible rfl)
            simp only [Act.put, List.setIfInBounds_toArray, List.set_cons_zero, List.set_cons_succ]
            refine tkYes 13 (v := ?_) rfl (by kernel_rfl) (fun _ _ _ h => h) rfl ?_ hS ?_
            rotate_left
            · intro W hW; go_simp; (try with_reducible rfl)
            simp only [Act.put, List.setIfInBounds_toArray, List.set_cons_zero, List.set_cons_succ]
            refine tkYes 14 (v := ?_) rfl (by kernel_rfl) (fun _ _ _ h => h) rfl ?_ hS ?_
            rotate_left
            · intro W hW; obtain ⟨y0, y1, y2, y3, yf, yl⟩ := hW.2.cs; go_simp; (try with_reducible rfl)
            simp only [Act.put, List.setIfInBounds_toArray, List.set_cons_zero, List.set_cons_succ]
            refine tkYes 15 (v := ?_) rfl (by kernel_rfl) (fun _ _ _ h => h) rfl ?_ hS ?_
            rotate_left
            · intro W hW; go_simp; (try with_reducible rfl)
            simp only [Act.put, List.setIfInBounds_toArray, List.set_cons_zero, List.set_cons_succ]
            refine rnOne 12 rfl (by kernel_rfl) rfl (fun K hK => ?_)
            go_simp
            with_reducible refine (p_len hS.1 HM2.out).mono ?_
            rintro e wz ⟨rfl, hw⟩
            subst hw
            refine hK.out _ _ hS (fun _ => ?_)
            clear hK K
            try simp only [Act.put, List.setIfInBounds_toArray, List.set_cons_zero, List.set_cons_succ]
            refine tkYes 16 (v := ?_) rfl (by kernel_rfl) (fun _ _ _ h => h) rfl ?_ hS ?_
            rotate_left
            · intro W hW; go_simp; (try with_reducible rfl)
            simp only [Act.put, List.setIfInBounds_toArray, List.set_cons_zero, List.set_cons_succ]
            refine tkYes 17 (v := ?_) rfl (by kernel_rfl) (fun _ _ _ h => h) rfl ?_ hS ?_
            rotate_left
            · intro W hW; go_simp; (try with_reducible rfl)
            simp only [Act.put, List.setIfInBounds_toArray, List.set_cons_zero, List.set_cons_succ]
            refine tkYes 18 (v := ?_) rfl (by kernel_rfl) (fun _ _ _ h => h) rfl ?_ hS ?_
            rotate_left
            · intro W hW; go_simp; (try with_reducible rfl)
            simp only [Act.put, List.setIfInBounds_toArray, List.set_cons_zero, List.set_cons_succ]
            refine tkYes 19 (v := ?_) rfl (by kernel_rfl) (fun _ _ _ h => h) rfl ?_ hS ?_
            rotate_left
            · intro W hW; go_simp; (try with_reducible rfl)
            simp only [Act.put, List.setIfInBounds_toArray, List.set_cons_zero, List.set_cons_succ]
            refine tkYes 21 (v := ?_) rfl (by kernel_rfl) (fun _ _ _ h => h) rfl ?_ hS ?_
            rotate_left
            · intro W hW; go_simp; (try with_reducible rfl)
            simp only [Act.put, List.setIfInBounds_toArray, List.set_cons_zero, List.set_cons_succ]
            refine tkYes 22 (v := ?_) rfl (by kernel_rfl) (fun _ _ _ h => h) rfl ?_ hS ?_
            rotate_left
            · intro W hW; obtain ⟨y0, y1, y2, y3, yf, yl⟩ := hW.2.cs; go_simp; (try with_reducible rfl)
            simp only [Act.put, List.setIfInBounds_toArray, List.set_cons_zero, List.set_cons_succ]
            refine rnOne 20 rfl (by kernel_rfl) rfl (fun K hK => ?_)
            go_simp
            with_reducible refine (p_sent hS.1 HSE2.out).mono ?_
            rintro e wz ⟨rfl, hw⟩
            subst hw
            refine hK.out _ _ hS (fun _ => ?_)
            clear hK K
            try simp only [Act.put, List.setIfInBounds_toArray, List.set_cons_zero, List.set_cons_succ]
            refine tkYes 23 (v := ?_) rfl (by kernel_rfl) (fun _ _ _ h => h) rfl ?_ hS ?_
            rotate_left
            · intro W hW; go_simp; (try with_reducible rfl)
            simp only [Act.put, List.setIfInBounds_toArray, List.set_cons_zero, List.set_cons_succ]
            refine tkYes 24 (v := ?_) rfl (by kernel_rfl) (fun _ _ _ h => h) rfl ?_ hS ?_
            rotate_left
            · intro W hW; go_simp; (try with_reducible rfl)
            simp only [Act.put, List.setIfInBounds_toArray, List.set_cons_zero, List.set_cons_succ]
            refine tkYes 25 (v := ?_) rfl (by kernel_rfl) (fun _ _ _ h => h) rfl ?_ hS ?_
            rotate_left
            · intro W hW; go_simp; (try with_reducible rfl)
            simp only [Act.put, List.setIfInBounds_toArray, List.set_cons_zero, List.set_cons_succ]
            refine tkYes 26 (v := ?_) rfl (by kernel_rfl) (fun _ _ _ h => h) rfl ?_ hS ?_
            rotate_left
            · intro W hW; go_simp; (try with_reducible rfl)
            simp only [Act.put, List.setIfInBounds_toArray, List.set_cons_zero, List.set_cons_succ]
            refine tkYes 28 (v := ?_) rfl (by kernel_rfl) (fun _ _ _ h => h) rfl ?_ hS ?_
            rotate_left
            · intro W hW; go_simp; (try with_reducible rfl)
            simp only [Act.put, List.setIfInBounds_toArray, List.set_cons_zero, List.set_cons_succ]
            refine tkYes 29 (v := ?_) rfl (by kernel_rfl) (fun _ _ _ h => h) rfl ?_ hS ?_
            rotate_left
            · intro W hW; obtain ⟨y0, y1, y2, y3, yf, yl⟩ := hW.2.cs; go_simp; (try with_reducible rfl)
            simp only [Act.put, List.setIfInBounds_toArray, List.set_cons_zero, List.set_cons_succ]
            refine rnOne 27 rfl (by kernel_rfl) rfl (fun K hK => ?_)
            go_simp
            with_reducible refine (p_lost hS.1 HLO2.out).mono ?_
            rintro e wz ⟨rfl, hw⟩
            subst hw
            refine hK.out _ _ hS (fun _ => ?_)
            clear hK K
            try simp only [Act.put, List.setIfInBounds_toArray, List.set_cons_zero, List.set_cons_succ]
            refine tkYes 30 (v := ?_) rfl (by kernel_rfl) (fun _ _ _ h => h) rfl ?_ hS ?_
            rotate_left
            · intro W hW; go_simp; (try with_reducible rfl)
            simp only [Act.put, List.setIfInBounds_toArray, List.set_cons_zero, List.set_cons_succ]
            refine tkYes 31 (v := ?_) rfl (by kernel_rfl) (fun _ _ _ h => h) rfl ?_ hS ?_
            rotate_left
            · intro W hW; go_simp; (try with_reducible rfl)
            simp only [Act.put, List.setIfInBounds_toArray, List.set_cons_zero, List.set_cons_succ]
            refine wpAnyH_done (by kernel_rfl) ?_ _
            have HP := Lib.hid hS
            clear hS
            go_wp2_with fail
            exact ⟨⟨j + 1, s2, by omega, by go_num, BD2.out, A5, c5, HM2.out.symm ▸ HSE2.out.symm ▸ HLO2.out.symm ▸ HP.out.2, HP.out.1⟩, by simp [intOf]; omega⟩
        · go_simp
          have hb7 : Below wd.heap.size wd (wd.alloc (.cells #[.int .i64 0, .slice none 0 0, .int .i64 0, .int .i64 0] 28)) := (Below.refl _ _).alloc (Nat.le_refl _) _
          have Z := Lib.hid (NrAt.new wd 0 (.slice none 0 0) 0 0)
          have HQ1 : Hid (g < wd.heap.size ∧ q0 < wd.heap.size) := ⟨P.out.lt, hS.2.cs.2.2⟩
          have P := Lib.hid ((P.out.extra hb7).sub (E' := fun b => b = wd.heap.size) (by rintro b rfl; exact ⟨Nat.le_refl _, Z.out.cs.lt⟩))
          have hS2 : NrAt (wd.alloc (.cells #[.int .i64 0, .slice none 0 0, .int .i64 0, .int .i64 0] 28)) g (s.room : Nat) (.slice A1 s.l.length c1) s.sent s.lost ∧ NpAt (wd.alloc (.cells #[.int .i64 0, .slice none 0 0, .int .i64 0, .int .i64 0] 28)) q0 x := ⟨hS.1.on hb7, hS.2.on hb7⟩
          clear hS
          have hS := hS2
          clear hS2 hb7
          obtain ⟨q1, hq1⟩ : ∃ q, q = wd.heap.size := ⟨_, rfl⟩
          rw [← hq1] at Z HQ1 P ⊢
          clear hq1
          generalize wd.alloc (.cells #[.int .i64 0, .slice none 0 0, .int .i64 0, .int .i64 0] 28) = w6 at *
          refine hK.out _ _ hS (fun _ => ?_)
          clear hK K
          try simp only [Act.put, List.setIfInBounds_toArray, List.set_cons_zero, List.set_cons_succ]
          refine rnOne 2 rfl (by kernel_rfl) rfl (fun K hK => ?_)
          go_simp
          with_reducible refine (npmsg_any x _).mono ?_
          rintro e w4 ⟨rfl, hb4⟩
          have P := Lib.hid (P.out.on hb4)
          have Z := Lib.hid (Z.out.on hb4)
          have hS2 : NrAt w4 g (s.room : Nat) (.slice A1 s.l.length c1) s.sent s.lost ∧ NpAt w4 q0 x := ⟨hS.1.on hb4, hS.2.on hb4⟩
          clear hS
          have hS := hS2
          clear hS2
          clear hb4
          refine hK.out _ _ hS (fun _ => ?_)
          clear hK K
          try simp only [Act.put, List.setIfInBounds_toArray, List.set_cons_zero, List.set_cons_succ]
          refine rnOne 3 rfl (by kernel_rfl) rfl (fun K hK => ?_)
          go_simp
          with_reducible refine (CS.out _ _ P.out).mono ?_
          rintro e w5 hp5
          obtain ⟨A5, c5, rfl, hpm, hb5⟩ := P.out.ref hp5
          have P := Lib.hid hpm
          have Z := Lib.hid (Z.out.on hb5)
          have hS2 : NrAt w5 g (s.room : Nat) (.slice A1 s.l.length c1) s.sent s.lost ∧ NpAt w5 q0 x := ⟨hS.1.on hb5, hS.2.on hb5⟩
          clear hS
          have hS := hS2
          clear hS2
          clear hp5 hpm hb5
          refine hK.out _ _ hS (fun _ => ?_)
          clear hK K
          try simp only [Act.put, List.setIfInBounds_toArray, List.set_cons_zero, List.set_cons_succ]
          refine tkYes 4 (v := ?_) rfl (by kernel_rfl) (fun _ _ _ h => h) rfl ?_ hS ?_
          rotate_left
          · intro W hW; go_simp; (try with_reducible rfl)
          simp only [Act.put, List.setIfInBounds_toArray, List.set_cons_zero, List.set_cons_succ]
          refine tkYes 5 (v := ?_) rfl (by kernel_rfl) (fun _ _ _ h => h) rfl ?_ hS ?_
          rotate_left
          · intro W hW; go_simp; (try with_reducible rfl)
          simp only [Act.put, List.setIfInBounds_toArray, List.set_cons_zero, List.set_cons_succ]
          refine tkYes 6 (v := ?_) rfl (by kernel_rfl) (fun _ _ _ h => h) rfl ?_ hS ?_
          rotate_left
          · intro W hW; go_simp; (try with_reducible rfl)
          simp only [Act.put, List.setIfInBounds_toArray, List.set_cons_zero, List.set_cons_succ]
          refine rnOne 8 rfl (by kernel_rfl) rfl (fun K hK => ?_)
          refine run_store_nr (.tmp 12) (.tmp 51) rfl rfl rfl rfl Z.out ?_
          intro w7 hx7 hg7
          have ZR := Lib.hid hx7
          have P := Lib.hid (P.out.at_ hg7 (.inr rfl) (by have := HQ1.out; have := P.out.ge; omega))
          have hS2 : NrAt w7 g (s.room : Nat) (.slice A1 s.l.length c1) s.sent s.lost ∧ NpAt w7 q0 x := ⟨hS.1.keep (hg7.block g hS.1.cs.lt (fun e => by injection e with e; have := HQ1.out; omega)), ⟨(hg7.block q0 hS.2.cs.2.2 (fun e => by injection e with e; have := HQ1.out; omega)).trans hS.2.row⟩⟩
          clear hS hx7 hg7
          have hS := hS2
          clear hS2
          refine hK.out _ _ hS (fun _ => ?_)
          clear hK K
          try simp only [Act.put, List.setIfInBounds_toArray, List.set_cons_zero, List.set_cons_succ]
          refine tkYes 9 (v := ?_) rfl (by kernel_rfl) (fun _ _ _ h => h) rfl ?_ hS ?_
          rotate_left
          · intro W hW; go_simp; (try with_reducible rfl)
          simp only [Act.put, List.setIfInBounds_toArray, List.set_cons_zero, List.set_cons_succ]
          refine wpAnyH_done (by kernel_rfl) ?_ _
          have R7 := Lib.hid hS.1
          have X7 := Lib.hid hS.2
          clear hS
          go_upto_region 29 with (first
            | ((with_reducible show wpList _ _ _ ({ dst := some 53, op := .load _ _, type := _, pos := _, after := _, guard := _ } :: _) _ _); refine wpList_load_nr rfl (.tmp 12) rfl rfl ZR.out ?_)
            | (((with_reducible show wpList _ _ _ ({ dst := none, op := .store _ _ _, type := _, pos := _, after := _, guard := _ } :: _) _ _); refine wpList_store_nr rfl (.tmp 8) (.tmp 53) rfl rfl rfl rfl R7.out ?_); intro w8 hx8 hg8; have R8 := Lib.hid hx8; have P8 := Lib.hid (P.out.store hg8); have X8 : Hid (NpAt w8 q0 x) := ⟨(hg8.block q0 X7.out.cs.2.2 (fun e => by injection e with e; have := HQ0.out; omega)).trans X7.out.row⟩; clear hx8 hg8)
            | ((with_reducible show wpList _ _ _ ({ dst := some 55, op := .load _ _, type := _, pos := _, after := _, guard := _ } :: _) _ _); refine wpList_load_np rfl (.tmp 10) rfl q0 0 rfl x X8.out.range ?_)
            | (go_at_call 15; (with_reducible refine (npmsg_any x _).mono ?_); rintro e w9 ⟨rfl, hb9⟩; have P9 := Lib.hid (P8.out.on hb9); have R9 := Lib.hid (R8.out.on hb9); clear hb9)
            | (go_at_call 16; (with_reducible refine (CN.out _ _ _ _ _ P9.out).mono ?_); rintro e wa hra; obtain ⟨rfl, hpa, hka⟩ := P9.out.res hra; have P := Lib.hid hpa; have R := Lib.hid (R9.out.keep (hka g (.inl rfl))); clear hra hpa hka))
          clear P8 P9 R7 R8 R9 X7 X8 ZR Z HQ1 CS CN
  
          obtain ⟨m2, hm2⟩ : ∃ m2, m2 = s2.l.length := ⟨_, rfl⟩
          obtain ⟨se2, hse2⟩ : ∃ se2, se2 = s2.sent := ⟨_, rfl⟩
          obtain ⟨lo2, hlo2⟩ : ∃ lo2, lo2 = s2.lost := ⟨_, rfl⟩
          have HM2 := Lib.hid hm2.symm
          have HSE2 := Lib.hid hse2.symm
          have HLO2 := Lib.hid hlo2.symm
          rw [← hm2, ← hse2, ← hlo2] at R
          clear hm2 hse2 hlo2
          have D9 := Lib.hid ((Below.refl wa.heap.size wa).drew)
          have P := Lib.hid (P.out.on D9.out)
          have R := Lib.hid (R.out.on D9.out)
          clear D9
          generalize hw10 : wa.drew = w10 at *
          refine wp_region_held_drew (S := fun W => PM w r g s2 A5 c5 s2 (fun _ => False) W ∧ NrAt W g (s2.room : Nat) (.slice A5 m2 c5) se2 lo2) (by kernel_rfl) (by rw [hw10]; exact ⟨P.out, R.out⟩) (fun hS => ?_)
          rw [hw10] at hS ⊢
          clear hw10 P R
          refine tkYes 0 (v := ?_) rfl (by kernel_rfl) (fun _ _ _ h => h) rfl ?_ hS ?_
          rotate_left
          · intro W hW; go_simp; (try with_reducible rfl)
          simp only [Act.put, List.setIfInBounds_toArray, List.set_cons_zero, List.set_cons_succ]
          refine tkYes 1 (v := ?_) rfl (by kernel_rfl) (fun _ _ _ h => h) rfl ?_ hS ?_
          rotate_left
          · intro W hW; go_simp; (try with_reducible rfl)
          simp only [Act.put, List.setIfInBounds_toArray, List.set_cons_zero, List.set_cons_succ]
          refine tkYes 2 (v := ?_) rfl (by kernel_rfl) (fun _ _ _ h => h) rfl ?_ hS ?_
          rotate_left
          · intro W hW; go_simp; (try with_reducible rfl)
          simp only [Act.put, List.setIfInBounds_toArray, List.set_cons_zero, List.set_cons_succ]
          refine tkYes 3 (v := ?_) rfl (by kernel_rfl) (fun _ _ _ h => h) rfl ?_ hS ?_
          rotate_left
          · intro W hW; go_simp; (try with_reducible rfl)
          simp only [Act.put, List.setIfInBounds_toArray, List.set_cons_zero, List.set_cons_succ]
          refine tkYes 5 (v := ?_) rfl (by kernel_rfl) (fun _ _ _ h => h) rfl ?_ hS ?_
          rotate_left
          · intro W hW; go_simp; (try with_reducible rfl)
          simp only [Act.put, List.setIfInBounds_toArray, List.set_cons_zero, List.set_cons_succ]
          refine tkYes 6 (v := ?_) rfl (by kernel_rfl) (fun _ _ _ h => h) rfl ?_ hS ?_
          rotate_left
          · intro W hW; obtain ⟨y0, y1, y2, y3, yf, yl⟩ := hW.2.cs; go_simp; (try with_reducible rfl)
          simp only [Act.put, List.setIfInBounds_toArray, List.set_cons_zero, List.set_cons_succ]
          refine rnOne 4 rfl (by kernel_rfl) rfl (fun K hK => ?_)
          go_simp
          with_reducible refine (p_all hS.1 HM2.out).mono ?_
          rintro e w11 ⟨A7, c7, rfl, hs7, hb7⟩
          have S7 := Lib.hid hs7
          have hS2 : PM w r g s2 A5 c5 s2 (fun _ => False) w11 ∧ NrAt w11 g (s2.room : Nat) (.slice A5 m2 c5) se2 lo2 := ⟨hS.1.on hb7, hS.2.on hb7⟩
          clear hS
          have hS := hS2
          clear hS2
          clear hs7 hb7
          refine hK.out _ _ hS (fun _ => ?_)
          clear hK K
          try simp only [Act.put, List.setIfInBounds_toArray, List.set_cons_zero, List.set_cons_succ]
          refine rnOne 7 rfl (by kernel_rfl) rfl (fun K hK => ?_)
          go_simp
          with_reducible refine (rtsame_eq A7 A5 m2 c7 c5 s2.l _ S7.out (HM2.out ▸ hS.1.sl)).mono ?_
          rintro e w12 ⟨rfl, hb8⟩
          have hS2 : PM w r g s2 A5 c5 s2 (fun _ => False) w12 ∧ NrAt w12 g (s2.room : Nat) (.slice A5 m2 c5) se2 lo2 := ⟨hS.1.on hb8, hS.2.on hb8⟩
          clear hS
          have hS := hS2
          clear hS2
          clear hb8
          refine hK.out _ _ hS (fun _ => ?_)
          clear hK K
          try simp only [Act.put, List.setIfInBounds_toArray, List.set_cons_zero, List.set_cons_succ]
          refine tkYes 8 (v := ?_) rfl (by kernel_rfl) (fun _ _ _ h => h) rfl ?_ hS ?_
          rotate_left
          · intro W hW; go_simp; (try with_reducible rfl)
          simp only [Act.put, List.setIfInBounds_toArray, List.set_cons_zero, List.set_cons_succ]
          refine tkYes 9 (v := ?_) rfl (by kernel_rfl) (fun _ _ _ h => h) rfl ?_ hS ?_
          rotate_left
          · intro W hW; go_simp; (try with_reducible rfl)
          simp only [Act.put, List.setIfInBounds_toArray, List.set_cons_zero, List.set_cons_succ]
          refine tkYes 10 (v := ?_) rfl (by kernel_rfl) (fun _ _ _ h => h) rfl ?_ hS ?_
          rotate_left
          · intro W hW; go_simp; (try with_reducible rfl)
          simp only [Act.put, List.setIfInBounds_toArray, List.set_cons_zero, List.set_cons_succ]
          refine tkYes 11 (v := ?_) rfl (by kernel_rfl) (fun _ _ _ h => h) rfl ?_ hS ?_
          rotate_left
          · intro W hW; go_simp; (try with_reducible rfl)
          simp only [Act.put, List.setIfInBounds_toArray, List.set_cons_zero, List.set_cons_succ]
          refine tkYes 13 (v := ?_) rfl (by kernel_rfl) (fun _ _ _ h => h) rfl ?_ hS ?_
          rotate_left
          · intro W hW; go_simp; (try with_reducible rfl)
          simp only [Act.put, List.setIfInBounds_toArray, List.set_cons_zero, List.set_cons_succ]
          refine tkYes 14 (v := ?_) rfl (by kernel_rfl) (fun _ _ _ h => h) rfl ?_ hS ?_
          rotate_left
          · intro W hW; obtain ⟨y0, y1, y2, y3, yf, yl⟩ := hW.2.cs; go_simp; (try with_reducible rfl)
          simp only [Act.put, List.setIfInBounds_toArray, List.set_cons_zero, List.set_cons_succ]
          refine tkYes 15 (v := ?_) rfl (by kernel_rfl) (fun _ _ _ h => h) rfl ?_ hS ?_
          rotate_left
          · intro W hW; go_simp; (try with_reducible rfl)
          simp only [Act.put, List.setIfInBounds_toArray, List.set_cons_zero, List.set_cons_succ]
          refine rnOne 12 rfl (by kernel_rfl) rfl (fun K hK => ?_)
          go_simp
          with_reducible refine (p_len hS.1 HM2.out).mono ?_
          rintro e wz ⟨rfl, hw⟩
          subst hw
          refine hK.out _ _ hS (fun _ => ?_)
          clear hK K
          try simp only [Act.put, List.setIfInBounds_toArray, List.set_cons_zero, List.set_cons_succ]
          refine tkYes 16 (v := ?_) rfl (by kernel_rfl) (fun _ _ _ h => h) rfl ?_ hS ?_
          rotate_left
          · intro W hW; go_simp; (try with_reducible rfl)
          simp only [Act.put, List.setIfInBounds_toArray, List.set_cons_zero, List.set_cons_succ]
          refine tkYes 17 (v := ?_) rfl (by kernel_rfl) (fun _ _ _ h => h) rfl ?_ hS ?_
          rotate_left
          · intro W hW; go_simp; (try with_reducible rfl)
          simp only [Act.put, List.setIfInBounds_toArray, List.set_cons_zero, List.set_cons_succ]
          refine tkYes 18 (v := ?_) rfl (by kernel_rfl) (fun _ _ _ h => h) rfl ?_ hS ?_
          rotate_left
          · intro W hW; go_simp; (try with_reducible rfl)
          simp only [Act.put, List.setIfInBounds_toArray, List.set_cons_zero, List.set_cons_succ]
          refine tkYes 19 (v := ?_) rfl (by kernel_rfl) (fun _ _ _ h => h) rfl ?_ hS ?_
          rotate_left
          · intro W hW; go_simp; (try with_reducible rfl)
          simp only [Act.put, List.setIfInBounds_toArray, List.set_cons_zero, List.set_cons_succ]
          refine tkYes 21 (v := ?_) rfl (by kernel_rfl) (fun _ _ _ h => h) rfl ?_ hS ?_
          rotate_left
          · intro W hW; go_simp; (try with_reducible rfl)
          simp only [Act.put, List.setIfInBounds_toArray, List.set_cons_zero, List.set_cons_succ]
          refine tkYes 22 (v := ?_) rfl (by kernel_rfl) (fun _ _ _ h => h) rfl ?_ hS ?_
          rotate_left
          · intro W hW; obtain ⟨y0, y1, y2, y3, yf, yl⟩ := hW.2.cs; go_simp; (try with_reducible rfl)
          simp only [Act.put, List.setIfInBounds_toArray, List.set_cons_zero, List.set_cons_succ]
          refine rnOne 20 rfl (by kernel_rfl) rfl (fun K hK => ?_)
          go_simp
          with_reducible refine (p_sent hS.1 HSE2.out).mono ?_
          rintro e wz ⟨rfl, hw⟩
          subst hw
          refine hK.out _ _ hS (fun _ => ?_)
          clear hK K
          try simp only [Act.put, List.setIfInBounds_toArray, List.set_cons_zero, List.set_cons_succ]
          refine tkYes 23 (v := ?_) rfl (by kernel_rfl) (fun _ _ _ h => h) rfl ?_ hS ?_
          rotate_left
          · intro W hW; go_simp; (try with_reducible rfl)
          simp only [Act.put, List.setIfInBounds_toArray, List.set_cons_zero, List.set_cons_succ]
          refine tkYes 24 (v := ?_) rfl (by kernel_rfl) (fun _ _ _ h => h) rfl ?_ hS ?_
          rotate_left
          · intro W hW; go_simp; (try with_reducible rfl)
          simp only [Act.put, List.setIfInBounds_toArray, List.set_cons_zero, List.set_cons_succ]
          refine tkYes 25 (v := ?_) rfl (by kernel_rfl) (fun _ _ _ h => h) rfl ?_ hS ?_
          rotate_left
          · intro W hW; go_simp; (try with_reducible rfl)
          simp only [Act.put, List.setIfInBounds_toArray, List.set_cons_zero, List.set_cons_succ]
          refine tkYes 26 (v := ?_) rfl (by kernel_rfl) (fun _ _ _ h => h) rfl ?_ hS ?_
          rotate_left
          · intro W hW; go_simp; (try with_reducible rfl)
          simp only [Act.put, List.setIfInBounds_toArray, List.set_cons_zero, List.set_cons_succ]
          refine tkYes 28 (v := ?_) rfl (by kernel_rfl) (fun _ _ _ h => h) rfl ?_ hS ?_
          rotate_left
          · intro W hW; go_simp; (try with_reducible rfl)
          simp only [Act.put, List.setIfInBounds_toArray, List.set_cons_zero, List.set_cons_succ]
          refine tkYes 29 (v := ?_) rfl (by kernel_rfl) (fun _ _ _ h => h) rfl ?_ hS ?_
          rotate_left
          · intro W hW; obtain ⟨y0, y1, y2, y3, yf, yl⟩ := hW.2.cs; go_simp; (try with_reducible rfl)
          simp only [Act.put, List.setIfInBounds_toArray, List.set_cons_zero, List.set_cons_succ]
          refine rnOne 27 rfl (by kernel_rfl) rfl (fun K hK => ?_)
          go_simp
          with_reducible refine (p_lost hS.1 HLO2.out).mono ?_
          rintro e wz ⟨rfl, hw⟩
          subst hw
          refine hK.out _ _ hS (fun _ => ?_)
          clear hK K
          try simp only [Act.put, List.setIfInBounds_toArray, List.set_cons_zero, List.set_cons_succ]
          refine tkYes 30 (v := ?_) rfl (by kernel_rfl) (fun _ _ _ h => h) rfl ?_ hS ?_
          rotate_left
          · intro W hW; go_simp; (try with_reducible rfl)
          simp only [Act.put, List.setIfInBounds_toArray, List.set_cons_zero, List.set_cons_succ]
          refine tkYes 31 (v := ?_) rfl (by kernel_rfl) (fun _ _ _ h => h) rfl ?_ hS ?_
          rotate_left
          · intro W hW; go_simp; (try with_reducible rfl)
          simp only [Act.put, List.setIfInBounds_toArray, List.set_cons_zero, List.set_cons_succ]
          refine wpAnyH_done (by kernel_rfl) ?_ _
          have HP := Lib.hid hS
          clear hS
          go_wp2_with fail
          exact ⟨⟨j + 1, s2, by omega, by go_num, BD2.out, A5, c5, HM2.out.symm ▸ HSE2.out.symm ▸ HLO2.out.symm ▸ HP.out.2, HP.out.1⟩, by simp [intOf]; omega⟩
      · rw [hk] at CK
        clear hk
        have BD2 := Lib.hid (BD.out.send hj1 (npM x))
        have CS := Lib.hid (fun (E : Nat → Prop) (W : World) (h : PM w r g s A1 c1 s E W) => rts_send (w := W) h.na.ok BD.out.lo1 BD.out.se1 (npM x) h.sl)
        have CN := Lib.hid (fun (A5 : Option Addr) (c5 : Nat) (s3 : Nt.St) (E : Nat → Prop) (W : World) (h : PM w r g s A5 c5 s3 E W) => nat_send h.na (npM x) (npM_in HIN.out) BD.out.lo1 BD.out.se1)
        obtain ⟨s2, hs2⟩ : ∃ s2, s2 = Nt.sendS s (npM x) := ⟨_, rfl⟩
        rw [← hs2] at BD2 CS CN
        clear hs2
        generalize Nt.sendE s (npM x) = ee at CS CN

        go_upto_region 13 with (first
          | ((with_reducible show wpList _ _ _ ({ dst := some 40, op := .load _ _, type := _, pos := _, after := _, guard := _ } :: _) _ _); refine wpList_load_np rfl (.tmp 39) rfl b (o + j * 8) rfl x RG.out ?_)
          | ((with_reducible show wpList _ _ _ ({ dst := some 41, op := .load _ _, type := _, pos := _, after := _, guard := _ } :: _) _ _); refine wpList_load_np rfl (.tmp 10) rfl wr.heap.size 0 rfl x X1.out.range ?_)
          | (go_at_call 13; (with_reducible refine (CK.out _).mono ?_); rintro e w3 ⟨rfl, hb⟩; have P := Lib.hid (P1.out.on hb); have R := Lib.hid (R1.out.on hb); have X := Lib.hid (X1.out.on hb); have B3 := Lib.hid hb.size; clear hb))
        obtain ⟨q0, hq0⟩ : ∃ q, q = wr.heap.size := ⟨_, rfl⟩
        have HQ0 : Hid (g < q0 ∧ q0 < w3.heap.size) := by show _ ∧ _; rw [hq0]; exact ⟨GLT.out, X.out.cs.2.2⟩
        rw [← hq0] at X ⊢
        clear hq0 P1 R1 X1 CK RG

        have D3 := Lib.hid ((Below.refl w3.heap.size w3).drew)
        have P := Lib.hid (P.out.on D3.out)
        have R := Lib.hid (R.out.on D3.out)
        have X := Lib.hid (X.out.on D3.out)
        clear D3
        generalize hwd : w3.drew = wd at *
        refine wp_region_held_drew (S := fun W => NrAt W g (s.room : Nat) (.slice A1 s.l.length c1) s.sent s.lost ∧ NpAt W q0 x) (by kernel_rfl) (by rw [hwd]; exact ⟨R.out, X.out⟩) (fun hS => ?_)
        rw [hwd] at hS ⊢
        clear hwd R X
        refine tkYes 0 (v := nrV (s.room : Nat) (.slice A1 s.l.length c1) s.sent s.lost) rfl (by kernel_rfl) (fun _ _ _ h => h) rfl (fun W hW => take_nr (.tmp 8) rfl rfl hW.1) hS ?_
        simp only [Act.put, List.setIfInBounds_toArray, List.set_cons_zero, List.set_cons_succ]
        refine tkYes 1 (v := npV x) rfl (by kernel_rfl) (fun _ _ _ h => h) rfl (fun W hW => take_np (.tmp 10) rfl q0 0 x rfl hW.2.range) hS ?_
        simp only [Act.put, List.setIfInBounds_toArray, List.set_cons_zero, List.set_cons_succ]
        refine rnTwo 2 7 rfl rfl (by kernel_rfl) rfl rfl (fun K hK => ?_) (fun K hK => ?_)
        · go_simp
          with_reducible refine (npmsg_any x _).mono ?_
          rintro e w4 ⟨rfl, hb4⟩
          have P := Lib.hid (P.out.on hb4)
  
          have hS2 : NrAt w4 g (s.room : Nat) (.slice A1 s.l.length c1) s.sent s.lost ∧ NpAt w4 q0 x := ⟨hS.1.on hb4, hS.2.on hb4⟩
          clear hS
          have hS := hS2
          clear hS2
          clear hb4
          refine hK.out _ _ hS (fun _ => ?_)
          clear hK K
          try simp only [Act.put, List.setIfInBounds_toArray, List.set_cons_zero, List.set_cons_succ]
          refine rnTwo 3 7 rfl rfl (by kernel_rfl) rfl rfl (fun K hK => ?_) (fun K hK => ?_)
          · go_simp
            with_reducible refine (CS.out _ _ P.out).mono ?_
            rintro e w5 hp5
            obtain ⟨A5, c5, rfl, hpm, hb5⟩ := P.out.ref hp5
            have P := Lib.hid hpm
    
            have hS2 : NrAt w5 g (s.room : Nat) (.slice A1 s.l.length c1) s.sent s.lost ∧ NpAt w5 q0 x := ⟨hS.1.on hb5, hS.2.on hb5⟩
            clear hS
            have hS := hS2
            clear hS2
            clear hp5 hpm hb5
            refine hK.out _ _ hS (fun _ => ?_)
            clear hK K
            try simp only [Act.put, List.setIfInBounds_toArray, List.set_cons_zero, List.set_cons_succ]
            refine tkYes 4 (v := ?_) rfl (by kernel_rfl) (fun _ _ _ h => h) rfl ?_ hS ?_
            rotate_left
            · intro W hW; go_simp; (try with_reducible rfl)
            simp only [Act.put, List.setIfInBounds_toArray, List.set_cons_zero, List.set_cons_succ]
            refine tkYes 5 (v := ?_) rfl (by kernel_rfl) (fun _ _ _ h => h) rfl ?_ hS ?_
            rotate_left
            · intro W hW; go_simp; (try with_reducible rfl)
            simp only [Act.put, List.setIfInBounds_toArray, List.set_cons_zero, List.set_cons_succ]
            refine tkYes 6 (v := ?_) rfl (by kernel_rfl) (fun _ _ _ h => h) rfl ?_ hS ?_
            rotate_left
            · intro W hW; go_simp; (try with_reducible rfl)
            simp only [Act.put, List.setIfInBounds_toArray, List.set_cons_zero, List.set_cons_succ]
            refine rnOne 7 rfl (by kernel_rfl) rfl (fun K hK => ?_)
            go_simp
            have hb7 : Below w5.heap.size w5 (w5.alloc (.cells #[.int .i64 0, .slice none 0 0, .int .i64 0, .int .i64 0] 28)) := (Below.refl _ _).alloc (Nat.le_refl _) _
            have Z := Lib.hid (NrAt.new w5 0 (.slice none 0 0) 0 0)
            have HQ1 : Hid (g < w5.heap.size ∧ q0 < w5.heap.size) := ⟨P.out.lt, hS.2.cs.2.2⟩
            have P := Lib.hid ((P.out.extra hb7).sub (E' := fun b => b = w5.heap.size) (by rintro b rfl; exact ⟨Nat.le_refl _, Z.out.cs.lt⟩))
            have hS2 : NrAt (w5.alloc (.cells #[.int .i64 0, .slice none 0 0, .int .i64 0, .int .i64 0] 28)) g (s.room : Nat) (.slice A1 s.l.length c1) s.sent s.lost ∧ NpAt (w5.alloc (.cells #[.int .i64 0, .slice none 0 0, .int .i64 0, .int .i64 0] 28)) q0 x := ⟨hS.1.on hb7, hS.2.on hb7⟩
            clear hS
            have hS := hS2
            clear hS2 hb7
            obtain ⟨q1, hq1⟩ : ∃ q, q = w5.heap.size := ⟨_, rfl⟩
            rw [← hq1] at Z HQ1 P ⊢
            clear hq1
            generalize w5.alloc (.cells #[.int .i64 0, .slice none 0 0, .int .i64 0, .int .i64 0] 28) = w6 at *
            refine hK.out _ _ hS (fun _ => ?_)
            clear hK K
            try simp only [Act.put, List.setIfInBounds_toArray, List.set_cons_zero, List.set_cons_succ]
            refine rnOne 8 rfl (by kernel_rfl) rfl (fun K hK => ?_)
            refine run_store_nr (.tmp 12) (.tmp 51) rfl rfl rfl rfl Z.out ?_
            intro w7 hx7 hg7
            have ZR := Lib.hid hx7
            have P := Lib.hid (P.out.at_ hg7 (.inr rfl) (by have := HQ1.out; have := P.out.ge; omega))
            have hS2 : NrAt w7 g (s.room : Nat) (.slice A1 s.l.length c1) s.sent s.lost ∧ NpAt w7 q0 x := ⟨hS.1.keep (hg7.block g hS.1.cs.lt (fun e => by injection e with e; have := HQ1.out; omega)), ⟨(hg7.block q0 hS.2.cs.2.2 (fun e => by injection e with e; have := HQ1.out; omega)).trans hS.2.row⟩⟩
            clear hS hx7 hg7
            have hS := hS2
            clear hS2
            refine hK.out _ _ hS (fun _ => ?_)
            clear hK K
            try simp only [Act.put, List.setIfInBounds_toArray, List.set_cons_zero, List.set_cons_succ]
            refine tkYes 9 (v := ?_) rfl (by kernel_rfl) (fun _ _ _ h => h) rfl ?_ hS ?_
            rotate_left
            · intro W hW; go_simp; (try with_reducible rfl)
            simp only [Act.put, List.setIfInBounds_toArray, List.set_cons_zero, List.set_cons_succ]
            refine wpAnyH_done (by kernel_rfl) ?_ _
            have R7 := Lib.hid hS.1
            have X7 := Lib.hid hS.2
            clear hS
            go_upto_region 29 with (first
              | ((with_reducible show wpList _ _ _ ({ dst := some 53, op := .load _ _, type := _, pos := _, after := _, guard := _ } :: _) _ _); refine wpList_load_nr rfl (.tmp 12) rfl rfl ZR.out ?_)
              | (((with_reducible show wpList _ _ _ ({ dst := none, op := .store _ _ _, type := _, pos := _, after := _, guard := _ } :: _) _ _); refine wpList_store_nr rfl (.tmp 8) (.tmp 53) rfl rfl rfl rfl R7.out ?_); intro w8 hx8 hg8; have R8 := Lib.hid hx8; have P8 := Lib.hid (P.out.store hg8); have X8 : Hid (NpAt w8 q0 x) := ⟨(hg8.block q0 X7.out.cs.2.2 (fun e => by injection e with e; have := HQ0.out; omega)).trans X7.out.row⟩; clear hx8 hg8)
              | ((with_reducible show wpList _ _ _ ({ dst := some 55, op := .load _ _, type := _, pos := _, after := _, guard := _ } :: _) _ _); refine wpList_load_np rfl (.tmp 10) rfl q0 0 rfl x X8.out.range ?_)
              | (go_at_call 15; (with_reducible refine (npmsg_any x _).mono ?_); rintro e w9 ⟨rfl, hb9⟩; have P9 := Lib.hid (P8.out.on hb9); have R9 := Lib.hid (R8.out.on hb9); clear hb9)
              | (go_at_call 16; (with_reducible refine (CN.out _ _ _ _ _ P9.out).mono ?_); rintro e wa hra; obtain ⟨rfl, hpa, hka⟩ := P9.out.res hra; have P := Lib.hid hpa; have R := Lib.hid (R9.out.keep (hka g (.inl rfl))); clear hra hpa hka))
            clear P8 P9 R7 R8 R9 X7 X8 ZR Z HQ1 CS CN
    
            obtain ⟨m2, hm2⟩ : ∃ m2, m2 = s2.l.length := ⟨_, rfl⟩
            obtain ⟨se2, hse2⟩ : ∃ se2, se2 = s2.sent := ⟨_, rfl⟩
            obtain ⟨lo2, hlo2⟩ : ∃ lo2, lo2 = s2.lost := ⟨_, rfl⟩
            have HM2 := Lib.hid hm2.symm
            have HSE2 := Lib.hid hse2.symm
            have HLO2 := Lib.hid hlo2.symm
            rw [← hm2, ← hse2, ← hlo2] at R
            clear hm2 hse2 hlo2
            have D9 := Lib.hid ((Below.refl wa.heap.size wa).drew)
            have P := Lib.hid (P.out.on D9.out)
            have R := Lib.hid (R.out.on D9.out)
            clear D9
            generalize hw10 : wa.drew = w10 at *
            refine wp_region_held_drew (S := fun W => PM w r g s2 A5 c5 s2 (fun _ => False) W ∧ NrAt W g (s2.room : Nat) (.slice A5 m2 c5) se2 lo2) (by kernel_rfl) (by rw [hw10]; exact ⟨P.out, R.out⟩) (fun hS => ?_)
            rw [hw10] at hS ⊢
            clear hw10 P R
            refine tkYes 0 (v := ?_) rfl (by kernel_rfl) (fun _ _ _ h => h) rfl ?_ hS ?_
            rotate_left
            · intro W hW; go_simp; (try with_reducible rfl)
            simp only [Act.put, List.setIfInBounds_toArray, List.set_cons_zero, List.set_cons_succ]
            refine tkYes 1 (v := ?_) rfl (by kernel_rfl) (fun _ _ _ h => h) rfl ?_ hS ?_
            rotate_left
            · intro W hW; go_simp; (try with_reducible rfl)
            simp only [Act.put, List.setIfInBounds_toArray, List.set_cons_zero, List.set_cons_succ]
            refine tkYes 2 (v := ?_) rfl (by kernel_rfl) (fun _ _ _ h => h) rfl ?_ hS ?_
            rotate_left
            · intro W hW; go_simp; (try with_reducible rfl)
            simp only [Act.put, List.setIfInBounds_toArray, List.set_cons_zero, List.set_cons_succ]
            refine tkYes 3 (v := ?_) rfl (by kernel_rfl) (fun _ _ _ h => h) rfl ?_ hS ?_
            rotate_left
            · intro W hW; go_simp; (try with_reducible rfl)
            simp only [Act.put, List.setIfInBounds_toArray, List.set_cons_zero, List.set_cons_succ]
            refine tkYes 5 (v := ?_) rfl (by kernel_rfl) (fun _ _ _ h => h) rfl ?_ hS ?_
            rotate_left
            · intro W hW; go_simp; (try with_reducible rfl)
            simp only [Act.put, List.setIfInBounds_toArray, List.set_cons_zero, List.set_cons_succ]
            refine tkYes 6 (v := ?_) rfl (by kernel_rfl) (fun _ _ _ h => h) rfl ?_ hS ?_
            rotate_left
            · intro W hW; obtain ⟨y0, y1, y2, y3, yf, yl⟩ := hW.2.cs; go_simp; (try with_reducible rfl)
            simp only [Act.put, List.setIfInBounds_toArray, List.set_cons_zero, List.set_cons_succ]
            refine rnOne 4 rfl (by kernel_rfl) rfl (fun K hK => ?_)
            go_simp
            with_reducible refine (p_all hS.1 HM2.out).mono ?_
            rintro e w11 ⟨A7, c7, rfl, hs7, hb7⟩
            have S7 := Lib.hid hs7
            have hS2 : PM w r g s2 A5 c5 s2 (fun _ => False) w11 ∧ NrAt w11 g (s2.room : Nat) (.slice A5 m2 c5) se2 lo2 := ⟨hS.1.on hb7, hS.2.on hb7⟩
            clear hS
            have hS := hS2
            clear hS2
            clear hs7 hb7
            refine hK.out _ _ hS (fun _ => ?_)
            clear hK K
            try simp only [Act.put, List.setIfInBounds_toArray, List.set_cons_zero, List.set_cons_succ]
            refine rnOne 7 rfl (by kernel_rfl) rfl (fun K hK => ?_)
            go_simp
            with_reducible refine (rtsame_eq A7 A5 m2 c7 c5 s2.l _ S7.out (HM2.out ▸ hS.1.sl)).mono ?_
            rintro e w12 ⟨rfl, hb8⟩
            have hS2 : PM w r g s2 A5 c5 s2 (fun _ => False) w12 ∧ NrAt w12 g (s2.room : Nat) (.slice A5 m2 c5) se2 lo2 := ⟨hS.1.on hb8, hS.2.on hb8⟩
            clear hS
            have hS := hS2
            clear hS2
            clear hb8
            refine hK.out _ _ hS (fun _ => ?_)
            clear hK K
            try simp only [Act.put, List.setIfInBounds_toArray, List.set_cons_zero, List.set_cons_succ]
            refine tkYes 8 (v := ?_) rfl (by kernel_rfl) (fun _ _ _ h => h) rfl ?_ hS ?_
            rotate_left
            · intro W hW; go_simp; (try with_reducible rfl)
            simp only [Act.put, List.setIfInBounds_toArray, List.set_cons_zero, List.set_cons_succ]
            refine tkYes 9 (v := ?_) rfl (by kernel_rfl) (fun _ _ _ h => h) rfl ?_ hS ?_
            rotate_left
            · intro W hW; go_simp; (try with_reducible rfl)
            simp only [Act.put, List.setIfInBounds_toArray, List.set_cons_zero, List.set_cons_succ]
            refine tkYes 10 (v := ?_) rfl (by kernel_rfl) (fun _ _ _ h => h) rfl ?_ hS ?_
            rotate_left
            · intro W hW; go_simp; (try with_reducible rfl)
            simp only [Act.put, List.setIfInBounds_toArray, List.set_cons_zero, List.set_cons_succ]
            refine tkYes 11 (v := ?_) rfl (by kernel_rfl) (fun _ _ _ h => h) rfl ?_ hS ?_
            rotate_left
            · intro W hW; go_simp; (try with_reducible rfl)
            simp only [Act.put, List.setIfInBounds_toArray, List.set_cons_zero, List.set_cons_succ]
            refine tkYes 13 (v := ?_) rfl (by kernel_rfl) (fun _ _ _ h => h) rfl ?_ hS ?_
            rotate_left
            · intro W hW; go_simp; (try with_reducible rfl)
            simp only [Act.put, List.setIfInBounds_toArray, List.set_cons_zero, List.set_cons_succ]
            refine tkYes 14 (v := ?_) rfl (by kernel_rfl) (fun _ _ _ h => h) rfl ?_ hS ?_
            rotate_left
            · intro W hW; obtain ⟨y0, y1, y2, y3, yf, yl⟩ := hW.2.cs; go_simp; (try with_reducible rfl)
            simp only [Act.put, List.setIfInBounds_toArray, List.set_cons_zero, List.set_cons_succ]
            refine tkYes 15 (v := ?_) rfl (by kernel_rfl) (fun _ _ _ h => h) rfl ?_ hS ?_
            rotate_left
            · intro W hW; go_simp; (try with_reducible rfl)
            simp only [Act.put, List.setIfInBounds_toArray, List.set_cons_zero, List.set_cons_succ]
            refine rnOne 12 rfl (by kernel_rfl) rfl (fun K hK => ?_)
            go_simp
            with_reducible refine (p_len hS.1 HM2.out).mono ?_
            rintro e wz ⟨rfl, hw⟩
            subst hw
            refine hK.out _ _ hS (fun _ => ?_)
            clear hK K
            try simp only [Act.put, List.setIfInBounds_toArray, List.set_cons_zero, List.set_cons_succ]
            refine tkYes 16 (v := ?_) rfl (by kernel_rfl) (fun _ _ _ h => h) rfl ?_ hS ?_
            rotate_left
            · intro W hW; go_simp; (try with_reducible rfl)
            simp only [Act.put, List.setIfInBounds_toArray, List.set_cons_zero, List.set_cons_succ]
            refine tkYes 17 (v := ?_) rfl (by kernel_rfl) (fun _ _ _ h => h) rfl ?_ hS ?_
            rotate_left
            · intro W hW; go_simp; (try with_reducible rfl)
            simp only [Act.put, List.setIfInBounds_toArray, List.set_cons_zero, List.set_cons_succ]
            refine tkYes 18 (v := ?_) rfl (by kernel_rfl) (fun _ _ _ h => h) rfl ?_ hS ?_
            rotate_left
            · intro W hW; go_simp; (try with_reducible rfl)
            simp only [Act.put, List.setIfInBounds_toArray, List.set_cons_zero, List.set_cons_succ]
            refine tkYes 19 (v := ?_) rfl (by kernel_rfl) (fun _ _ _ h => h) rfl ?_ hS ?_
            rotate_left
            · intro W hW; go_simp; (try with_reducible rfl)
            simp only [Act.put, List.setIfInBounds_toArray, List.set_cons_zero, List.set_cons_succ]
            refine tkYes 21 (v := ?_) rfl (by kernel_rfl) (fun _ _ _ h => h) rfl ?_ hS ?_
            rotate_left
            · intro W hW; go_simp; (try with_reducible rfl)
            simp only [Act.put, List.setIfInBounds_toArray, List.set_cons_zero, List.set_cons_succ]
            refine tkYes 22 (v := ?_) rfl (by kernel_rfl) (fun _ _ _ h => h) rfl ?_ hS ?_
            rotate_left
            · intro W hW; obtain ⟨y0, y1, y2, y3, yf, yl⟩ := hW.2.cs; go_simp; (try with_reducible rfl)
            simp only [Act.put, List.setIfInBounds_toArray, List.set_cons_zero, List.set_cons_succ]
            refine rnOne 20 rfl (by kernel_rfl) rfl (fun K hK => ?_)
            go_simp
            with_reducible refine (p_sent hS.1 HSE2.out).mono ?_
            rintro e wz ⟨rfl, hw⟩
            subst hw
            refine hK.out _ _ hS (fun _ => ?_)
            clear hK K
            try simp only [Act.put, List.setIfInBounds_toArray, List.set_cons_zero, List.set_cons_succ]
            refine tkYes 23 (v := ?_) rfl (by kernel_rfl) (fun _ _ _ h => h) rfl ?_ hS ?_
            rotate_left
            · intro W hW; go_simp; (try with_reducible rfl)
            simp only [Act.put, List.setIfInBounds_toArray, List.set_cons_zero, List.set_cons_succ]
            refine tkYes 24 (v := ?_) rfl (by kernel_rfl) (fun _ _ _ h => h) rfl ?_ hS ?_
            rotate_left
            · intro W hW; go_simp; (try with_reducible rfl)
            simp only [Act.put, List.setIfInBounds_toArray, List.set_cons_zero, List.set_cons_succ]
            refine tkYes 25 (v := ?_) rfl (by kernel_rfl) (fun _ _ _ h => h) rfl ?_ hS ?_
            rotate_left
            · intro W hW; go_simp; (try with_reducible rfl)
            simp only [Act.put, List.setIfInBounds_toArray, List.set_cons_zero, List.set_cons_succ]
            refine tkYes 26 (v := ?_) rfl (by kernel_rfl) (fun _ _ _ h => h) rfl ?_ hS ?_
            rotate_left
            · intro W hW; go_simp; (try with_reducible rfl)
            simp only [Act.put, List.setIfInBounds_toArray, List.set_cons_zero, List.set_cons_succ]
            refine tkYes 28 (v := ?_) rfl (by kernel_rfl) (fun _ _ _ h => h) rfl ?_ hS ?_
            rotate_left
            · intro W hW; go_simp; (try with_reducible rfl)
            simp only [Act.put, List.setIfInBounds_toArray, List.set_cons_zero, List.set_cons_succ]
            refine tkYes 29 (v := ?_) rfl (by kernel_rfl) (fun _ _ _ h => h) rfl ?_ hS ?_
            rotate_left
            · intro W hW; obtain ⟨y0, y1, y2, y3, yf, yl⟩ := hW.2.cs; go_simp; (try with_reducible rfl)
            simp only [Act.put, List.setIfInBounds_toArray, List.set_cons_zero, List.set_cons_succ]
            refine rnOne 27 rfl (by kernel_rfl) rfl (fun K hK => ?_)
            go_simp
            with_reducible refine (p_lost hS.1 HLO2.out).mono ?_
            rintro e wz ⟨rfl, hw⟩
            subst hw
            refine hK.out _ _ hS (fun _ => ?_)
            clear hK K
            try simp only [Act.put, List.setIfInBounds_toArray, List.set_cons_zero, List.set_cons_succ]
            refine tkYes 30 (v := ?_) rfl (by kernel_rfl) (fun _ _ _ h => h) rfl ?_ hS ?_
            rotate_left
            · intro W hW; go_simp; (try with_reducible rfl)
            simp only [Act.put, List.setIfInBounds_toArray, List.set_cons_zero, List.set_cons_succ]
            refine tkYes 31 (v := ?_) rfl (by kernel_rfl) (fun _ _ _ h => h) rfl ?_ hS ?_
            rotate_left
            · intro W hW; go_simp; (try with_reducible rfl)
            simp only [Act.put, List.setIfInBounds_toArray, List.set_cons_zero, List.set_cons_succ]
            refine wpAnyH_done (by kernel_rfl) ?_ _
            have HP := Lib.hid hS
            clear hS
            go_wp2_with fail
            exact ⟨⟨j + 1, s2, by omega, by go_num, BD2.out, A5, c5, HM2.out.symm ▸ HSE2.out.symm ▸ HLO2.out.symm ▸ HP.out.2, HP.out.1⟩, by simp [intOf]; omega⟩
          · go_simp
            have hb7 : Below w4.heap.size w4 (w4.alloc (.cells #[.int .i64 0, .slice none 0 0, .int .i64 0, .int .i64 0] 28)) := (Below.refl _ _).alloc (Nat.le_refl _) _
            have Z := Lib.hid (NrAt.new w4 0 (.slice none 0 0) 0 0)
            have HQ1 : Hid (g < w4.heap.size ∧ q0 < w4.heap.size) := ⟨P.out.lt, hS.2.cs.2.2⟩
            have P := Lib.hid ((P.out.extra hb7).sub (E' := fun b => b = w4.heap.size) (by rintro b rfl; exact ⟨Nat.le_refl _, Z.out.cs.lt⟩))
            have hS2 : NrAt (w4.alloc (.cells #[.int .i64 0, .slice none 0 0, .int .i64 0, .int .i64 0] 28)) g (s.room : Nat) (.slice A1 s.l.length c1) s.sent s.lost ∧ NpAt (w4.alloc (.cells #[.int .i64 0, .slice none 0 0, .int .i64 0, .int .i64 0] 28)) q0 x := ⟨hS.1.on hb7, hS.2.on hb7⟩
            clear hS
            have hS := hS2
            clear hS2 hb7
            obtain ⟨q1, hq1⟩ : ∃ q, q = w4.heap.size := ⟨_, rfl⟩
            rw [← hq1] at Z HQ1 P ⊢
            clear hq1
            generalize w4.alloc (.cells #[.int .i64 0, .slice none 0 0, .int .i64 0, .int .i64 0] 28) = w6 at *
            refine hK.out _ _ hS (fun _ => ?_)
            clear hK K
            try simp only [Act.put, List.setIfInBounds_toArray, List.set_cons_zero, List.set_cons_succ]
            refine rnOne 3 rfl (by kernel_rfl) rfl (fun K hK => ?_)
            go_simp
            with_reducible refine (CS.out _ _ P.out).mono ?_
            rintro e w5 hp5
            obtain ⟨A5, c5, rfl, hpm, hb5⟩ := P.out.ref hp5
            have P := Lib.hid hpm
            have Z := Lib.hid (Z.out.on hb5)
            have hS2 : NrAt w5 g (s.room : Nat) (.slice A1 s.l.length c1) s.sent s.lost ∧ NpAt w5 q0 x := ⟨hS.1.on hb5, hS.2.on hb5⟩
            clear hS
            have hS := hS2
            clear hS2
            clear hp5 hpm hb5
            refine hK.out _ _ hS (fun _ => ?_)
            clear hK K
            try simp only [Act.put, List.setIfInBounds_toArray, List.set_cons_zero, List.set_cons_succ]
            refine tkYes 4 (v := ?_) rfl (by kernel_rfl) (fun _ _ _ h => h) rfl ?_ hS ?_
            rotate_left
            · intro W hW; go_simp; (try with_reducible rfl)
            simp only [Act.put, List.setIfInBounds_toArray, List.set_cons_zero, List.set_cons_succ]
            refine tkYes 5 (v := ?_) rfl (by kernel_rfl) (fun _ _ _ h => h) rfl ?_ hS ?_
            rotate_left
            · intro W hW; go_simp; (try with_reducible rfl)
            simp only [Act.put, List.setIfInBounds_toArray, List.set_cons_zero, List.set_cons_succ]
            refine tkYes 6 (v := ?_) rfl (by kernel_rfl) (fun _ _ _ h => h) rfl ?_ hS ?_
            rotate_left
            · intro W hW; go_simp; (try with_reducible rfl)
            simp only [Act.put, List.setIfInBounds_toArray, List.set_cons_zero, List.set_cons_succ]
            refine rnOne 8 rfl (by kernel_rfl) rfl (fun K hK => ?_)
            refine run_store_nr (.tmp 12) (.tmp 51) rfl rfl rfl rfl Z.out ?_
            intro w7 hx7 hg7
            have ZR := Lib.hid hx7
            have P := Lib.hid (P.out.at_ hg7 (.inr rfl) (by have := HQ1.out; have := P.out.ge; omega))
            have hS2 : NrAt w7 g (s.room : Nat) (.slice A1 s.l.length c1) s.sent s.lost ∧ NpAt w7 q0 x := ⟨hS.1.keep (hg7.block g hS.1.cs.lt (fun e => by injection e with e; have := HQ1.out; omega)), ⟨(hg7.block q0 hS.2.cs.2.2 (fun e => by injection e with e; have := HQ1.out; omega)).trans hS.2.row⟩⟩
            clear hS hx7 hg7
            have hS := hS2
            clear hS2
            refine hK.out _ _ hS (fun _ => ?_)
            clear hK K
            try simp only [Act.put, List.setIfInBounds_toArray, List.set_cons_zero, List.set_cons_succ]
            refine tkYes 9 (v := ?_) rfl (by kernel_rfl) (fun _ _ _ h => h) rfl ?_ hS ?_
            rotate_left
            · intro W hW; go_simp; (try with_reducible rfl)
            simp only [Act.put, List.setIfInBounds_toArray, List.set_cons_zero, List.set_cons_succ]
            refine wpAnyH_done (by kernel_rfl) ?_ _
            have R7 := Lib.hid hS.1
            have X7 := Lib.hid hS.2
            clear hS
            go_upto_region 29 with (first
              | ((with_reducible show wpList _ _ _ ({ dst := some 53, op := .load _ _, type := _, pos := _, after := _, guard := _ } :: _) _ _); refine wpList_load_nr rfl (.tmp 12) rfl rfl ZR.out ?_)
              | (((with_reducible show wpList _ _ _ ({ dst := none, op := .store _ _ _, type := _, pos := _, after := _, guard := _ } :: _) _ _); refine wpList_store_nr rfl (.tmp 8) (.tmp 53) rfl rfl rfl rfl R7.out ?_); intro w8 hx8 hg8; have R8 := Lib.hid hx8; have P8 := Lib.hid (P.out.store hg8); have X8 : Hid (NpAt w8 q0 x) := ⟨(hg8.block q0 X7.out.cs.2.2 (fun e => by injection e with e; have := HQ0.out; omega)).trans X7.out.row⟩; clear hx8 hg8)
              | ((with_reducible show wpList _ _ _ ({ dst := some 55, op := .load _ _, type := _, pos := _, after := _, guard := _ } :: _) _ _); refine wpList_load_np rfl (.tmp 10) rfl q0 0 rfl x X8.out.range ?_)
              | (go_at_call 15; (with_reducible refine (npmsg_any x _).mono ?_); rintro e w9 ⟨rfl, hb9⟩; have P9 := Lib.hid (P8.out.on hb9); have R9 := Lib.hid (R8.out.on hb9); clear hb9)
              | (go_at_call 16; (with_reducible refine (CN.out _ _ _ _ _ P9.out).mono ?_); rintro e wa hra; obtain ⟨rfl, hpa, hka⟩ := P9.out.res hra; have P := Lib.hid hpa; have R := Lib.hid (R9.out.keep (hka g (.inl rfl))); clear hra hpa hka))
            clear P8 P9 R7 R8 R9 X7 X8 ZR Z HQ1 CS CN
    
            obtain ⟨m2, hm2⟩ : ∃ m2, m2 = s2.l.length := ⟨_, rfl⟩
            obtain ⟨se2, hse2⟩ : ∃ se2, se2 = s2.sent := ⟨_, rfl⟩
            obtain ⟨lo2, hlo2⟩ : ∃ lo2, lo2 = s2.lost := ⟨_, rfl⟩
            have HM2 := Lib.hid hm2.symm
            have HSE2 := Lib.hid hse2.symm
            have HLO2 := Lib.hid hlo2.symm
            rw [← hm2, ← hse2, ← hlo2] at R
            clear hm2 hse2 hlo2
            have D9 := Lib.hid ((Below.refl wa.heap.size wa).drew)
            have P := Lib.hid (P.out.on D9.out)
            have R := Lib.hid (R.out.on D9.out)
            clear D9
            generalize hw10 : wa.drew = w10 at *
            refine wp_region_held_drew (S := fun W => PM w r g s2 A5 c5 s2 (fun _ => False) W ∧ NrAt W g (s2.room : Nat) (.slice A5 m2 c5) se2 lo2) (by kernel_rfl) (by rw [hw10]; exact ⟨P.out, R.out⟩) (fun hS => ?_)
            rw [hw10] at hS ⊢
            clear hw10 P R
            refine tkYes 0 (v := ?_) rfl (by kernel_rfl) (fun _ _ _ h => h) rfl ?_ hS ?_
            rotate_left
            · intro W hW; go_simp; (try with_reducible rfl)
            simp only [Act.put, List.setIfInBounds_toArray, List.set_cons_zero, List.set_cons_succ]
            refine tkYes 1 (v := ?_) rfl (by kernel_rfl) (fun _ _ _ h => h) rfl ?_ hS ?_
            rotate_left
            · intro W hW; go_simp; (try with_reducible rfl)
            simp only [Act.put, List.setIfInBounds_toArray, List.set_cons_zero, List.set_cons_succ]
            refine tkYes 2 (v := ?_) rfl (by kernel_rfl) (fun _ _ _ h => h) rfl ?_ hS ?_
            rotate_left
            · intro W hW; go_simp; (try with_reducible rfl)
            simp only [Act.put, List.setIfInBounds_toArray, List.set_cons_zero, List.set_cons_succ]
            refine tkYes 3 (v := ?_) rfl (by kernel_rfl) (fun _ _ _ h => h) rfl ?_ hS ?_
            rotate_left
            · intro W hW; go_simp; (try with_reducible rfl)
            simp only [Act.put, List.setIfInBounds_toArray, List.set_cons_zero, List.set_cons_succ]
            refine tkYes 5 (v := ?_) rfl (by kernel_rfl) (fun _ _ _ h => h) rfl ?_ hS ?_
            rotate_left
            · intro W hW; go_simp; (try with_reducible rfl)
            simp only [Act.put, List.setIfInBounds_toArray, List.set_cons_zero, List.set_cons_succ]
            refine tkYes 6 (v := ?_) rfl (by kernel_rfl) (fun _ _ _ h => h) rfl ?_ hS ?_
            rotate_left
            · intro W hW; obtain ⟨y0, y1, y2, y3, yf, yl⟩ := hW.2.cs; go_simp; (try with_reducible rfl)
            simp only [Act.put, List.setIfInBounds_toArray, List.set_cons_zero, List.set_cons_succ]
            refine rnOne 4 rfl (by kernel_rfl) rfl (fun K hK => ?_)
            go_simp
            with_reducible refine (p_all hS.1 HM2.out).mono ?_
            rintro e w11 ⟨A7, c7, rfl, hs7, hb7⟩
            have S7 := Lib.hid hs7
            have hS2 : PM w r g s2 A5 c5 s2 (fun _ => False) w11 ∧ NrAt w11 g (s2.room : Nat) (.slice A5 m2 c5) se2 lo2 := ⟨hS.1.on hb7, hS.2.on hb7⟩
            clear hS
            have hS := hS2
            clear hS2
            clear hs7 hb7
            refine hK.out _ _ hS (fun _ => ?_)
            clear hK K
            try simp only [Act.put, List.setIfInBounds_toArray, List.set_cons_zero, List.set_cons_succ]
            refine rnOne 7 rfl (by kernel_rfl) rfl (fun K hK => ?_)
            go_simp
            with_reducible refine (rtsame_eq A7 A5 m2 c7 c5 s2.l _ S7.out (HM2.out ▸ hS.1.sl)).mono ?_
            rintro e w12 ⟨rfl, hb8⟩
            have hS2 : PM w r g s2 A5 c5 s2 (fun _ => False) w12 ∧ NrAt w12 g (s2.room : Nat) (.slice A5 m2 c5) se2 lo2 := ⟨hS.1.on hb8, hS.2.on hb8⟩
            clear hS
            have hS := hS2
            clear hS2
            clear hb8
            refine hK.out _ _ hS (fun _ => ?_)
            clear hK K
            try simp only [Act.put, List.setIfInBounds_toArray, List.set_cons_zero, List.set_cons_succ]
            refine tkYes 8 (v := ?_) rfl (by kernel_rfl) (fun _ _ _ h => h) rfl ?_ hS ?_
            rotate_left
            · intro W hW; go_simp; (try with_reducible rfl)
            simp only [Act.put, List.setIfInBounds_toArray, List.set_cons_zero, List.set_cons_succ]
            refine tkYes 9 (v := ?_) rfl (by kernel_rfl) (fun _ _ _ h => h) rfl ?_ hS ?_
            rotate_left
            · intro W hW; go_simp; (try with_reducible rfl)
            simp only [Act.put, List.setIfInBounds_toArray, List.set_cons_zero, List.set_cons_succ]
            refine tkYes 10 (v := ?_) rfl (by kernel_rfl) (fun _ _ _ h => h) rfl ?_ hS ?_
            rotate_left
            · intro W hW; go_simp; (try with_reducible rfl)
            simp only [Act.put, List.setIfInBounds_toArray, List.set_cons_zero, List.set_cons_succ]
            refine tkYes 11 (v := ?_) rfl (by kernel_rfl) (fun _ _ _ h => h) rfl ?_ hS ?_
            rotate_left
            · intro W hW; go_simp; (try with_reducible rfl)
            simp only [Act.put, List.setIfInBounds_toArray, List.set_cons_zero, List.set_cons_succ]
            refine tkYes 13 (v := ?_) rfl (by kernel_rfl) (fun _ _ _ h => h) rfl ?_ hS ?_
            rotate_left
            · intro W hW; go_simp; (try with_reducible rfl)
            simp only [Act.put, List.setIfInBounds_toArray, List.set_cons_zero, List.set_cons_succ]
            refine tkYes 14 (v := ?_) rfl (by kernel_rfl) (fun _ _ _ h => h) rfl ?_ hS ?_
            rotate_left
            · intro W hW; obtain ⟨y0, y1, y2, y3, yf, yl⟩ := hW.2.cs; go_simp; (try with_reducible rfl)
            simp only [Act.put, List.setIfInBounds_toArray, List.set_cons_zero, List.set_cons_succ]
            refine tkYes 15 (v := ?_) rfl (by kernel_rfl) (fun _ _ _ h => h) rfl ?_ hS ?_
            rotate_left
            · intro W hW; go_simp; (try with_reducible rfl)
            simp only [Act.put, List.setIfInBounds_toArray, List.set_cons_zero, List.set_cons_succ]
            refine rnOne 12 rfl (by kernel_rfl) rfl (fun K hK => ?_)
            go_simp
            with_reducible refine (p_len hS.1 HM2.out).mono ?_
            rintro e wz ⟨rfl, hw⟩
            subst hw
            refine hK.out _ _ hS (fun _ => ?_)
            clear hK K
            try simp only [Act.put, List.setIfInBounds_toArray, List.set_cons_zero, List.set_cons_succ]
            refine tkYes 16 (v := ?_) rfl (by kernel_rfl) (fun _ _ _ h => h) rfl ?_ hS ?_
            rotate_left
            · intro W hW; go_simp; (try with_reducible rfl)
            simp only [Act.put, List.setIfInBounds_toArray, List.set_cons_zero, List.set_cons_succ]
            refine tkYes 17 (v := ?_) rfl (by kernel_rfl) (fun _ _ _ h => h) rfl ?_ hS ?_
            rotate_left
            · intro W hW; go_simp; (try with_reducible rfl)
            simp only [Act.put, List.setIfInBounds_toArray, List.set_cons_zero, List.set_cons_succ]
            refine tkYes 18 (v := ?_) rfl (by kernel_rfl) (fun _ _ _ h => h) rfl ?_ hS ?_
            rotate_left
            · intro W hW; go_simp; (try with_reducible rfl)
            simp only [Act.put, List.setIfInBounds_toArray, List.set_cons_zero, List.set_cons_succ]
            refine tkYes 19 (v := ?_) rfl (by kernel_rfl) (fun _ _ _ h => h) rfl ?_ hS ?_
            rotate_left
            · intro W hW; go_simp; (try with_reducible rfl)
            simp only [Act.put, List.setIfInBounds_toArray, List.set_cons_zero, List.set_cons_succ]
            refine tkYes 21 (v := ?_) rfl (by kernel_rfl) (fun _ _ _ h => h) rfl ?_ hS ?_
            rotate_left
            · intro W hW; go_simp; (try with_reducible rfl)
            simp only [Act.put, List.setIfInBounds_toArray, List.set_cons_zero, List.set_cons_succ]
            refine tkYes 22 (v := ?_) rfl (by kernel_rfl) (fun _ _ _ h => h) rfl ?_ hS ?_
            rotate_left
            · intro W hW; obtain ⟨y0, y1, y2, y3, yf, yl⟩ := hW.2.cs; go_simp; (try with_reducible rfl)
            simp only [Act.put, List.setIfInBounds_toArray, List.set_cons_zero, List.set_cons_succ]
            refine rnOne 20 rfl (by kernel_rfl) rfl (fun K hK => ?_)
            go_simp
            with_reducible refine (p_sent hS.1 HSE2.out).mono ?_
            rintro e wz ⟨rfl, hw⟩
            subst hw
            refine hK.out _ _ hS (fun _ => ?_)
            clear hK K
            try simp only [Act.put, List.setIfInBounds_toArray, List.set_cons_zero, List.set_cons_succ]
            refine tkYes 23 (v := ?_) rfl (by kernel_rfl) (fun _ _ _ h => h) rfl ?_ hS ?_
            rotate_left
            · intro W hW; go_simp; (try with_reducible rfl)
            simp only [Act.put, List.setIfInBounds_toArray, List.set_cons_zero, List.set_cons_succ]
            refine tkYes 24 (v := ?_) rfl (by kernel_rfl) (fun _ _ _ h => h) rfl ?_ hS ?_
            rotate_left
            · intro W hW; go_simp; (try with_reducible rfl)
            simp only [Act.put, List.setIfInBounds_toArray, List.set_cons_zero, List.set_cons_succ]
            refine tkYes 25 (v := ?_) rfl (by kernel_rfl) (fun _ _ _ h => h) rfl ?_ hS ?_
            rotate_left
            · intro W hW; go_simp; (try with_reducible rfl)
            simp only [Act.put, List.setIfInBounds_toArray, List.set_cons_zero, List.set_cons_succ]
            refine tkYes 26 (v := ?_) rfl (by kernel_rfl) (fun _ _ _ h => h) rfl ?_ hS ?_
            rotate_left
            · intro W hW; go_simp; (try with_reducible rfl)
            simp only [Act.put, List.setIfInBounds_toArray, List.set_cons_zero, List.set_cons_succ]
            refine tkYes 28 (v := ?_) rfl (by kernel_rfl) (fun _ _ _ h => h) rfl ?_ hS ?_
            rotate_left
            · intro W hW; go_simp; (try with_reducible rfl)
            simp only [Act.put, List.setIfInBounds_toArray, List.set_cons_zero, List.set_cons_succ]
            refine tkYes 29 (v := ?_) rfl (by kernel_rfl) (fun _ _ _ h => h) rfl ?_ hS ?_
            rotate_left
            · intro W hW; obtain ⟨y0, y1, y2, y3, yf, yl⟩ := hW.2.cs; go_simp; (try with_reducible rfl)
            simp only [Act.put, List.setIfInBounds_toArray, List.set_cons_zero, List.set_cons_succ]
            refine rnOne 27 rfl (by kernel_rfl) rfl (fun K hK => ?_)
            go_simp
            with_reducible refine (p_lost hS.1 HLO2.out).mono ?_
            rintro e wz ⟨rfl, hw⟩
            subst hw
            refine hK.out _ _ hS (fun _ => ?_)
            clear hK K
            try simp only [Act.put, List.setIfInBounds_toArray, List.set_cons_zero, List.set_cons_succ]
            refine tkYes 30 (v := ?_) rfl (by kernel_rfl) (fun _ _ _ h => h) rfl ?_ hS ?_
            rotate_left
            · intro W hW; go_simp; (try with_reducible rfl)
            simp only [Act.put, List.setIfInBounds_toArray, List.set_cons_zero, List.set_cons_succ]
            refine tkYes 31 (v := ?_) rfl (by kernel_rfl) (fun _ _ _ h => h) rfl ?_ hS ?_
            rotate_left
            · intro W hW; go_simp; (try with_reducible rfl)
            simp only [Act.put, List.setIfInBounds_toArray, List.set_cons_zero, List.set_cons_succ]
            refine wpAnyH_done (by kernel_rfl) ?_ _
            have HP := Lib.hid hS
            clear hS
            go_wp2_with fail
            exact ⟨⟨j + 1, s2, by omega, by go_num, BD2.out, A5, c5, HM2.out.symm ▸ HSE2.out.symm ▸ HLO2.out.symm ▸ HP.out.2, HP.out.1⟩, by simp [intOf]; omega⟩
        · go_simp
          have hb7 : Below wd.heap.size wd (wd.alloc (.cells #[.int .i64 0, .slice none 0 0, .int .i64 0, .int .i64 0] 28)) := (Below.refl _ _).alloc (Nat.le_refl _) _
          have Z := Lib.hid (NrAt.new wd 0 (.slice none 0 0) 0 0)
          have HQ1 : Hid (g < wd.heap.size ∧ q0 < wd.heap.size) := ⟨P.out.lt, hS.2.cs.2.2⟩
          have P := Lib.hid ((P.out.extra hb7).sub (E' := fun b => b = wd.heap.size) (by rintro b rfl; exact ⟨Nat.le_refl _, Z.out.cs.lt⟩))
          have hS2 : NrAt (wd.alloc (.cells #[.int .i64 0, .slice none 0 0, .int .i64 0, .int .i64 0] 28)) g (s.room : Nat) (.slice A1 s.l.length c1) s.sent s.lost ∧ NpAt (wd.alloc (.cells #[.int .i64 0, .slice none 0 0, .int .i64 0, .int .i64 0] 28)) q0 x := ⟨hS.1.on hb7, hS.2.on hb7⟩
          clear hS
          have hS := hS2
          clear hS2 hb7
          obtain ⟨q1, hq1⟩ : ∃ q, q = wd.heap.size := ⟨_, rfl⟩
          rw [← hq1] at Z HQ1 P ⊢
          clear hq1
          generalize wd.alloc (.cells #[.int .i64 0, .slice none 0 0, .int .i64 0, .int .i64 0] 28) = w6 at *
          refine hK.out _ _ hS (fun _ => ?_)
          clear hK K
          try simp only [Act.put, List.setIfInBounds_toArray, List.set_cons_zero, List.set_cons_succ]
          refine rnOne 2 rfl (by kernel_rfl) rfl (fun K hK => ?_)
          go_simp
          with_reducible refine (npmsg_any x _).mono ?_
          rintro e w4 ⟨rfl, hb4⟩
          have P := Lib.hid (P.out.on hb4)
          have Z := Lib.hid (Z.out.on hb4)
          have hS2 : NrAt w4 g (s.room : Nat) (.slice A1 s.l.length c1) s.sent s.lost ∧ NpAt w4 q0 x := ⟨hS.1.on hb4, hS.2.on hb4⟩
          clear hS
          have hS := hS2
          clear hS2
          clear hb4
          refine hK.out _ _ hS (fun _ => ?_)
          clear hK K
          try simp only [Act.put, List.setIfInBounds_toArray, List.set_cons_zero, List.set_cons_succ]
          refine rnOne 3 rfl (by kernel_rfl) rfl (fun K hK => ?_)
          go_simp
          with_reducible refine (CS.out _ _ P.out).mono ?_
          rintro e w5 hp5
          obtain ⟨A5, c5, rfl, hpm, hb5⟩ := P.out.ref hp5
          have P := Lib.hid hpm
          have Z := Lib.hid (Z.out.on hb5)
          have hS2 : NrAt w5 g (s.room : Nat) (.slice A1 s.l.length c1) s.sent s.lost ∧ NpAt w5 q0 x := ⟨hS.1.on hb5, hS.2.on hb5⟩
          clear hS
          have hS := hS2
          clear hS2
          clear hp5 hpm hb5
          refine hK.out _ _ hS (fun _ => ?_)
          clear hK K
          try simp only [Act.put, List.setIfInBounds_toArray, List.set_cons_zero, List.set_cons_succ]
          refine tkYes 4 (v := ?_) rfl (by kernel_rfl) (fun _ _ _ h => h) rfl ?_ hS ?_
          rotate_left
          · intro W hW; go_simp; (try with_reducible rfl)
          simp only [Act.put, List.setIfInBounds_toArray, List.set_cons_zero, List.set_cons_succ]
          refine tkYes 5 (v := ?_) rfl (by kernel_rfl) (fun _ _ _ h => h) rfl ?_ hS ?_
          rotate_left
          · intro W hW; go_simp; (try with_reducible rfl)
          simp only [Act.put, List.setIfInBounds_toArray, List.set_cons_zero, List.set_cons_succ]
          refine tkYes 6 (v := ?_) rfl (by kernel_rfl) (fun _ _ _ h => h) rfl ?_ hS ?_
          rotate_left
          · intro W hW; go_simp; (try with_reducible rfl)
          simp only [Act.put, List.setIfInBounds_toArray, List.set_cons_zero, List.set_cons_succ]
          refine rnOne 8 rfl (by kernel_rfl) rfl (fun K hK => ?_)
          refine run_store_nr (.tmp 12) (.tmp 51) rfl rfl rfl rfl Z.out ?_
          intro w7 hx7 hg7
          have ZR := Lib.hid hx7
          have P := Lib.hid (P.out.at_ hg7 (.inr rfl) (by have := HQ1.out; have := P.out.ge; omega))
          have hS2 : NrAt w7 g (s.room : Nat) (.slice A1 s.l.length c1) s.sent s.lost ∧ NpAt w7 q0 x := ⟨hS.1.keep (hg7.block g hS.1.cs.lt (fun e => by injection e with e; have := HQ1.out; omega)), ⟨(hg7.block q0 hS.2.cs.2.2 (fun e => by injection e with e; have := HQ1.out; omega)).trans hS.2.row⟩⟩
          clear hS hx7 hg7
          have hS := hS2
          clear hS2
          refine hK.out _ _ hS (fun _ => ?_)
          clear hK K
          try simp only [Act.put, List.setIfInBounds_toArray, List.set_cons_zero, List.set_cons_succ]
          refine tkYes 9 (v := ?_) rfl (by kernel_rfl) (fun _ _ _ h => h) rfl ?_ hS ?_
          rotate_left
          · intro W hW; go_simp; (try with_reducible rfl)
          simp only [Act.put, List.setIfInBounds_toArray, List.set_cons_zero, List.set_cons_succ]
          refine wpAnyH_done (by kernel_rfl) ?_ _
          have R7 := Lib.hid hS.1
          have X7 := Lib.hid hS.2
          clear hS
          go_upto_region 29 with (first
            | ((with_reducible show wpList _ _ _ ({ dst := some 53, op := .load _ _, type := _, pos := _, after := _, guard := _ } :: _) _ _); refine wpList_load_nr rfl (.tmp 12) rfl rfl ZR.out ?_)
            | (((with_reducible show wpList _ _ _ ({ dst := none, op := .store _ _ _, type := _, pos := _, after := _, guard := _ } :: _) _ _); refine wpList_store_nr rfl (.tmp 8) (.tmp 53) rfl rfl rfl rfl R7.out ?_); intro w8 hx8 hg8; have R8 := Lib.hid hx8; have P8 := Lib.hid (P.out.store hg8); have X8 : Hid (NpAt w8 q0 x) := ⟨(hg8.block q0 X7.out.cs.2.2 (fun e => by injection e with e; have := HQ0.out; omega)).trans X7.out.row⟩; clear hx8 hg8)
            | ((with_reducible show wpList _ _ _ ({ dst := some 55, op := .load _ _, type := _, pos := _, after := _, guard := _ } :: _) _ _); refine wpList_load_np rfl (.tmp 10) rfl q0 0 rfl x X8.out.range ?_)
            | (go_at_call 15; (with_reducible refine (npmsg_any x _).mono ?_); rintro e w9 ⟨rfl, hb9⟩; have P9 := Lib.hid (P8.out.on hb9); have R9 := Lib.hid (R8.out.on hb9); clear hb9)
            | (go_at_call 16; (with_reducible refine (CN.out _ _ _ _ _ P9.out).mono ?_); rintro e wa hra; obtain ⟨rfl, hpa, hka⟩ := P9.out.res hra; have P := Lib.hid hpa; have R := Lib.hid (R9.out.keep (hka g (.inl rfl))); clear hra hpa hka))
          clear P8 P9 R7 R8 R9 X7 X8 ZR Z HQ1 CS CN
  
          obtain ⟨m2, hm2⟩ : ∃ m2, m2 = s2.l.length := ⟨_, rfl⟩
          obtain ⟨se2, hse2⟩ : ∃ se2, se2 = s2.sent := ⟨_, rfl⟩
          obtain ⟨lo2, hlo2⟩ : ∃ lo2, lo2 = s2.lost := ⟨_, rfl⟩
          have HM2 := Lib.hid hm2.symm
          have HSE2 := Lib.hid hse2.symm
          have HLO2 := Lib.hid hlo2.symm
          rw [← hm2, ← hse2, ← hlo2] at R
          clear hm2 hse2 hlo2
          have D9 := Lib.hid ((Below.refl wa.heap.size wa).drew)
          have P := Lib.hid (P.out.on D9.out)
          have R := Lib.hid (R.out.on D9.out)
          clear D9
          generalize hw10 : wa.drew = w10 at *
          refine wp_region_held_drew (S := fun W => PM w r g s2 A5 c5 s2 (fun _ => False) W ∧ NrAt W g (s2.room : Nat) (.slice A5 m2 c5) se2 lo2) (by kernel_rfl) (by rw [hw10]; exact ⟨P.out, R.out⟩) (fun hS => ?_)
          rw [hw10] at hS ⊢
          clear hw10 P R
          refine tkYes 0 (v := ?_) rfl (by kernel_rfl) (fun _ _ _ h => h) rfl ?_ hS ?_
          rotate_left
          · intro W hW; go_simp; (try with_reducible rfl)
          simp only [Act.put, List.setIfInBounds_toArray, List.set_cons_zero, List.set_cons_succ]
          refine tkYes 1 (v := ?_) rfl (by kernel_rfl) (fun _ _ _ h => h) rfl ?_ hS ?_
          rotate_left
          · intro W hW; go_simp; (try with_reducible rfl)
          simp only [Act.put, List.setIfInBounds_toArray, List.set_cons_zero, List.set_cons_succ]
          refine tkYes 2 (v := ?_) rfl (by kernel_rfl) (fun _ _ _ h => h) rfl ?_ hS ?_
          rotate_left
          · intro W hW; go_simp; (try with_reducible rfl)
          simp only [Act.put, List.setIfInBounds_toArray, List.set_cons_zero, List.set_cons_succ]
          refine tkYes 3 (v := ?_) rfl (by kernel_rfl) (fun _ _ _ h => h) rfl ?_ hS ?_
          rotate_left
          · intro W hW; go_simp; (try with_reducible rfl)
          simp only [Act.put, List.setIfInBounds_toArray, List.set_cons_zero, List.set_cons_succ]
          refine tkYes 5 (v := ?_) rfl (by kernel_rfl) (fun _ _ _ h => h) rfl ?_ hS ?_
          rotate_left
          · intro W hW; go_simp; (try with_reducible rfl)
          simp only [Act.put, List.setIfInBounds_toArray, List.set_cons_zero, List.set_cons_succ]
          refine tkYes 6 (v := ?_) rfl (by kernel_rfl) (fun _ _ _ h => h) rfl ?_ hS ?_
          rotate_left
          · intro W hW; obtain ⟨y0, y1, y2, y3, yf, yl⟩ := hW.2.cs; go_simp; (try with_reducible rfl)
          simp only [Act.put, List.setIfInBounds_toArray, List.set_cons_zero, List.set_cons_succ]
          refine rnOne 4 rfl (by kernel_rfl) rfl (fun K hK => ?_)
          go_simp
          with_reducible refine (p_all hS.1 HM2.out).mono ?_
          rintro e w11 ⟨A7, c7, rfl, hs7, hb7⟩
          have S7 := Lib.hid hs7
          have hS2 : PM w r g s2 A5 c5 s2 (fun _ => False) w11 ∧ NrAt w11 g (s2.room : Nat) (.slice A5 m2 c5) se2 lo2 := ⟨hS.1.on hb7, hS.2.on hb7⟩
          clear hS
          have hS := hS2
          clear hS2
          clear hs7 hb7
          refine hK.out _ _ hS (fun _ => ?_)
          clear hK K
          try simp only [Act.put, List.setIfInBounds_toArray, List.set_cons_zero, List.set_cons_succ]
          refine rnOne 7 rfl (by kernel_rfl) rfl (fun K hK => ?_)
          go_simp
          with_reducible refine (rtsame_eq A7 A5 m2 c7 c5 s2.l _ S7.out (HM2.out ▸ hS.1.sl)).mono ?_
          rintro e w12 ⟨rfl, hb8⟩
          have hS2 : PM w r g s2 A5 c5 s2 (fun _ => False) w12 ∧ NrAt w12 g (s2.room : Nat) (.slice A5 m2 c5) se2 lo2 := ⟨hS.1.on hb8, hS.2.on hb8⟩
          clear hS
          have hS := hS2
          clear hS2
          clear hb8
          refine hK.out _ _ hS (fun _ => ?_)
          clear hK K
          try simp only [Act.put, List.setIfInBounds_toArray, List.set_cons_zero, List.set_cons_succ]
          refine tkYes 8 (v := ?_) rfl (by kernel_rfl) (fun _ _ _ h => h) rfl ?_ hS ?_
          rotate_left
          · intro W hW; go_simp; (try with_reducible rfl)
          simp only [Act.put, List.setIfInBounds_toArray, List.set_cons_zero, List.set_cons_succ]
          refine tkYes 9 (v := ?_) rfl (by kernel_rfl) (fun _ _ _ h => h) rfl ?_ hS ?_
          rotate_left
          · intro W hW; go_simp; (try with_reducible rfl)
          simp only [Act.put, List.setIfInBounds_toArray, List.set_cons_zero, List.set_cons_succ]
          refine tkYes 10 (v := ?_) rfl (by kernel_rfl) (fun _ _ _ h => h) rfl ?_ hS ?_
          rotate_left
          · intro W hW; go_simp; (try with_reducible rfl)
          simp only [Act.put, List.setIfInBounds_toArray, List.set_cons_zero, List.set_cons_succ]
          refine tkYes 11 (v := ?_) rfl (by kernel_rfl) (fun _ _ _ h => h) rfl ?_ hS ?_
          rotate_left
          · intro W hW; go_simp; (try with_reducible rfl)
          simp only [Act.put, List.setIfInBounds_toArray, List.set_cons_zero, List.set_cons_succ]
          refine tkYes 13 (v := ?_) rfl (by kernel_rfl) (fun _ _ _ h => h) rfl ?_ hS ?_
          rotate_left
          · intro W hW; go_simp; (try with_reducible rfl)
          simp only [Act.put, List.setIfInBounds_toArray, List.set_cons_zero, List.set_cons_succ]
          refine tkYes 14 (v := ?_) rfl (by kernel_rfl) (fun _ _ _ h => h) rfl ?_ hS ?_
          rotate_left
          · intro W hW; obtain ⟨y0, y1, y2, y3, yf, yl⟩ := hW.2.cs; go_simp; (try with_reducible rfl)
          simp only [Act.put, List.setIfInBounds_toArray, List.set_cons_zero, List.set_cons_succ]
          refine tkYes 15 (v := ?_) rfl (by kernel_rfl) (fun _ _ _ h => h) rfl ?_ hS ?_
          rotate_left
          · intro W hW; go_simp; (try with_reducible rfl)
          simp only [Act.put, List.setIfInBounds_toArray, List.set_cons_zero, List.set_cons_succ]
          refine rnOne 12 rfl (by kernel_rfl) rfl (fun K hK => ?_)
          go_simp
          with_reducible refine (p_len hS.1 HM2.out).mono ?_
          rintro e wz ⟨rfl, hw⟩
          subst hw
          refine hK.out _ _ hS (fun _ => ?_)
          clear hK K
          try simp only [Act.put, List.setIfInBounds_toArray, List.set_cons_zero, List.set_cons_succ]
          refine tkYes 16 (v := ?_) rfl (by kernel_rfl) (fun _ _ _ h => h) rfl ?_ hS ?_
          rotate_left
          · intro W hW; go_simp; (try with_reducible rfl)
          simp only [Act.put, List.setIfInBounds_toArray, List.set_cons_zero, List.set_cons_succ]
          refine tkYes 17 (v := ?_) rfl (by kernel_rfl) (fun _ _ _ h => h) rfl ?_ hS ?_
          rotate_left
          · intro W hW; go_simp; (try with_reducible rfl)
          simp only [Act.put, List.setIfInBounds_toArray, List.set_cons_zero, List.set_cons_succ]
          refine tkYes 18 (v := ?_) rfl (by kernel_rfl) (fun _ _ _ h => h) rfl ?_ hS ?_
          rotate_left
          · intro W hW; go_simp; (try with_reducible rfl)
          simp only [Act.put, List.setIfInBounds_toArray, List.set_cons_zero, List.set_cons_succ]
          refine tkYes 19 (v := ?_) rfl (by kernel_rfl) (fun _ _ _ h => h) rfl ?_ hS ?_
          rotate_left
          · intro W hW; go_simp; (try with_reducible rfl)
          simp only [Act.put, List.setIfInBounds_toArray, List.set_cons_zero, List.set_cons_succ]
          refine tkYes 21 (v := ?_) rfl (by kernel_rfl) (fun _ _ _ h => h) rfl ?_ hS ?_
          rotate_left
          · intro W hW; go_simp; (try with_reducible rfl)
          simp only [Act.put, List.setIfInBounds_toArray, List.set_cons_zero, List.set_cons_succ]
          refine tkYes 22 (v := ?_) rfl (by kernel_rfl) (fun _ _ _ h => h) rfl ?_ hS ?_
          rotate_left
          · intro W hW; obtain ⟨y0, y1, y2, y3, yf, yl⟩ := hW.2.cs; go_simp; (try with_reducible rfl)
          simp only [Act.put, List.setIfInBounds_toArray, List.set_cons_zero, List.set_cons_succ]
          refine rnOne 20 rfl (by kernel_rfl) rfl (fun K hK => ?_)
          go_simp
          with_reducible refine (p_sent hS.1 HSE2.out).mono ?_
          rintro e wz ⟨rfl, hw⟩
          subst hw
          refine hK.out _ _ hS (fun _ => ?_)
          clear hK K
          try simp only [Act.put, List.setIfInBounds_toArray, List.set_cons_zero, List.set_cons_succ]
          refine tkYes 23 (v := ?_) rfl (by kernel_rfl) (fun _ _ _ h => h) rfl ?_ hS ?_
          rotate_left
          · intro W hW; go_simp; (try with_reducible rfl)
          simp only [Act.put, List.setIfInBounds_toArray, List.set_cons_zero, List.set_cons_succ]
          refine tkYes 24 (v := ?_) rfl (by kernel_rfl) (fun _ _ _ h => h) rfl ?_ hS ?_
          rotate_left
          · intro W hW; go_simp; (try with_reducible rfl)
          simp only [Act.put, List.setIfInBounds_toArray, List.set_cons_zero, List.set_cons_succ]
          refine tkYes 25 (v := ?_) rfl (by kernel_rfl) (fun _ _ _ h => h) rfl ?_ hS ?_
          rotate_left
          · intro W hW; go_simp; (try with_reducible rfl)
          simp only [Act.put, List.setIfInBounds_toArray, List.set_cons_zero, List.set_cons_succ]
          refine tkYes 26 (v := ?_) rfl (by kernel_rfl) (fun _ _ _ h => h) rfl ?_ hS ?_
          rotate_left
          · intro W hW; go_simp; (try with_reducible rfl)
          simp only [Act.put, List.setIfInBounds_toArray, List.set_cons_zero, List.set_cons_succ]
          refine tkYes 28 (v := ?_) rfl (by kernel_rfl) (fun _ _ _ h => h) rfl ?_ hS ?_
          rotate_left
          · intro W hW; go_simp; (try with_reducible rfl)
          simp only [Act.put, List.setIfInBounds_toArray, List.set_cons_zero, List.set_cons_succ]
          refine tkYes 29 (v := ?_) rfl (by kernel_rfl) (fun _ _ _ h => h) rfl ?_ hS ?_
          rotate_left
          · intro W hW; obtain ⟨y0, y1, y2, y3, yf, yl⟩ := hW.2.cs; go_simp; (try with_reducible rfl)
          simp only [Act.put, List.setIfInBounds_toArray, List.set_cons_zero, List.set_cons_succ]
          refine rnOne 27 rfl (by kernel_rfl) rfl (fun K hK => ?_)
          go_simp
          with_reducible refine (p_lost hS.1 HLO2.out).mono ?_
          rintro e wz ⟨rfl, hw⟩
          subst hw
          refine hK.out _ _ hS (fun _ => ?_)
          clear hK K
          try simp only [Act.put, List.setIfInBounds_toArray, List.set_cons_zero, List.set_cons_succ]
          refine tkYes 30 (v := ?_) rfl (by kernel_rfl) (fun _ _ _ h => h) rfl ?_ hS ?_
          rotate_left
          · intro W hW; go_simp; (try with_reducible rfl)
          simp only [Act.put, List.setIfInBounds_toArray, List.set_cons_zero, List.set_cons_succ]
          refine tkYes 31 (v := ?_) rfl (by kernel_rfl) (fun _ _ _ h => h) rfl ?_ hS ?_
          rotate_left
          · intro W hW; go_simp; (try with_reducible rfl)
          simp only [Act.put, List.setIfInBounds_toArray, List.set_cons_zero, List.set_cons_succ]
          refine wpAnyH_done (by kernel_rfl) ?_ _
          have HP := Lib.hid hS
          clear hS
          go_wp2_with fail
          exact ⟨⟨j + 1, s2, by omega, by go_num, BD2.out, A5, c5, HM2.out.symm ▸ HSE2.out.symm ▸ HLO2.out.symm ▸ HP.out.2, HP.out.1⟩, by simp [intOf]; omega⟩
      · rw [hk] at CK
        clear hk
        have BD2 := Lib.hid (BD.out.take hj1 x.n)
        have CS := Lib.hid (fun (E : Nat → Prop) (W : World) (h : PM w r g s A1 c1 s E W) => rts_take (w := W) h.na.ok x.n HIN.out.n h.sl)
        have CN := Lib.hid (fun (A5 : Option Addr) (c5 : Nat) (s3 : Nt.St) (E : Nat → Prop) (W : World) (h : PM w r g s A5 c5 s3 E W) => nat_take h.na x.n HIN.out.n)
        obtain ⟨s2, hs2⟩ : ∃ s2, s2 = Nt.takeS s x.n := ⟨_, rfl⟩
        rw [← hs2] at BD2 CS CN
        clear hs2
        generalize Nt.takeB s = tb at CS CN
        generalize Nt.takeM s x.n = tm at CS CN

        go_upto_region 17 with (first
          | ((with_reducible show wpList _ _ _ ({ dst := some 40, op := .load _ _, type := _, pos := _, after := _, guard := _ } :: _) _ _); refine wpList_load_np rfl (.tmp 39) rfl b (o + j * 8) rfl x RG.out ?_)
          | ((with_reducible show wpList _ _ _ ({ dst := some 41, op := .load _ _, type := _, pos := _, after := _, guard := _ } :: _) _ _); refine wpList_load_np rfl (.tmp 10) rfl wr.heap.size 0 rfl x X1.out.range ?_)
          | (go_at_call 13; (with_reducible refine (CK.out _).mono ?_); rintro e w3 ⟨rfl, hb⟩; have P := Lib.hid (P1.out.on hb); have R := Lib.hid (R1.out.on hb); have X := Lib.hid (X1.out.on hb); have B3 := Lib.hid hb.size; clear hb))
        obtain ⟨q0, hq0⟩ : ∃ q, q = wr.heap.size := ⟨_, rfl⟩
        have HQ0 : Hid (g < q0 ∧ q0 < w3.heap.size) := by show _ ∧ _; rw [hq0]; exact ⟨GLT.out, X.out.cs.2.2⟩
        rw [← hq0] at X ⊢
        clear hq0 P1 R1 X1 CK RG

        have hea : ∀ W, (binOp .eql 32 (Nt.val tm) (Nt.val tm)).run Try.prog W = .ok (.bool true) W := fun W => msg_eq (by simp) W
        have htb : (tb == tb) = true := by simp
        obtain ⟨x0, x1, xl⟩ := X.out.cs
        go_upto_region 19 with (first
          | ((with_reducible show wpList _ _ _ ({ dst := some 63, op := .load _ _, type := _, pos := _, after := _, guard := _ } :: _) _ _); refine wpList_load_nr rfl (.tmp 8) rfl rfl R.out ?_)
          | (go_at_call 17; (with_reducible refine (CS.out _ _ P.out).mono ?_); rintro e w5 hp5; obtain ⟨A5, c5, rfl, hpm, hb5⟩ := P.out.ref hp5; have P5 := Lib.hid hpm; have R5 := Lib.hid (R.out.on hb5); have X5 := Lib.hid (X.out.on hb5); clear hp5 hpm hb5)
          | (((with_reducible show wpList _ _ _ ({ dst := none, op := .store _ _ _, type := _, pos := _, after := _, guard := _ } :: _) _ _); refine wpList_store_nr rfl (.tmp 14) (.tmp 67) rfl rfl rfl rfl ⟨(two_new rfl).1⟩ ?_); intro w6 hx6 hg6; have Q6 := Lib.hid hx6; have G6 := Lib.hid hg6; clear hx6 hg6)
          | (((with_reducible show wpList _ _ _ ({ dst := none, op := .store _ _ _, type := _, pos := _, after := _, guard := _ } :: _) _ _); refine wpList_store_msg rfl (.tmp 15) (.tmp 68) rfl Nt.zero tm rfl rfl ⟨(G6.out.block _ (by simp) (fun e => by injection e with e; omega)).trans (two_new rfl).2.1⟩ ?_); intro w7 hx7 hg7; have M7 := Lib.hid hx7; have Q7 := Lib.hid (Q6.out.keep (hg7.block _ Q6.out.cs.lt (fun e => by injection e with e; omega))); have D7 : Hid (Below w5.heap.size w5 w7) := ((two_new (w := w5) rfl).2.2.1.grown G6.out (two_new (w := w5) rfl).2.2.1.size (fun b hb => by injection hb with hb; omega)).grown hg7 (Nat.le_trans (two_new (w := w5) rfl).2.2.1.size G6.out.size) (fun b hb => by injection hb with hb; omega); have P7 := Lib.hid ((P5.out.extra D7.out).sub (E' := fun b => b = w5.heap.size + 1) (by rintro b rfl; exact ⟨by omega, M7.out.cs.lt⟩)); have R7 := Lib.hid (R5.out.on D7.out); have X7 := Lib.hid (X5.out.on D7.out); have G5 := Lib.hid P5.out.lt; clear hx7 hg7 x0 x1 xl)
          | ((with_reducible show wpList _ _ _ ({ dst := some 70, op := .load _ _, type := _, pos := _, after := _, guard := _ } :: _) _ _); refine wpList_load_nr rfl (.tmp 14) rfl rfl Q7.out ?_)
          | (((with_reducible show wpList _ _ _ ({ dst := none, op := .store _ _ _, type := _, pos := _, after := _, guard := _ } :: _) _ _); refine wpList_store_nr rfl (.tmp 8) (.tmp 70) rfl rfl rfl rfl R7.out ?_); intro w8 hx8 hg8; have R8 := Lib.hid hx8; have P8 := Lib.hid (P7.out.store hg8); have X8 : Hid (NpAt w8 q0 x) := ⟨(hg8.block q0 X7.out.cs.2.2 (fun e => by injection e with e; have := HQ0.out; omega)).trans X7.out.row⟩; have M8 := Lib.hid (M7.out.keep (hg8.block _ M7.out.cs.lt (fun e => by injection e with e; have := G5.out; omega))); clear hx8 hg8; obtain ⟨x0, x1, xl⟩ := X8.out.cs))
        obtain ⟨q1, hq1⟩ : ∃ q, q = w5.heap.size + 1 := ⟨_, rfl⟩
        rw [← hq1] at M8 P8 ⊢
        clear hq1 P5 P7 R5 R7 X X5 X7 Q6 Q7 G6 D7 M7 G5
        go_upto_region 20 with (go_at_call 18; (with_reducible refine (CN.out _ _ _ _ _ P8.out).mono ?_); rintro e w9 hr9; obtain ⟨rfl, hp9, hk9⟩ := P8.out.res hr9; have P9 := Lib.hid hp9; have R9 := Lib.hid (R8.out.keep (hk9 g (.inl rfl))); have M9 := Lib.hid (M8.out.keep (hk9 q1 (.inr rfl))); clear hr9 hp9 hk9)
        have hb10 : Below w9.heap.size w9 (w9.alloc (.cells (Nt.cs tm) 32)) := (Below.refl _ _).alloc (Nat.le_refl _) _
        have N10 := Lib.hid (NtAt.new w9 tm)
        have P := Lib.hid (P9.out.on hb10)
        have R := Lib.hid (R9.out.on hb10)
        have M10 := Lib.hid (M9.out.on hb10)
        obtain ⟨q2, hq2⟩ : ∃ q, q = w9.heap.size := ⟨_, rfl⟩
        rw [← hq2] at N10 ⊢
        clear hq2 hb10 P8 P9 R8 R9 M8 M9 X8 x0 x1 xl CS CN
        generalize w9.alloc (.cells (Nt.cs tm) 32) = w11 at *
        go_upto_region 29 with (first
          | ((with_reducible show wpList _ _ _ ({ dst := some 78, op := .load _ _, type := _, pos := _, after := _, guard := _ } :: _) _ _); refine wpList_load_msg rfl (.tmp 17) rfl q2 0 rfl tm N10.out.range ?_)
          | ((with_reducible show wpList _ _ _ ({ dst := some 79, op := .load _ _, type := _, pos := _, after := _, guard := _ } :: _) _ _); refine wpList_load_msg rfl (.tmp 15) rfl q1 0 rfl tm M10.out.range ?_))
        clear N10 M10

        obtain ⟨m2, hm2⟩ : ∃ m2, m2 = s2.l.length := ⟨_, rfl⟩
        obtain ⟨se2, hse2⟩ : ∃ se2, se2 = s2.sent := ⟨_, rfl⟩
        obtain ⟨lo2, hlo2⟩ : ∃ lo2, lo2 = s2.lost := ⟨_, rfl⟩
        have HM2 := Lib.hid hm2.symm
        have HSE2 := Lib.hid hse2.symm
        have HLO2 := Lib.hid hlo2.symm
        rw [← hm2, ← hse2, ← hlo2] at R
        clear hm2 hse2 hlo2
        have D9 := Lib.hid ((Below.refl w11.heap.size w11).drew)
        have P := Lib.hid (P.out.on D9.out)
        have R := Lib.hid (R.out.on D9.out)
        clear D9
        generalize hw10 : w11.drew = w10 at *
        refine wp_region_held_drew (S := fun W => PM w r g s2 A5 c5 s2 (fun _ => False) W ∧ NrAt W g (s2.room : Nat) (.slice A5 m2 c5) se2 lo2) (by kernel_rfl) (by rw [hw10]; exact ⟨P.out, R.out⟩) (fun hS => ?_)
        rw [hw10] at hS ⊢
        clear hw10 P R
        refine tkYes 0 (v := ?_) rfl (by kernel_rfl) (fun _ _ _ h => h) rfl ?_ hS ?_
        rotate_left
        · intro W hW; go_simp; (try with_reducible rfl)
        simp only [Act.put, List.setIfInBounds_toArray, List.set_cons_zero, List.set_cons_succ]
        refine tkYes 1 (v := ?_) rfl (by kernel_rfl) (fun _ _ _ h => h) rfl ?_ hS ?_
        rotate_left
        · intro W hW; go_simp; (try with_reducible rfl)
        simp only [Act.put, List.setIfInBounds_toArray, List.set_cons_zero, List.set_cons_succ]
        refine tkYes 2 (v := ?_) rfl (by kernel_rfl) (fun _ _ _ h => h) rfl ?_ hS ?_
        rotate_left
        · intro W hW; go_simp; (try with_reducible rfl)
        simp only [Act.put, List.setIfInBounds_toArray, List.set_cons_zero, List.set_cons_succ]
        refine tkYes 3 (v := ?_) rfl (by kernel_rfl) (fun _ _ _ h => h) rfl ?_ hS ?_
        rotate_left
        · intro W hW; go_simp; (try with_reducible rfl)
        simp only [Act.put, List.setIfInBounds_toArray, List.set_cons_zero, List.set_cons_succ]
        refine tkYes 5 (v := ?_) rfl (by kernel_rfl) (fun _ _ _ h => h) rfl ?_ hS ?_
        rotate_left
        · intro W hW; go_simp; (try with_reducible rfl)
        simp only [Act.put, List.setIfInBounds_toArray, List.set_cons_zero, List.set_cons_succ]
        refine tkYes 6 (v := ?_) rfl (by kernel_rfl) (fun _ _ _ h => h) rfl ?_ hS ?_
        rotate_left
        · intro W hW; obtain ⟨y0, y1, y2, y3, yf, yl⟩ := hW.2.cs; go_simp; (try with_reducible rfl)
        simp only [Act.put, List.setIfInBounds_toArray, List.set_cons_zero, List.set_cons_succ]
        refine rnOne 4 rfl (by kernel_rfl) rfl (fun K hK => ?_)
        go_simp
        with_reducible refine (p_all hS.1 HM2.out).mono ?_
        rintro e w11 ⟨A7, c7, rfl, hs7, hb7⟩
        have S7 := Lib.hid hs7
        have hS2 : PM w r g s2 A5 c5 s2 (fun _ => False) w11 ∧ NrAt w11 g (s2.room : Nat) (.slice A5 m2 c5) se2 lo2 := ⟨hS.1.on hb7, hS.2.on hb7⟩
        clear hS
        have hS := hS2
        clear hS2
        clear hs7 hb7
        refine hK.out _ _ hS (fun _ => ?_)
        clear hK K
        try simp only [Act.put, List.setIfInBounds_toArray, List.set_cons_zero, List.set_cons_succ]
        refine rnOne 7 rfl (by kernel_rfl) rfl (fun K hK => ?_)
        go_simp
        with_reducible refine (rtsame_eq A7 A5 m2 c7 c5 s2.l _ S7.out (HM2.out ▸ hS.1.sl)).mono ?_
        rintro e w12 ⟨rfl, hb8⟩
        have hS2 : PM w r g s2 A5 c5 s2 (fun _ => False) w12 ∧ NrAt w12 g (s2.room : Nat) (.slice A5 m2 c5) se2 lo2 := ⟨hS.1.on hb8, hS.2.on hb8⟩
        clear hS
        have hS := hS2
        clear hS2
        clear hb8
        refine hK.out _ _ hS (fun _ => ?_)
        clear hK K
        try simp only [Act.put, List.setIfInBounds_toArray, List.set_cons_zero, List.set_cons_succ]
        refine tkYes 8 (v := ?_) rfl (by kernel_rfl) (fun _ _ _ h => h) rfl ?_ hS ?_
        rotate_left
        · intro W hW; go_simp; (try with_reducible rfl)
        simp only [Act.put, List.setIfInBounds_toArray, List.set_cons_zero, List.set_cons_succ]
        refine tkYes 9 (v := ?_) rfl (by kernel_rfl) (fun _ _ _ h => h) rfl ?_ hS ?_
        rotate_left
        · intro W hW; go_simp; (try with_reducible rfl)
        simp only [Act.put, List.setIfInBounds_toArray, List.set_cons_zero, List.set_cons_succ]
        refine tkYes 10 (v := ?_) rfl (by kernel_rfl) (fun _ _ _ h => h) rfl ?_ hS ?_
        rotate_left
        · intro W hW; go_simp; (try with_reducible rfl)
        simp only [Act.put, List.setIfInBounds_toArray, List.set_cons_zero, List.set_cons_succ]
        refine tkYes 11 (v := ?_) rfl (by kernel_rfl) (fun _ _ _ h => h) rfl ?_ hS ?_
        rotate_left
        · intro W hW; go_simp; (try with_reducible rfl)
        simp only [Act.put, List.setIfInBounds_toArray, List.set_cons_zero, List.set_cons_succ]
        refine tkYes 13 (v := ?_) rfl (by kernel_rfl) (fun _ _ _ h => h) rfl ?_ hS ?_
        rotate_left
        · intro W hW; go_simp; (try with_reducible rfl)
        simp only [Act.put, List.setIfInBounds_toArray, List.set_cons_zero, List.set_cons_succ]
        refine tkYes 14 (v := ?_) rfl (by kernel_rfl) (fun _ _ _ h => h) rfl ?_ hS ?_
        rotate_left
        · intro W hW; obtain ⟨y0, y1, y2, y3, yf, yl⟩ := hW.2.cs; go_simp; (try with_reducible rfl)
        simp only [Act.put, List.setIfInBounds_toArray, List.set_cons_zero, List.set_cons_succ]
        refine tkYes 15 (v := ?_) rfl (by kernel_rfl) (fun _ _ _ h => h) rfl ?_ hS ?_
        rotate_left
        · intro W hW; go_simp; (try with_reducible rfl)
        simp only [Act.put, List.setIfInBounds_toArray, List.set_cons_zero, List.set_cons_succ]
        refine rnOne 12 rfl (by kernel_rfl) rfl (fun K hK => ?_)
        go_simp
        with_reducible refine (p_len hS.1 HM2.out).mono ?_
        rintro e wz ⟨rfl, hw⟩
        subst hw
        refine hK.out _ _ hS (fun _ => ?_)
        clear hK K
        try simp only [Act.put, List.setIfInBounds_toArray, List.set_cons_zero, List.set_cons_succ]
        refine tkYes 16 (v := ?_) rfl (by kernel_rfl) (fun _ _ _ h => h) rfl ?_ hS ?_
        rotate_left
        · intro W hW; go_simp; (try with_reducible rfl)
        simp only [Act.put, List.setIfInBounds_toArray, List.set_cons_zero, List.set_cons_succ]
        refine tkYes 17 (v := ?_) rfl (by kernel_rfl) (fun _ _ _ h => h) rfl ?_ hS ?_
        rotate_left
        · intro W hW; go_simp; (try with_reducible rfl)
        simp only [Act.put, List.setIfInBounds_toArray, List.set_cons_zero, List.set_cons_succ]
        refine tkYes 18 (v := ?_) rfl (by kernel_rfl) (fun _ _ _ h => h) rfl ?_ hS ?_
        rotate_left
        · intro W hW; go_simp; (try with_reducible rfl)
        simp only [Act.put, List.setIfInBounds_toArray, List.set_cons_zero, List.set_cons_succ]
        refine tkYes 19 (v := ?_) rfl (by kernel_rfl) (fun _ _ _ h => h) rfl ?_ hS ?_
        rotate_left
        · intro W hW; go_simp; (try with_reducible rfl)
        simp only [Act.put, List.setIfInBounds_toArray, List.set_cons_zero, List.set_cons_succ]
        refine tkYes 21 (v := ?_) rfl (by kernel_rfl) (fun _ _ _ h => h) rfl ?_ hS ?_
        rotate_left
        · intro W hW; go_simp; (try with_reducible rfl)
        simp only [Act.put, List.setIfInBounds_toArray, List.set_cons_zero, List.set_cons_succ]
        refine tkYes 22 (v := ?_) rfl (by kernel_rfl) (fun _ _ _ h => h) rfl ?_ hS ?_
        rotate_left
        · intro W hW; obtain ⟨y0, y1, y2, y3, yf, yl⟩ := hW.2.cs; go_simp; (try with_reducible rfl)
        simp only [Act.put, List.setIfInBounds_toArray, List.set_cons_zero, List.set_cons_succ]
        refine rnOne 20 rfl (by kernel_rfl) rfl (fun K hK => ?_)
        go_simp
        with_reducible refine (p_sent hS.1 HSE2.out).mono ?_
        rintro e wz ⟨rfl, hw⟩
        subst hw
        refine hK.out _ _ hS (fun _ => ?_)
        clear hK K
        try simp only [Act.put, List.setIfInBounds_toArray, List.set_cons_zero, List.set_cons_succ]
        refine tkYes 23 (v := ?_) rfl (by kernel_rfl) (fun _ _ _ h => h) rfl ?_ hS ?_
        rotate_left
        · intro W hW; go_simp; (try with_reducible rfl)
        simp only [Act.put, List.setIfInBounds_toArray, List.set_cons_zero, List.set_cons_succ]
        refine tkYes 24 (v := ?_) rfl (by kernel_rfl) (fun _ _ _ h => h) rfl ?_ hS ?_
        rotate_left
        · intro W hW; go_simp; (try with_reducible rfl)
        simp only [Act.put, List.setIfInBounds_toArray, List.set_cons_zero, List.set_cons_succ]
        refine tkYes 25 (v := ?_) rfl (by kernel_rfl) (fun _ _ _ h => h) rfl ?_ hS ?_
        rotate_left
        · intro W hW; go_simp; (try with_reducible rfl)
        simp only [Act.put, List.setIfInBounds_toArray, List.set_cons_zero, List.set_cons_succ]
        refine tkYes 26 (v := ?_) rfl (by kernel_rfl) (fun _ _ _ h => h) rfl ?_ hS ?_
        rotate_left
        · intro W hW; go_simp; (try with_reducible rfl)
        simp only [Act.put, List.setIfInBounds_toArray, List.set_cons_zero, List.set_cons_succ]
        refine tkYes 28 (v := ?_) rfl (by kernel_rfl) (fun _ _ _ h => h) rfl ?_ hS ?_
        rotate_left
        · intro W hW; go_simp; (try with_reducible rfl)
        simp only [Act.put, List.setIfInBounds_toArray, List.set_cons_zero, List.set_cons_succ]
        refine tkYes 29 (v := ?_) rfl (by kernel_rfl) (fun _ _ _ h => h) rfl ?_ hS ?_
        rotate_left
        · intro W hW; obtain ⟨y0, y1, y2, y3, yf, yl⟩ := hW.2.cs; go_simp; (try with_reducible rfl)
        simp only [Act.put, List.setIfInBounds_toArray, List.set_cons_zero, List.set_cons_succ]
        refine rnOne 27 rfl (by kernel_rfl) rfl (fun K hK => ?_)
        go_simp
        with_reducible refine (p_lost hS.1 HLO2.out).mono ?_
        rintro e wz ⟨rfl, hw⟩
        subst hw
        refine hK.out _ _ hS (fun _ => ?_)
        clear hK K
        try simp only [Act.put, List.setIfInBounds_toArray, List.set_cons_zero, List.set_cons_succ]
        refine tkYes 30 (v := ?_) rfl (by kernel_rfl) (fun _ _ _ h => h) rfl ?_ hS ?_
        rotate_left
        · intro W hW; go_simp; (try with_reducible rfl)
        simp only [Act.put, List.setIfInBounds_toArray, List.set_cons_zero, List.set_cons_succ]
        refine tkYes 31 (v := ?_) rfl (by kernel_rfl) (fun _ _ _ h => h) rfl ?_ hS ?_
        rotate_left
        · intro W hW; go_simp; (try with_reducible rfl)
        simp only [Act.put, List.setIfInBounds_toArray, List.set_cons_zero, List.set_cons_succ]
        refine wpAnyH_done (by kernel_rfl) ?_ _
        have HP := Lib.hid hS
        clear hS
        go_wp2_with fail
        exact ⟨⟨j + 1, s2, by omega, by go_num, BD2.out, A5, c5, HM2.out.symm ▸ HSE2.out.symm ▸ HLO2.out.symm ▸ HP.out.2, HP.out.1⟩, by simp [intOf]; omega⟩
      · rw [hk] at CK
        clear hk
        have BD2 := Lib.hid (BD.out.drop hj1 x.n)
        have CS := Lib.hid (fun (E : Nat → Prop) (W : World) (h : PM w r g s A1 c1 s E W) => rts_drop (w := W) h.na.ok BD.out.lo1 x.n HIN.out.n h.sl)
        have CN := Lib.hid (fun (A5 : Option Addr) (c5 : Nat) (s3 : Nt.St) (E : Nat → Prop) (W : World) (h : PM w r g s A5 c5 s3 E W) => nat_drop h.na x.n HIN.out.n BD.out.lo1)
        obtain ⟨s2, hs2⟩ : ∃ s2, s2 = Nt.dropS s x.n := ⟨_, rfl⟩
        rw [← hs2] at BD2 CS CN
        clear hs2
        generalize Nt.takeB s = tb at CS CN

        go_upto_region 22 with (first
          | ((with_reducible show wpList _ _ _ ({ dst := some 40, op := .load _ _, type := _, pos := _, after := _, guard := _ } :: _) _ _); refine wpList_load_np rfl (.tmp 39) rfl b (o + j * 8) rfl x RG.out ?_)
          | ((with_reducible show wpList _ _ _ ({ dst := some 41, op := .load _ _, type := _, pos := _, after := _, guard := _ } :: _) _ _); refine wpList_load_np rfl (.tmp 10) rfl wr.heap.size 0 rfl x X1.out.range ?_)
          | (go_at_call 13; (with_reducible refine (CK.out _).mono ?_); rintro e w3 ⟨rfl, hb⟩; have P := Lib.hid (P1.out.on hb); have R := Lib.hid (R1.out.on hb); have X := Lib.hid (X1.out.on hb); have B3 := Lib.hid hb.size; clear hb))
        obtain ⟨q0, hq0⟩ : ∃ q, q = wr.heap.size := ⟨_, rfl⟩
        have HQ0 : Hid (g < q0 ∧ q0 < w3.heap.size) := by show _ ∧ _; rw [hq0]; exact ⟨GLT.out, X.out.cs.2.2⟩
        rw [← hq0] at X ⊢
        clear hq0 P1 R1 X1 CK RG

        obtain ⟨x0, x1, xl⟩ := X.out.cs
        go_upto_region 29 with (first
          | ((with_reducible show wpList _ _ _ ({ dst := some 89, op := .load _ _, type := _, pos := _, after := _, guard := _ } :: _) _ _); refine wpList_load_nr rfl (.tmp 8) rfl rfl R.out ?_)
          | (go_at_call 19; (with_reducible refine (CS.out _ _ P.out).mono ?_); rintro e w5 hp5; obtain ⟨A5, c5, rfl, hpm, hb5⟩ := P.out.ref hp5; have P5 := Lib.hid hpm; have R5 := Lib.hid (R.out.on hb5); have X5 := Lib.hid (X.out.on hb5); clear hp5 hpm hb5)
          | (((with_reducible show wpList _ _ _ ({ dst := none, op := .store _ _ _, type := _, pos := _, after := _, guard := _ } :: _) _ _); refine wpList_store_nr rfl (.tmp 19) (.tmp 93) rfl rfl rfl rfl ⟨heap_alloc_new _ _⟩ ?_); intro w6 hx6 hg6; have Q6 := Lib.hid hx6; have D6 : Hid (Below w5.heap.size w5 w6) := ((Below.refl w5.heap.size w5).alloc (Nat.le_refl _) _).grown hg6 (by simp) (fun b hb => by injection hb with hb; omega); have P6 := Lib.hid (P5.out.on D6.out); have R6 := Lib.hid (R5.out.on D6.out); have X6 := Lib.hid (X5.out.on D6.out); have G5 := Lib.hid P5.out.lt; have X5L := Lib.hid X5.out.cs.2.2; clear hx6 hg6 x0 x1 xl)
          | ((with_reducible show wpList _ _ _ ({ dst := some 95, op := .load _ _, type := _, pos := _, after := _, guard := _ } :: _) _ _); refine wpList_load_nr rfl (.tmp 19) rfl rfl Q6.out ?_)
          | (((with_reducible show wpList _ _ _ ({ dst := none, op := .store _ _ _, type := _, pos := _, after := _, guard := _ } :: _) _ _); refine wpList_store_nr rfl (.tmp 8) (.tmp 95) rfl rfl rfl rfl R6.out ?_); intro w8 hx8 hg8; have R8 := Lib.hid hx8; have P8 := Lib.hid (P6.out.store hg8); have X8 : Hid (NpAt w8 q0 x) := ⟨(hg8.block q0 X6.out.cs.2.2 (fun e => by injection e with e; have := HQ0.out; omega)).trans X6.out.row⟩; clear hx8 hg8; obtain ⟨x0, x1, xl⟩ := X8.out.cs)
          | (go_at_call 20; (with_reducible refine (CN.out _ _ _ _ _ P8.out).mono ?_); rintro e w9 hr9; obtain ⟨rfl, hp9, hk9⟩ := P8.out.res hr9; have P := Lib.hid hp9; have R := Lib.hid (R8.out.keep (hk9 g (.inl rfl))); clear hr9 hp9 hk9))
        clear P5 P6 P8 R5 R6 R8 X X5 X6 X8 Q6 D6 G5 X5L x0 x1 xl CS CN

        obtain ⟨m2, hm2⟩ : ∃ m2, m2 = s2.l.length := ⟨_, rfl⟩
        obtain ⟨se2, hse2⟩ : ∃ se2, se2 = s2.sent := ⟨_, rfl⟩
        obtain ⟨lo2, hlo2⟩ : ∃ lo2, lo2 = s2.lost := ⟨_, rfl⟩
        have HM2 := Lib.hid hm2.symm
        have HSE2 := Lib.hid hse2.symm
        have HLO2 := Lib.hid hlo2.symm
        rw [← hm2, ← hse2, ← hlo2] at R
        clear hm2 hse2 hlo2
        have D9 := Lib.hid ((Below.refl w9.heap.size w9).drew)
        have P := Lib.hid (P.out.on D9.out)
        have R := Lib.hid (R.out.on D9.out)
        clear D9
        generalize hw10 : w9.drew = w10 at *
        refine wp_region_held_drew (S := fun W => PM w r g s2 A5 c5 s2 (fun _ => False) W ∧ NrAt W g (s2.room : Nat) (.slice A5 m2 c5) se2 lo2) (by kernel_rfl) (by rw [hw10]; exact ⟨P.out, R.out⟩) (fun hS => ?_)
        rw [hw10] at hS ⊢
        clear hw10 P R
        refine tkYes 0 (v := ?_) rfl (by kernel_rfl) (fun _ _ _ h => h) rfl ?_ hS ?_
        rotate_left
        · intro W hW; go_simp; (try with_reducible rfl)
        simp only [Act.put, List.setIfInBounds_toArray, List.set_cons_zero, List.set_cons_succ]
        refine tkYes 1 (v := ?_) rfl (by kernel_rfl) (fun _ _ _ h => h) rfl ?_ hS ?_
        rotate_left
        · intro W hW; go_simp; (try with_reducible rfl)
        simp only [Act.put, List.setIfInBounds_toArray, List.set_cons_zero, List.set_cons_succ]
        refine tkYes 2 (v := ?_) rfl (by kernel_rfl) (fun _ _ _ h => h) rfl ?_ hS ?_
        rotate_left
        · intro W hW; go_simp; (try with_reducible rfl)
        simp only [Act.put, List.setIfInBounds_toArray, List.set_cons_zero, List.set_cons_succ]
        refine tkYes 3 (v := ?_) rfl (by kernel_rfl) (fun _ _ _ h => h) rfl ?_ hS ?_
        rotate_left
        · intro W hW; go_simp; (try with_reducible rfl)
        simp only [Act.put, List.setIfInBounds_toArray, List.set_cons_zero, List.set_cons_succ]
        refine tkYes 5 (v := ?_) rfl (by kernel_rfl) (fun _ _ _ h => h) rfl ?_ hS ?_
        rotate_left
        · intro W hW; go_simp; (try with_reducible rfl)
        simp only [Act.put, List.setIfInBounds_toArray, List.set_cons_zero, List.set_cons_succ]
        refine tkYes 6 (v := ?_) rfl (by kernel_rfl) (fun _ _ _ h => h) rfl ?_ hS ?_
        rotate_left
        · intro W hW; obtain ⟨y0, y1, y2, y3, yf, yl⟩ := hW.2.cs; go_simp; (try with_reducible rfl)
        simp only [Act.put, List.setIfInBounds_toArray, List.set_cons_zero, List.set_cons_succ]
        refine rnOne 4 rfl (by kernel_rfl) rfl (fun K hK => ?_)
        go_simp
        with_reducible refine (p_all hS.1 HM2.out).mono ?_
        rintro e w11 ⟨A7, c7, rfl, hs7, hb7⟩
        have S7 := Lib.hid hs7
        have hS2 : PM w r g s2 A5 c5 s2 (fun _ => False) w11 ∧ NrAt w11 g (s2.room : Nat) (.slice A5 m2 c5) se2 lo2 := ⟨hS.1.on hb7, hS.2.on hb7⟩
        clear hS
        have hS := hS2
        clear hS2
        clear hs7 hb7
        refine hK.out _ _ hS (fun _ => ?_)
        clear hK K
        try simp only [Act.put, List.setIfInBounds_toArray, List.set_cons_zero, List.set_cons_succ]
        refine rnOne 7 rfl (by kernel_rfl) rfl (fun K hK => ?_)
        go_simp
        with_reducible refine (rtsame_eq A7 A5 m2 c7 c5 s2.l _ S7.out (HM2.out ▸ hS.1.sl)).mono ?_
        rintro e w12 ⟨rfl, hb8⟩
        have hS2 : PM w r g s2 A5 c5 s2 (fun _ => False) w12 ∧ NrAt w12 g (s2.room : Nat) (.slice A5 m2 c5) se2 lo2 := ⟨hS.1.on hb8, hS.2.on hb8⟩
        clear hS
        have hS := hS2
        clear hS2
        clear hb8
        refine hK.out _ _ hS (fun _ => ?_)
        clear hK K
        try simp only [Act.put, List.setIfInBounds_toArray, List.set_cons_zero, List.set_cons_succ]
        refine tkYes 8 (v := ?_) rfl (by kernel_rfl) (fun _ _ _ h => h) rfl ?_ hS ?_
        rotate_left
        · intro W hW; go_simp; (try with_reducible rfl)
        simp only [Act.put, List.setIfInBounds_toArray, List.set_cons_zero, List.set_cons_succ]
        refine tkYes 9 (v := ?_) rfl (by kernel_rfl) (fun _ _ _ h => h) rfl ?_ hS ?_
        rotate_left
        · intro W hW; go_simp; (try with_reducible rfl)
        simp only [Act.put, List.setIfInBounds_toArray, List.set_cons_zero, List.set_cons_succ]
        refine tkYes 10 (v := ?_) rfl (by kernel_rfl) (fun _ _ _ h => h) rfl ?_ hS ?_
        rotate_left
        · intro W hW; go_simp; (try with_reducible rfl)
        simp only [Act.put, List.setIfInBounds_toArray, List.set_cons_zero, List.set_cons_succ]
        refine tkYes 11 (v := ?_) rfl (by kernel_rfl) (fun _ _ _ h => h) rfl ?_ hS ?_
        rotate_left
        · intro W hW; go_simp; (try with_reducible rfl)
        simp only [Act.put, List.setIfInBounds_toArray, List.set_cons_zero, List.set_cons_succ]
        refine tkYes 13 (v := ?_) rfl (by kernel_rfl) (fun _ _ _ h => h) rfl ?_ hS ?_
        rotate_left
        · intro W hW; go_simp; (try with_reducible rfl)
        simp only [Act.put, List.setIfInBounds_toArray, List.set_cons_zero, List.set_cons_succ]
        refine tkYes 14 (v := ?_) rfl (by kernel_rfl) (fun _ _ _ h => h) rfl ?_ hS ?_
        rotate_left
        · intro W hW; obtain ⟨y0, y1, y2, y3, yf, yl⟩ := hW.2.cs; go_simp; (try with_reducible rfl)
        simp only [Act.put, List.setIfInBounds_toArray, List.set_cons_zero, List.set_cons_succ]
        refine tkYes 15 (v := ?_) rfl (by kernel_rfl) (fun _ _ _ h => h) rfl ?_ hS ?_
        rotate_left
        · intro W hW; go_simp; (try with_reducible rfl)
        simp only [Act.put, List.setIfInBounds_toArray, List.set_cons_zero, List.set_cons_succ]
        refine rnOne 12 rfl (by kernel_rfl) rfl (fun K hK => ?_)
        go_simp
        with_reducible refine (p_len hS.1 HM2.out).mono ?_
        rintro e wz ⟨rfl, hw⟩
        subst hw
        refine hK.out _ _ hS (fun _ => ?_)
        clear hK K
        try simp only [Act.put, List.setIfInBounds_toArray, List.set_cons_zero, List.set_cons_succ]
        refine tkYes 16 (v := ?_) rfl (by kernel_rfl) (fun _ _ _ h => h) rfl ?_ hS ?_
        rotate_left
        · intro W hW; go_simp; (try with_reducible rfl)
        simp only [Act.put, List.setIfInBounds_toArray, List.set_cons_zero, List.set_cons_succ]
        refine tkYes 17 (v := ?_) rfl (by kernel_rfl) (fun _ _ _ h => h) rfl ?_ hS ?_
        rotate_left
        · intro W hW; go_simp; (try with_reducible rfl)
        simp only [Act.put, List.setIfInBounds_toArray, List.set_cons_zero, List.set_cons_succ]
        refine tkYes 18 (v := ?_) rfl (by kernel_rfl) (fun _ _ _ h => h) rfl ?_ hS ?_
        rotate_left
        · intro W hW; go_simp; (try with_reducible rfl)
        simp only [Act.put, List.setIfInBounds_toArray, List.set_cons_zero, List.set_cons_succ]
        refine tkYes 19 (v := ?_) rfl (by kernel_rfl) (fun _ _ _ h => h) rfl ?_ hS ?_
        rotate_left
        · intro W hW; go_simp; (try with_reducible rfl)
        simp only [Act.put, List.setIfInBounds_toArray, List.set_cons_zero, List.set_cons_succ]
        refine tkYes 21 (v := ?_) rfl (by kernel_rfl) (fun _ _ _ h => h) rfl ?_ hS ?_
        rotate_left
        · intro W hW; go_simp; (try with_reducible rfl)
        simp only [Act.put, List.setIfInBounds_toArray, List.set_cons_zero, List.set_cons_succ]
        refine tkYes 22 (v := ?_) rfl (by kernel_rfl) (fun _ _ _ h => h) rfl ?_ hS ?_
        rotate_left
        · intro W hW; obtain ⟨y0, y1, y2, y3, yf, yl⟩ := hW.2.cs; go_simp; (try with_reducible rfl)
        simp only [Act.put, List.setIfInBounds_toArray, List.set_cons_zero, List.set_cons_succ]
        refine rnOne 20 rfl (by kernel_rfl) rfl (fun K hK => ?_)
        go_simp
        with_reducible refine (p_sent hS.1 HSE2.out).mono ?_
        rintro e wz ⟨rfl, hw⟩
        subst hw
        refine hK.out _ _ hS (fun _ => ?_)
        clear hK K
        try simp only [Act.put, List.setIfInBounds_toArray, List.set_cons_zero, List.set_cons_succ]
        refine tkYes 23 (v := ?_) rfl (by kernel_rfl) (fun _ _ _ h => h) rfl ?_ hS ?_
        rotate_left
        · intro W hW; go_simp; (try with_reducible rfl)
        simp only [Act.put, List.setIfInBounds_toArray, List.set_cons_zero, List.set_cons_succ]
        refine tkYes 24 (v := ?_) rfl (by kernel_rfl) (fun _ _ _ h => h) rfl ?_ hS ?_
        rotate_left
        · intro W hW; go_simp; (try with_reducible rfl)
        simp only [Act.put, List.setIfInBounds_toArray, List.set_cons_zero, List.set_cons_succ]
        refine tkYes 25 (v := ?_) rfl (by kernel_rfl) (fun _ _ _ h => h) rfl ?_ hS ?_
        rotate_left
        · intro W hW; go_simp; (try with_reducible rfl)
        simp only [Act.put, List.setIfInBounds_toArray, List.set_cons_zero, List.set_cons_succ]
        refine tkYes 26 (v := ?_) rfl (by kernel_rfl) (fun _ _ _ h => h) rfl ?_ hS ?_
        rotate_left
        · intro W hW; go_simp; (try with_reducible rfl)
        simp only [Act.put, List.setIfInBounds_toArray, List.set_cons_zero, List.set_cons_succ]
        refine tkYes 28 (v := ?_) rfl (by kernel_rfl) (fun _ _ _ h => h) rfl ?_ hS ?_
        rotate_left
        · intro W hW; go_simp; (try with_reducible rfl)
        simp only [Act.put, List.setIfInBounds_toArray, List.set_cons_zero, List.set_cons_succ]
        refine tkYes 29 (v := ?_) rfl (by kernel_rfl) (fun _ _ _ h => h) rfl ?_ hS ?_
        rotate_left
        · intro W hW; obtain ⟨y0, y1, y2, y3, yf, yl⟩ := hW.2.cs; go_simp; (try with_reducible rfl)
        simp only [Act.put, List.setIfInBounds_toArray, List.set_cons_zero, List.set_cons_succ]
        refine rnOne 27 rfl (by kernel_rfl) rfl (fun K hK => ?_)
        go_simp
        with_reducible refine (p_lost hS.1 HLO2.out).mono ?_
        rintro e wz ⟨rfl, hw⟩
        subst hw
        refine hK.out _ _ hS (fun _ => ?_)
        clear hK K
        try simp only [Act.put, List.setIfInBounds_toArray, List.set_cons_zero, List.set_cons_succ]
        refine tkYes 30 (v := ?_) rfl (by kernel_rfl) (fun _ _ _ h => h) rfl ?_ hS ?_
        rotate_left
        · intro W hW; go_simp; (try with_reducible rfl)
        simp only [Act.put, List.setIfInBounds_toArray, List.set_cons_zero, List.set_cons_succ]
        refine tkYes 31 (v := ?_) rfl (by kernel_rfl) (fun _ _ _ h => h) rfl ?_ hS ?_
        rotate_left
        · intro W hW; go_simp; (try with_reducible rfl)
        simp only [Act.put, List.setIfInBounds_toArray, List.set_cons_zero, List.set_cons_succ]
        refine wpAnyH_done (by kernel_rfl) ?_ _
        have HP := Lib.hid hS
        clear hS
        go_wp2_with fail
        exact ⟨⟨j + 1, s2, by omega, by go_num, BD2.out, A5, c5, HM2.out.symm ▸ HSE2.out.symm ▸ HLO2.out.symm ▸ HP.out.2, HP.out.1⟩, by simp [intOf]; omega⟩
      · rw [hk] at CK
        clear hk
        have BD2 := Lib.hid (BD.out.twice hj1 x.n)
        have CS := Lib.hid (fun (E : Nat → Prop) (W : World) (h : PM w r g s A1 c1 s E W) => rts_twice (w := W) h.na.ok BD.out.lo1 x.n HIN.out.n h.sl)
        have CN := Lib.hid (fun (A5 : Option Addr) (c5 : Nat) (s3 : Nt.St) (E : Nat → Prop) (W : World) (h : PM w r g s A5 c5 s3 E W) => nat_twice h.na x.n HIN.out.n BD.out.lo1)
        obtain ⟨s2, hs2⟩ : ∃ s2, s2 = Nt.twiceS s x.n := ⟨_, rfl⟩
        rw [← hs2] at BD2 CS CN
        clear hs2
        generalize Nt.twiceE s = ee at CS CN

        go_upto_region 26 with (first
          | ((with_reducible show wpList _ _ _ ({ dst := some 40, op := .load _ _, type := _, pos := _, after := _, guard := _ } :: _) _ _); refine wpList_load_np rfl (.tmp 39) rfl b (o + j * 8) rfl x RG.out ?_)
          | ((with_reducible show wpList _ _ _ ({ dst := some 41, op := .load _ _, type := _, pos := _, after := _, guard := _ } :: _) _ _); refine wpList_load_np rfl (.tmp 10) rfl wr.heap.size 0 rfl x X1.out.range ?_)
          | (go_at_call 13; (with_reducible refine (CK.out _).mono ?_); rintro e w3 ⟨rfl, hb⟩; have P := Lib.hid (P1.out.on hb); have R := Lib.hid (R1.out.on hb); have X := Lib.hid (X1.out.on hb); have B3 := Lib.hid hb.size; clear hb))
        obtain ⟨q0, hq0⟩ : ∃ q, q = wr.heap.size := ⟨_, rfl⟩
        have HQ0 : Hid (g < q0 ∧ q0 < w3.heap.size) := by show _ ∧ _; rw [hq0]; exact ⟨GLT.out, X.out.cs.2.2⟩
        rw [← hq0] at X ⊢
        clear hq0 P1 R1 X1 CK RG

        obtain ⟨x0, x1, xl⟩ := X.out.cs
        go_upto_region 29 with (first
          | ((with_reducible show wpList _ _ _ ({ dst := some 105, op := .load _ _, type := _, pos := _, after := _, guard := _ } :: _) _ _); refine wpList_load_nr rfl (.tmp 8) rfl rfl R.out ?_)
          | (go_at_call 21; (with_reducible refine (CS.out _ _ P.out).mono ?_); rintro e w5 hp5; obtain ⟨A5, c5, rfl, hpm, hb5⟩ := P.out.ref hp5; have P5 := Lib.hid hpm; have R5 := Lib.hid (R.out.on hb5); have X5 := Lib.hid (X.out.on hb5); clear hp5 hpm hb5)
          | (((with_reducible show wpList _ _ _ ({ dst := none, op := .store _ _ _, type := _, pos := _, after := _, guard := _ } :: _) _ _); refine wpList_store_nr rfl (.tmp 21) (.tmp 109) rfl rfl rfl rfl ⟨heap_alloc_new _ _⟩ ?_); intro w6 hx6 hg6; have Q6 := Lib.hid hx6; have D6 : Hid (Below w5.heap.size w5 w6) := ((Below.refl w5.heap.size w5).alloc (Nat.le_refl _) _).grown hg6 (by simp) (fun b hb => by injection hb with hb; omega); have P6 := Lib.hid (P5.out.on D6.out); have R6 := Lib.hid (R5.out.on D6.out); have X6 := Lib.hid (X5.out.on D6.out); have G5 := Lib.hid P5.out.lt; have X5L := Lib.hid X5.out.cs.2.2; clear hx6 hg6 x0 x1 xl)
          | ((with_reducible show wpList _ _ _ ({ dst := some 111, op := .load _ _, type := _, pos := _, after := _, guard := _ } :: _) _ _); refine wpList_load_nr rfl (.tmp 21) rfl rfl Q6.out ?_)
          | (((with_reducible show wpList _ _ _ ({ dst := none, op := .store _ _ _, type := _, pos := _, after := _, guard := _ } :: _) _ _); refine wpList_store_nr rfl (.tmp 8) (.tmp 111) rfl rfl rfl rfl R6.out ?_); intro w8 hx8 hg8; have R8 := Lib.hid hx8; have P8 := Lib.hid (P6.out.store hg8); have X8 : Hid (NpAt w8 q0 x) := ⟨(hg8.block q0 X6.out.cs.2.2 (fun e => by injection e with e; have := HQ0.out; omega)).trans X6.out.row⟩; clear hx8 hg8; obtain ⟨x0, x1, xl⟩ := X8.out.cs)
          | (go_at_call 22; (with_reducible refine (CN.out _ _ _ _ _ P8.out).mono ?_); rintro e w9 hr9; obtain ⟨rfl, hp9, hk9⟩ := P8.out.res hr9; have P := Lib.hid hp9; have R := Lib.hid (R8.out.keep (hk9 g (.inl rfl))); clear hr9 hp9 hk9))
        clear P5 P6 P8 R5 R6 R8 X X5 X6 X8 Q6 D6 G5 X5L x0 x1 xl CS CN

        obtain ⟨m2, hm2⟩ : ∃ m2, m2 = s2.l.length := ⟨_, rfl⟩
        obtain ⟨se2, hse2⟩ : ∃ se2, se2 = s2.sent := ⟨_, rfl⟩
        obtain ⟨lo2, hlo2⟩ : ∃ lo2, lo2 = s2.lost := ⟨_, rfl⟩
        have HM2 := Lib.hid hm2.symm
        have HSE2 := Lib.hid hse2.symm
        have HLO2 := Lib.hid hlo2.symm
        rw [← hm2, ← hse2, ← hlo2] at R
        clear hm2 hse2 hlo2
        have D9 := Lib.hid ((Below.refl w9.heap.size w9).drew)
        have P := Lib.hid (P.out.on D9.out)
        have R := Lib.hid (R.out.on D9.out)
        clear D9
        generalize hw10 : w9.drew = w10 at *
        refine wp_region_held_drew (S := fun W => PM w r g s2 A5 c5 s2 (fun _ => False) W ∧ NrAt W g (s2.room : Nat) (.slice A5 m2 c5) se2 lo2) (by kernel_rfl) (by rw [hw10]; exact ⟨P.out, R.out⟩) (fun hS => ?_)
        rw [hw10] at hS ⊢
        clear hw10 P R
        refine tkYes 0 (v := ?_) rfl (by kernel_rfl) (fun _ _ _ h => h) rfl ?_ hS ?_
        rotate_left
        · intro W hW; go_simp; (try with_reducible rfl)
        simp only [Act.put, List.setIfInBounds_toArray, List.set_cons_zero, List.set_cons_succ]
        refine tkYes 1 (v := ?_) rfl (by kernel_rfl) (fun _ _ _ h => h) rfl ?_ hS ?_
        rotate_left
        · intro W hW; go_simp; (try with_reducible rfl)
        simp only [Act.put, List.setIfInBounds_toArray, List.set_cons_zero, List.set_cons_succ]
        refine tkYes 2 (v := ?_) rfl (by kernel_rfl) (fun _ _ _ h => h) rfl ?_ hS ?_
        rotate_left
        · intro W hW; go_simp; (try with_reducible rfl)
        simp only [Act.put, List.setIfInBounds_toArray, List.set_cons_zero, List.set_cons_succ]
        refine tkYes 3 (v := ?_) rfl (by kernel_rfl) (fun _ _ _ h => h) rfl ?_ hS ?_
        rotate_left
        · intro W hW; go_simp; (try with_reducible rfl)
        simp only [Act.put, List.setIfInBounds_toArray, List.set_cons_zero, List.set_cons_succ]
        refine tkYes 5 (v := ?_) rfl (by kernel_rfl) (fun _ _ _ h => h) rfl ?_ hS ?_
        rotate_left
        · intro W hW; go_simp; (try with_reducible rfl)
        simp only [Act.put, List.setIfInBounds_toArray, List.set_cons_zero, List.set_cons_succ]
        refine tkYes 6 (v := ?_) rfl (by kernel_rfl) (fun _ _ _ h => h) rfl ?_ hS ?_
        rotate_left
        · intro W hW; obtain ⟨y0, y1, y2, y3, yf, yl⟩ := hW.2.cs; go_simp; (try with_reducible rfl)
        simp only [Act.put, List.setIfInBounds_toArray, List.set_cons_zero, List.set_cons_succ]
        refine rnOne 4 rfl (by kernel_rfl) rfl (fun K hK => ?_)
        go_simp
        with_reducible refine (p_all hS.1 HM2.out).mono ?_
        rintro e w11 ⟨A7, c7, rfl, hs7, hb7⟩
        have S7 := Lib.hid hs7
        have hS2 : PM w r g s2 A5 c5 s2 (fun _ => False) w11 ∧ NrAt w11 g (s2.room : Nat) (.slice A5 m2 c5) se2 lo2 := ⟨hS.1.on hb7, hS.2.on hb7⟩
        clear hS
        have hS := hS2
        clear hS2
        clear hs7 hb7
        refine hK.out _ _ hS (fun _ => ?_)
        clear hK K
        try simp only [Act.put, List.setIfInBounds_toArray, List.set_cons_zero, List.set_cons_succ]
        refine rnOne 7 rfl (by kernel_rfl) rfl (fun K hK => ?_)
        go_simp
        with_reducible refine (rtsame_eq A7 A5 m2 c7 c5 s2.l _ S7.out (HM2.out ▸ hS.1.sl)).mono ?_
        rintro e w12 ⟨rfl, hb8⟩
        have hS2 : PM w r g s2 A5 c5 s2 (fun _ => False) w12 ∧ NrAt w12 g (s2.room : Nat) (.slice A5 m2 c5) se2 lo2 := ⟨hS.1.on hb8, hS.2.on hb8⟩
        clear hS
        have hS := hS2
        clear hS2
        clear hb8
        refine hK.out _ _ hS (fun _ => ?_)
        clear hK K
        try simp only [Act.put, List.setIfInBounds_toArray, List.set_cons_zero, List.set_cons_succ]
        refine tkYes 8 (v := ?_) rfl (by kernel_rfl) (fun _ _ _ h => h) rfl ?_ hS ?_
        rotate_left
        · intro W hW; go_simp; (try with_reducible rfl)
        simp only [Act.put, List.setIfInBounds_toArray, List.set_cons_zero, List.set_cons_succ]
        refine tkYes 9 (v := ?_) rfl (by kernel_rfl) (fun _ _ _ h => h) rfl ?_ hS ?_
        rotate_left
        · intro W hW; go_simp; (try with_reducible rfl)
        simp only [Act.put, List.setIfInBounds_toArray, List.set_cons_zero, List.set_cons_succ]
        refine tkYes 10 (v := ?_) rfl (by kernel_rfl) (fun _ _ _ h => h) rfl ?_ hS ?_
        rotate_left
        · intro W hW; go_simp; (try with_reducible rfl)
        simp only [Act.put, List.setIfInBounds_toArray, List.set_cons_zero, List.set_cons_succ]
        refine tkYes 11 (v := ?_) rfl (by kernel_rfl) (fun _ _ _ h => h) rfl ?_ hS ?_
        rotate_left
        · intro W hW; go_simp; (try with_reducible rfl)
        simp only [Act.put, List.setIfInBounds_toArray, List.set_cons_zero, List.set_cons_succ]
        refine tkYes 13 (v := ?_) rfl (by kernel_rfl) (fun _ _ _ h => h) rfl ?_ hS ?_
        rotate_left
        · intro W hW; go_simp; (try with_reducible rfl)
        simp only [Act.put, List.setIfInBounds_toArray, List.set_cons_zero, List.set_cons_succ]
        refine tkYes 14 (v := ?_) rfl (by kernel_rfl) (fun _ _ _ h => h) rfl ?_ hS ?_
        rotate_left
        · intro W hW; obtain ⟨y0, y1, y2, y3, yf, yl⟩ := hW.2.cs; go_simp; (try with_reducible rfl)
        simp only [Act.put, List.setIfInBounds_toArray, List.set_cons_zero, List.set_cons_succ]
        refine tkYes 15 (v := ?_) rfl (by kernel_rfl) (fun _ _ _ h => h) rfl ?_ hS ?_
        rotate_left
        · intro W hW; go_simp; (try with_reducible rfl)
        simp only [Act.put, List.setIfInBounds_toArray, List.set_cons_zero, List.set_cons_succ]
        refine rnOne 12 rfl (by kernel_rfl) rfl (fun K hK => ?_)
        go_simp
        with_reducible refine (p_len hS.1 HM2.out).mono ?_
        rintro e wz ⟨rfl, hw⟩
        subst hw
        refine hK.out _ _ hS (fun _ => ?_)
        clear hK K
        try simp only [Act.put, List.setIfInBounds_toArray, List.set_cons_zero, List.set_cons_succ]
        refine tkYes 16 (v := ?_) rfl (by kernel_rfl) (fun _ _ _ h => h) rfl ?_ hS ?_
        rotate_left
        · intro W hW; go_simp; (try with_reducible rfl)
        simp only [Act.put, List.setIfInBounds_toArray, List.set_cons_zero, List.set_cons_succ]
        refine tkYes 17 (v := ?_) rfl (by kernel_rfl) (fun _ _ _ h => h) rfl ?_ hS ?_
        rotate_left
        · intro W hW; go_simp; (try with_reducible rfl)
        simp only [Act.put, List.setIfInBounds_toArray, List.set_cons_zero, List.set_cons_succ]
        refine tkYes 18 (v := ?_) rfl (by kernel_rfl) (fun _ _ _ h => h) rfl ?_ hS ?_
        rotate_left
        · intro W hW; go_simp; (try with_reducible rfl)
        simp only [Act.put, List.setIfInBounds_toArray, List.set_cons_zero, List.set_cons_succ]
        refine tkYes 19 (v := ?_) rfl (by kernel_rfl) (fun _ _ _ h => h) rfl ?_ hS ?_
        rotate_left
        · intro W hW; go_simp; (try with_reducible rfl)
        simp only [Act.put, List.setIfInBounds_toArray, List.set_cons_zero, List.set_cons_succ]
        refine tkYes 21 (v := ?_) rfl (by kernel_rfl) (fun _ _ _ h => h) rfl ?_ hS ?_
        rotate_left
        · intro W hW; go_simp; (try with_reducible rfl)
        simp only [Act.put, List.setIfInBounds_toArray, List.set_cons_zero, List.set_cons_succ]
        refine tkYes 22 (v := ?_) rfl (by kernel_rfl) (fun _ _ _ h => h) rfl ?_ hS ?_
        rotate_left
        · intro W hW; obtain ⟨y0, y1, y2, y3, yf, yl⟩ := hW.2.cs; go_simp; (try with_reducible rfl)
        simp only [Act.put, List.setIfInBounds_toArray, List.set_cons_zero, List.set_cons_succ]
        refine rnOne 20 rfl (by kernel_rfl) rfl (fun K hK => ?_)
        go_simp
        with_reducible refine (p_sent hS.1 HSE2.out).mono ?_
        rintro e wz ⟨rfl, hw⟩
        subst hw
        refine hK.out _ _ hS (fun _ => ?_)
        clear hK K
        try simp only [Act.put, List.setIfInBounds_toArray, List.set_cons_zero, List.set_cons_succ]
        refine tkYes 23 (v := ?_) rfl (by kernel_rfl) (fun _ _ _ h => h) rfl ?_ hS ?_
        rotate_left
        · intro W hW; go_simp; (try with_reducible rfl)
        simp only [Act.put, List.setIfInBounds_toArray, List.set_cons_zero, List.set_cons_succ]
        refine tkYes 24 (v := ?_) rfl (by kernel_rfl) (fun _ _ _ h => h) rfl ?_ hS ?_
        rotate_left
        · intro W hW; go_simp; (try with_reducible rfl)
        simp only [Act.put, List.setIfInBounds_toArray, List.set_cons_zero, List.set_cons_succ]
        refine tkYes 25 (v := ?_) rfl (by kernel_rfl) (fun _ _ _ h => h) rfl ?_ hS ?_
        rotate_left
        · intro W hW; go_simp; (try with_reducible rfl)
        simp only [Act.put, List.setIfInBounds_toArray, List.set_cons_zero, List.set_cons_succ]
        refine tkYes 26 (v := ?_) rfl (by kernel_rfl) (fun _ _ _ h => h) rfl ?_ hS ?_
        rotate_left
        · intro W hW; go_simp; (try with_reducible rfl)
        simp only [Act.put, List.setIfInBounds_toArray, List.set_cons_zero, List.set_cons_succ]
        refine tkYes 28 (v := ?_) rfl (by kernel_rfl) (fun _ _ _ h => h) rfl ?_ hS ?_
        rotate_left
        · intro W hW; go_simp; (try with_reducible rfl)
        simp only [Act.put, List.setIfInBounds_toArray, List.set_cons_zero, List.set_cons_succ]
        refine tkYes 29 (v := ?_) rfl (by kernel_rfl) (fun _ _ _ h => h) rfl ?_ hS ?_
        rotate_left
        · intro W hW; obtain ⟨y0, y1, y2, y3, yf, yl⟩ := hW.2.cs; go_simp; (try with_reducible rfl)
        simp only [Act.put, List.setIfInBounds_toArray, List.set_cons_zero, List.set_cons_succ]
        refine rnOne 27 rfl (by kernel_rfl) rfl (fun K hK => ?_)
        go_simp
        with_reducible refine (p_lost hS.1 HLO2.out).mono ?_
        rintro e wz ⟨rfl, hw⟩
        subst hw
        refine hK.out _ _ hS (fun _ => ?_)
        clear hK K
        try simp only [Act.put, List.setIfInBounds_toArray, List.set_cons_zero, List.set_cons_succ]
        refine tkYes 30 (v := ?_) rfl (by kernel_rfl) (fun _ _ _ h => h) rfl ?_ hS ?_
        rotate_left
        · intro W hW; go_simp; (try with_reducible rfl)
        simp only [Act.put, List.setIfInBounds_toArray, List.set_cons_zero, List.set_cons_succ]
        refine tkYes 31 (v := ?_) rfl (by kernel_rfl) (fun _ _ _ h => h) rfl ?_ hS ?_
        rotate_left
        · intro W hW; go_simp; (try with_reducible rfl)
        simp only [Act.put, List.setIfInBounds_toArray, List.set_cons_zero, List.set_cons_succ]
        refine wpAnyH_done (by kernel_rfl) ?_ _
        have HP := Lib.hid hS
        clear hS
        go_wp2_with fail
        exact ⟨⟨j + 1, s2, by omega, by go_num, BD2.out, A5, c5, HM2.out.symm ▸ HSE2.out.symm ▸ HLO2.out.symm ▸ HP.out.2, HP.out.1⟩, by simp [intOf]; omega⟩
    · obtain rfl : n = j := by omega
      go_upto_region 31 with fail
      have D3 := Lib.hid ((Below.refl wr.heap.size wr).drew)
      have P := Lib.hid (P.out.on D3.out)
      have R := Lib.hid (R.out.on D3.out)
      clear D3
      generalize hwd : wr.drew = wd at *
      refine wp_region_held_drew (S := fun W => PM w r g s A1 c1 s (fun _ => False) W ∧ NrAt W g (s.room : Nat) (.slice A1 s.l.length c1) s.sent s.lost) (by kernel_rfl) (by rw [hwd]; exact ⟨P.out, R.out⟩) (fun hS => ?_)
      rw [hwd] at hS ⊢
      clear hwd R P
      refine tkYes 0 (v := ?_) rfl (by kernel_rfl) (fun _ _ _ h => h) rfl ?_ hS ?_
      rotate_left
      · intro W hW; go_simp; (try with_reducible rfl)
      simp only [Act.put, List.setIfInBounds_toArray, List.set_cons_zero, List.set_cons_succ]
      refine tkYes 1 (v := ?_) rfl (by kernel_rfl) (fun _ _ _ h => h) rfl ?_ hS ?_
      rotate_left
      · intro W hW; go_simp; (try with_reducible rfl)
      simp only [Act.put, List.setIfInBounds_toArray, List.set_cons_zero, List.set_cons_succ]
      refine tkYes 3 (v := nrV (s.room : Nat) (.slice A1 s.l.length c1) s.sent s.lost) rfl (by kernel_rfl) (fun _ _ _ h => h) rfl (fun W hW => take_nr (.tmp 8) rfl rfl hW.2) hS ?_
      simp only [Act.put, List.setIfInBounds_toArray, List.set_cons_zero, List.set_cons_succ]
      refine tkYes 4 (v := ?_) rfl (by kernel_rfl) (fun _ _ _ h => h) rfl ?_ hS ?_
      rotate_left
      · intro W hW; go_simp; (try with_reducible rfl)
      simp only [Act.put, List.setIfInBounds_toArray, List.set_cons_zero, List.set_cons_succ]
      refine rnOne 2 rfl (by kernel_rfl) rfl (fun K hK => ?_)
      go_simp
      with_reducible refine (p_of unit hS.1).mono ?_
      rintro e w11 ⟨A7, c7, rfl, hs7, hb7⟩
      have S7 := Lib.hid hs7
      have hS2 : PM w r g s A1 c1 s (fun _ => False) w11 ∧ NrAt w11 g (s.room : Nat) (.slice A1 s.l.length c1) s.sent s.lost := ⟨hS.1.on hb7, hS.2.on hb7⟩
      clear hS
      have hS := hS2
      clear hS2
      clear hs7 hb7
      refine hK.out _ _ hS (fun _ => ?_)
      clear hK K
      try simp only [Act.put, List.setIfInBounds_toArray, List.set_cons_zero, List.set_cons_succ]
      refine rnOne 5 rfl (by kernel_rfl) rfl (fun K hK => ?_)
      go_simp
      with_reducible refine (rtof_any _ A1 s.l.length c1 s.l _ _ unit _ hS.1.sl (by have := hS.1.na.ok.fits; have := hS.1.na.ok.most; omega)).mono ?_
      rintro e w12 ⟨A8, c8, rfl, hs8, hb8⟩
      have S8 := Lib.hid hs8
      have S7 := Lib.hid (S7.out.on hb8)
      have hS2 : PM w r g s A1 c1 s (fun _ => False) w12 ∧ NrAt w12 g (s.room : Nat) (.slice A1 s.l.length c1) s.sent s.lost := ⟨hS.1.on hb8, hS.2.on hb8⟩
      clear hS
      have hS := hS2
      clear hS2
      clear hs8 hb8
      refine hK.out _ _ hS (fun _ => ?_)
      clear hK K
      try simp only [Act.put, List.setIfInBounds_toArray, List.set_cons_zero, List.set_cons_succ]
      refine rnOne 6 rfl (by kernel_rfl) rfl (fun K hK => ?_)
      go_simp
      with_reducible refine (rtsame_eq A7 A8 _ c7 c8 _ _ S7.out S8.out).mono ?_
      rintro e w13 ⟨rfl, hb9⟩
      have hS2 : PM w r g s A1 c1 s (fun _ => False) w13 ∧ NrAt w13 g (s.room : Nat) (.slice A1 s.l.length c1) s.sent s.lost := ⟨hS.1.on hb9, hS.2.on hb9⟩
      clear hS
      have hS := hS2
      clear hS2
      clear hb9
      refine hK.out _ _ hS (fun _ => ?_)
      clear hK K
      try simp only [Act.put, List.setIfInBounds_toArray, List.set_cons_zero, List.set_cons_succ]
      refine tkYes 7 (v := ?_) rfl (by kernel_rfl) (fun _ _ _ h => h) rfl ?_ hS ?_
      rotate_left
      · intro W hW; go_simp; (try with_reducible rfl)
      simp only [Act.put, List.setIfInBounds_toArray, List.set_cons_zero, List.set_cons_succ]
      refine wpAnyH_done (by kernel_rfl) ?_ _
      have HP := Lib.hid hS
      clear hS
      go_wp2_with fail
      go_ret
      exact ⟨rfl, HP.out.1.na.below⟩
end Go.Proofs.Ytmhhjipdbfepiaa
