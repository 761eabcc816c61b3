/-
  The walk of the statement JournalTorn.
-/
import Derived.Test.YtdamnamhbjfnlaaJrnlC
import Derived.Test.YtdamnamhbjfnlaaJrnJB
import Derived.Test.YtdamnamhbjfnlaaFrMakeP
namespace Go.Proofs.Ytdamnamhbjfnlaa
open Go.RowKit Fr
set_option linter.unusedSimpArgs false

theorem tn_fits : Dk.fits 10000 = 10000 := rfl
theorem one_of {ls : List (List Nat)} (h : ls.length = min 1 1) : ∃ x, ls = [x] := by
  match ls, h with
  | [x], _ => exact ⟨x, rfl⟩
set_option maxRecDepth 100000 in
set_option maxHeartbeats 3200000 in
theorem jtorn_walk (n c m d : Nat) (A D : Option Addr) (ls : List (List Nat)) (p : List Nat) (keep : Int) (hk : j64In keep) (w : World) (h : SlS w A n c ls) (h' : Sl w D m d p) :
    Calls Try.prog 6 #[.slice A n c, .slice D m d, .int .i64 keep] w fun e w' => e = .returned (.bool true) ∧ Below w.heap.size w w' := by
  have HJ := Lib.hid jrn_keeps
  have H := Lib.hid h
  have H' := Lib.hid h'
  have HK := Lib.hid hk
  have HJA : Hid (∀ (w0 : World) (X : Nat → Prop) (q r : Nat) (d : Dk.St) (W : World), JBX Jrn w0 X q r d W → Calls Try.prog 28 #[.pointer (some ⟨q, 0, none⟩)] W (JAllF (Jn.ents d) W)) := fun _ _ _ _ _ W h => jall_ask h.jr.ask
  clear h h'
  go_enter Try.func6, Try.ntmps6
  go_wp2_with fail
  (with_reducible refine (jlives_any HJ.out _).mono ?_)
  rintro e w1 ⟨rfl, hb1⟩
  have B1 := Lib.hid hb1
  have H1 := Lib.hid (H.out.on hb1)
  clear hb1 H
  have C2 : Hid (Calls Try.prog 37 #[.slice A n c, .int .i64 6] w1 (FMPost 6 w1)) := frMake_any n c 6 A ls w1 H1.out (by omega)
  go_wp2_with fail
  (with_reducible refine C2.out.mono ?_)
  rintro e w2 ⟨A2, c2, ps, rfl, ho2, hps, hp6, hb2⟩
  have OW2 := Lib.hid ho2
  have B12 := Lib.hid hb2
  have B2 := Lib.hid (B1.out.trans (hb2.mono B1.out.size))
  have OK : Hid (∀ p ∈ ps, Fr.ok p) := fun p hp => (hps p hp).1
  have P30 : Hid (∀ p ∈ ps, p.length ≤ 30) := fun p hp => (hps p hp).2
  have AL : Hid ((Fr.all ps).length ≤ 250) := Nat.le_trans (Fr.all_small P30.out) (by omega)
  obtain ⟨mm, hm⟩ : ∃ mm, mm = ps.length := ⟨_, rfl⟩
  have OB : Hid (∀ g, (Value.slice A2 mm c2).ownBlock = some g → w1.heap.size ≤ g ∧ g < w2.heap.size) := by rw [hm]; exact ho2.base
  rw [← hm] at ho2 OW2 ⊢
  have O2 := Lib.hid (sls_own' hm ho2)
  have hm6 : mm ≤ 6 := by omega
  have M := Lib.hid hm
  have CC : Hid (mm ≤ c2) := O2.out.cap
  clear ho2 hps hp6 hb2 H1 hm C2
  have S3 := Lib.hid (SlS.one (H'.out.on B2.out))
  have BX := Lib.hid (alloc_below w2 (.cells #[.slice D m d] 33))
  have CX := Lib.hid (heap_alloc_new w2 (.cells #[.slice D m d] 33))
  have ZX : Hid ((w2.alloc (.cells #[.slice D m d] 33)).heap.size = w2.heap.size + 1) := by show _ = _; simp
  have C3 : Hid (Calls Try.prog 37 #[.slice (some ⟨w2.heap.size, 0, none⟩) 1 1, .int .i64 1] (w2.alloc (.cells #[.slice D m d] 33)) (FMPostP (fun i => i < w.heap.size ∨ w2.heap.size ≤ i) 1 1 (w2.alloc (.cells #[.slice D m d] 33)))) :=
    frMakeP_any _ 1 1 1 _ [p] _ S3.out (by omega) (fun i hi => .inr (by have := ZX.out; omega)) (fun b o e j hj a n' c' hc hn => by
      obtain rfl : j = 0 := by simpa using hj
      injection e with e; injection e with e1 e2; subst e1 e2
      have hcell := cell_of_row (w2.alloc (.cells #[.slice D m d] 33)) w2.heap.size 0 _ _ _ CX.out
      rw [hcell] at hc
      simp only [List.getElem?_toArray, List.getElem?_cons_zero, Option.some.injEq, Value.slice.injEq] at hc
      obtain ⟨rfl, rfl, rfl⟩ := hc
      exact .inl (H'.out.block (by rw [← H'.out.len]; exact hn) a rfl))
  go_wp2_with fail
  have BB := Lib.hid (B2.out.trans (BX.out.mono B2.out.size))
  have ON := Lib.hid (O2.out.on BX.out)
  generalize w2.alloc (.cells #[.slice D m d] 33) = w2' at *
  (with_reducible refine C3.out.mono ?_)
  rintro e w3 ⟨A3, c3, own, rfl, ho3, hox, hon, hb3⟩
  obtain ⟨x, rfl⟩ := one_of hon
  have OKX : Hid (Fr.ok x) := (hox x (by simp)).1
  have X30 : Hid (x.length ≤ 30) := (hox x (by simp)).2
  obtain ⟨b3, Ax, nx, cx, rfl, _, hc3, hb3lt, hb3ge, hcell, hsx, hgx⟩ := OwnP.one ho3
  have SX := Lib.hid hsx
  have GX := Lib.hid hgx
  have CL := Lib.hid hcell
  have LT3 := Lib.hid hb3lt
  have B3 := Lib.hid (BB.out.trans (hb3.mono BB.out.size))
  have O3 := Lib.hid (ON.out.on hb3)
  have Z23 : Hid (w2.heap.size ≤ w3.heap.size) := Nat.le_trans (by have := ZX.out; omega) hb3.size
  have B13 : Hid (Below w1.heap.size w1 w3) := B12.out.trans ((BX.out.trans (hb3.mono BX.out.size)).mono B12.out.size)
  have B23 : Hid (Below w2.heap.size w2 w3) := BX.out.trans (hb3.mono BX.out.size)
  have NX : Hid (nx = x.length) := hsx.len
  clear ho3 hox hon hb3 hcell hsx hgx hb3lt hb3ge BB ON C3 CX BX S3 O2 ZX
  simp only [List.length_singleton]
  go_wp2_with fail
  (with_reducible refine (dNew_at w3 10000 (Below.refl _ _)).mono ?_)
  rintro e w4 ⟨r, rfl, _, hd4, hb4, _⟩
  have C4' := Lib.hid (jNew_b HJ.out w4 10000 hb4 hd4 (Nat.le_refl _))
  rw [tn_fits] at C4'
  clear hd4 hb4
  go_wp2_with fail
  (with_reducible refine C4'.out.mono ?_)
  rintro e w5 ⟨q, rfl, hp5⟩
  have P5 := Lib.hid hp5
  clear hp5 C4'
  go_wp2_with fail
  go_loopw [11] (fun i wr => ∃ j : Nat, j ≤ mm ∧ i = .int .i64 j ∧ JB Jrn w3 q r (Jn.Js 10000 0 (ps.take j)) wr) (fun i _ => mm - (intOf i).toNat)
  case atStart => exact ⟨0, by omega, rfl, P5.out⟩
  case round =>
    obtain ⟨j, hj, rfl, hp⟩ := hrel
    have P := Lib.hid hp
    clear hp P5
    by_cases hlt : j < mm
    · have OW := Lib.hid (O3.out.on P.out.below)
      obtain ⟨b, o, rfl, _, hrow⟩ := OW.out.rd (by have := M.out; omega)
      obtain ⟨A5, n5, c5, hc5, hs5⟩ := hrow j (by have := M.out; omega)
      have HS5 := Lib.hid hs5
      have N5 : Hid (n5 ≤ 900000000) := by
        have h1 := hs5.len
        have h2 : j < ps.length := by have := M.out; omega
        have h3 := P30.out (ps.getD j []) (by rw [List.getD_eq_getElem?_getD, List.getElem?_eq_getElem h2]; exact List.getElem_mem h2)
        show _ ≤ _
        omega
      have E5 := Lib.hid (Jn.js_app_at (R := 10000) (k := 0) (xs := []) OK.out (Nat.zero_le _) (j := j) (by have := M.out; omega) (by have := AL.out; rw [List.nil_append]; omega))
      simp only [List.nil_append] at E5
      have hcc := CC.out
      clear hrow hs5 OW
      go_wp2_with fail
      refine (jAppend_b HJ.out _ P.out HS5.out N5.out).mono ?_
      rw [E5.out.1, E5.out.2]
      rintro e w6 ⟨rfl, hp6⟩
      have P6 := Lib.hid hp6
      clear hp6
      go_wp2_with fail
      exact ⟨⟨j + 1, by omega, by go_num, P6.out⟩, by simp [intOf]; omega⟩
    · obtain rfl : j = mm := by omega
      have P6 : Hid (JB Jrn w3 q r (Jn.Js 10000 0 ps) wr) := by
        have e : ps.take j = ps := List.take_of_length_le (by rw [M.out]; exact Nat.le_refl _)
        have := P.out
        rw [e] at this
        exact this
      clear P
      have hcl := (P6.out.below.cell (p := ⟨b3, 0, none⟩) LT3.out).trans CL.out
      have SX6 := Lib.hid (SX.out.on P6.out.below)
      have hnx : nx ≤ 30 := by rw [NX.out]; exact X30.out
      have TT := Lib.hid (Jn.js_torn (R := 10000) (k := 0) (ps := ps) OK.out (Nat.zero_le _) OKX.out (by have := AL.out; have := X30.out; omega) keep)
      go_wp2_with fail
      refine (jTorn_b HJ.out _ P6.out SX6.out (by omega) HK.out).mono ?_
      rw [TT.out.1, TT.out.2, ← NX.out]
      rintro e w7 ⟨rfl, hp7⟩
      by_cases hkp : ((nx + 6 : Nat) : Int) ≤ keep
      · rw [if_pos hkp] at hp7
        obtain ⟨es, hes⟩ : ∃ es, es = ps ++ [x] := ⟨_, rfl⟩
        have EL : Hid (es.length = j + 1) := by show _ = _; rw [hes, List.length_append, ← M.out]; rfl
        have EOK : Hid (∀ p ∈ es, Fr.ok p) := fun y hy => by
          rw [hes] at hy
          rcases List.mem_append.1 hy with hy | hy
          · exact OK.out y hy
          · rw [List.mem_singleton.1 hy]; exact OKX.out
        have EA : Hid ((Fr.all es).length ≤ 300) := by
          show _ ≤ _
          rw [hes, Fr.all_append, Fr.all_one, List.length_append, Fr.fr_length]
          have := AL.out; have := X30.out; omega
        rw [← hes, ← M.out, ← EL.out] at hp7
        have P7 := Lib.hid hp7
        have HES := Lib.hid hes
        clear hp7 P6 hes SX6 hcl
        go_wp2_with fail
        refine (HJA.out _ _ _ _ _ w7 P7.out).mono ?_
        rw [Jn.js_ents EOK.out]
        rintro e w8 ⟨A8, c8, rfl, ho8, hb8⟩
        have F8 := Lib.hid ho8
        have P8 := Lib.hid (P7.out.on HJ.out hb8)
        have Z37 : Hid (w3.heap.size ≤ w7.heap.size) := P7.out.below.size
        have hcl := (P8.out.below.cell (p := ⟨b3, 0, none⟩) LT3.out).trans CL.out
        have SX8 := Lib.hid (SX.out.on P8.out.below)
        have OW8 := Lib.hid (((OW2.out.below B23.out).below P8.out.below))
        have HFAR : Hid (0 < x.length → ∀ a, Ax = some a → (Value.slice A2 j c2).ownBlock ≠ some a.block) := fun _ a ha e => by
          have h1 := OB.out _ e
          have h2 := B1.out.size
          rcases GX.out a ha with h3 | h3 <;> omega
        have hbase : w1.heap.size ≤ w8.heap.size := Nat.le_trans B13.out.size P8.out.below.size
        clear ho8 hb8
        rw [EL.out] at F8 ⊢
        go_wp2_with (at_builtin; refine wpList_append_rowP (G := fun _ => True) rfl (.tmp 59) (.tmp 63) rfl w1.heap.size _ ps rfl (OW8.out.toP) Ax nx cx x SX8.out (fun _ _ => trivial) rfl HFAR.out (by have := M.out; omega) hbase ?_; intro v9 w9 ho9 hg9; have O9 := Lib.hid ho9.rows; have G9 := Lib.hid hg9; obtain ⟨A9, c9, rfl, _⟩ := ho9.rows.sls; clear ho9 hg9)
        have P9 : Hid (JBX Jrn w1 (fun i => w3.heap.size ≤ i) q r (Jn.Js 10000 es.length es) w9) := P8.out.over HJ.out B13.out G9.out (fun g hg => by
          have h1 := OB.out g hg
          exact ⟨h1.1, by have := Z23.out; omega⟩)
        have S9 : Hid (SlS w9 A8 (j + 1) c8 es) := by
          have h1 := F8.out.kept (Kept.of_grown (F := fun i => (Value.slice A2 j c2).ownBlock = some i) G9.out (fun i e => e)) (fun i h1 _ h2 => by
            have h3 := OB.out i h2
            have h4 := Z37.out
            have h5 := Z23.out
            omega)
          exact sls_own' EL.out.symm h1.rows
        have T9 : Hid (SlS w9 A9 (j + 1) c9 es) := by
          have h1 := O9.out
          rw [← HES.out, EL.out] at h1
          exact sls_own' EL.out.symm h1
        have CS : Hid (Calls Try.prog 27 #[.slice A8 (j + 1) c8, .slice A9 (ps.length + 1) c9] w9 fun e w' => e = .returned (.bool true) ∧ ∃ d, w' = w9.drewN d) := by
          show Calls _ _ _ _ _
          rw [← M.out]
          exact frSame_any (j + 1) c8 c9 A8 A9 es w9 S9.out T9.out (by omega)
        have BW := Lib.hid B1.out
        clear P8 F8 G9 O9 hcl SX8 OW8 HFAR P7
        go_wp2_with fail
        (with_reducible refine CS.out.mono ?_)
        rintro e w10 ⟨rfl, dd, rfl⟩
        have P10 := Lib.hid (P9.out.on HJ.out (Below.drewN (Below.refl _ _) dd))
        clear S9 T9 CS
        go_wp2_with fail
        refine (jSafe_b HJ.out _ P10.out).mono ?_
        rw [Jn.js_safe EOK.out (Nat.le_refl _), EL.out]
        rintro e w11 ⟨⟨rfl, hp11⟩, _⟩
        have P11 := Lib.hid (hp11.on HJ.out (alloc_below w11 (.cells #[.int .u8 120] 5 (1, 2))))
        have hcv := Lib.run_convert_bytes_const (P := Try.prog) w11 33 5 #[.int .u8 120] 1 1 Try.underlying33 Try.underlying5
        clear hp11 P10
        have AP := Lib.hid (Jn.js_app (R := 10000) (k := j + 1) (ps := es) (Nat.le_of_eq EL.out.symm) (p := [120]) (ok_one 120 (by omega)) (by have := EA.out; simp only [List.length_singleton]; omega))
        go_wp2_with fail
        clear hcv
        refine (jAppend_b HJ.out _ P11.out (sl_one8 w11 120 (by omega) 120 rfl _) (by omega)).mono ?_
        rw [AP.out.1, AP.out.2]
        rintro e w12 ⟨rfl, hp12⟩
        have P12 := Lib.hid hp12
        clear hp12 P11
        go_wp2_with fail
        refine (jLen_b HJ.out _ P12.out).mono ?_
        rw [Jn.js_ents (fun y hy => by
          rcases List.mem_append.1 hy with hy | hy
          · exact EOK.out y hy
          · rw [List.mem_singleton.1 hy]; exact ok_one 120 (by omega)), List.length_append, EL.out]
        rintro e w13 ⟨⟨rfl, hp13⟩, _⟩
        have B13' := Lib.hid (BW.out.trans (hp13.below.mono BW.out.size))
        clear hp13 P12
        go_wp2_with fail
        go_ret
        exact ⟨rfl, B13'.out⟩
      · rw [if_neg hkp] at hp7
        have P7 := Lib.hid hp7
        have EL : Hid (ps.length = j) := M.out.symm
        have hkn : ¬ (nx : Int) + 6 ≤ keep := by omega
        clear hp7 P6 SX6 hcl
        go_wp2_with fail
        refine (jAll_b HJ.out _ P7.out).mono ?_
        rw [Jn.js_ents OK.out]
        rintro e w8 ⟨A8, c8, rfl, ho8, hp8, _⟩
        have P9 := Lib.hid hp8
        have hcl := (hp8.below.cell (p := ⟨b3, 0, none⟩) LT3.out).trans CL.out
        rw [EL.out] at ho8 ⊢
        have S9 := Lib.hid (sls_own' EL.out.symm ho8)
        have T9 := Lib.hid (O3.out.on hp8.below)
        have EA : Hid ((Fr.all ps).length ≤ 300) := by have := AL.out; show _ ≤ _; omega
        have BW := Lib.hid B3.out
        have CS := Lib.hid (frSame_any j c8 c2 A8 A2 ps w8 S9.out T9.out (by omega))
        clear ho8 hp8 P7
        go_wp2_with fail
        (with_reducible refine CS.out.mono ?_)
        rintro e w10 ⟨rfl, dd, rfl⟩
        have P10 := Lib.hid (P9.out.on HJ.out (Below.drewN (Below.refl _ _) dd))
        clear S9 T9 CS
        go_wp2_with fail
        refine (jSafe_b HJ.out _ P10.out).mono ?_
        rw [Jn.js_safe OK.out (Nat.le_refl _), EL.out]
        rintro e w11 ⟨⟨rfl, hp11⟩, _⟩
        have P11 := Lib.hid (hp11.on HJ.out (alloc_below w11 (.cells #[.int .u8 120] 5 (1, 2))))
        have hcv := Lib.run_convert_bytes_const (P := Try.prog) w11 33 5 #[.int .u8 120] 1 1 Try.underlying33 Try.underlying5
        clear hp11 P10
        have AP := Lib.hid (Jn.js_app (R := 10000) (k := j) (ps := ps) (Nat.le_of_eq EL.out.symm) (p := [120]) (ok_one 120 (by omega)) (by have := EA.out; simp only [List.length_singleton]; omega))
        go_wp2_with fail
        clear hcv
        refine (jAppend_b HJ.out _ P11.out (sl_one8 w11 120 (by omega) 120 rfl _) (by omega)).mono ?_
        rw [AP.out.1, AP.out.2]
        rintro e w12 ⟨rfl, hp12⟩
        have P12 := Lib.hid hp12
        clear hp12 P11
        go_wp2_with fail
        refine (jLen_b HJ.out _ P12.out).mono ?_
        rw [Jn.js_ents (fun y hy => by
          rcases List.mem_append.1 hy with hy | hy
          · exact OK.out y hy
          · rw [List.mem_singleton.1 hy]; exact ok_one 120 (by omega)), List.length_append, EL.out]
        rintro e w13 ⟨⟨rfl, hp13⟩, _⟩
        have B13' := Lib.hid (BW.out.trans (hp13.below.mono BW.out.size))
        clear hp13 P12
        go_wp2_with fail
        go_ret
        exact ⟨rfl, B13'.out⟩
end Go.Proofs.Ytdamnamhbjfnlaa
