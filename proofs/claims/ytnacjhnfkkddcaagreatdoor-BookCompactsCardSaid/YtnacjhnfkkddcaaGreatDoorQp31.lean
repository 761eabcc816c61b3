import Derived.Test.YtnacjhnfkkddcaaGreatDoorQp30
set_option maxHeartbeats 6400000
set_option maxRecDepth 100000
set_option linter.unusedSimpArgs false
set_option linter.unusedVariables false
namespace Go.Proofs.YtnacjhnfkkddcaaGreatDoor
open Go.RowKit
theorem lkc_len (x : Int) : ((fun x : Int => [Value.int .i64 x]) x).length = 1 := rfl
theorem lkc_one (x : Int) : ∀ u ∈ (fun x : Int => [Value.int .i64 x]) x, u.oneCell' = true := by intro u hu; rw [List.mem_singleton.1 hu]; rfl
theorem jmz (s : Bk.St) {u : Nat} (hu : u < 16) : (Bk.units s)[u]? = some (s.us u) := by
 unfold Bk.units
 rw [List.getElem?_map, List.getElem?_range hu]
 rfl
theorem jg8 {vs : List Bk.Vn} {n : Int} {t : ByteArray} (h : Bk.dig vs n = some t) : Bk.text vs n = t ∧ Bk.has vs n = true := by
 unfold Bk.text Bk.has
 rw [h]
 exact ⟨rfl, rfl⟩
theorem jfi {w0 W : World} {F : Nat → Prop} {q : Nat} {s t : Bk.St} (hl : Bk.Like s t) (L V H : Value) (hd : BP w0 F q s W) (ht : BT W) (hr : BkRd W t L V H) : Calls Tryz.prog 16 #[.pointer (some ⟨q, 0, none⟩), .agg (Bk.cells t L V H)] W (BRet (.bool true) W) := by
 obtain ⟨A2, c2, rfl, hrv⟩ := hr.v
 obtain ⟨A3, c3, rfl, hrh⟩ := hr.h
 have HL := zh hl
 have OK := zh (joa hd)
 have hsv : ∀ W, (zeroValue 48).run Tryz.prog W = .ok (.agg (Bk.viewC Bk.none_)) W := (zero_of_info (n := 22) (by kernel_rfl)).1
 have BA := zh (BkAt.new W t L (.slice A2 t.vs.length c2) (.slice A3 t.h.length c3))
 have B := zh ((Below.refl W.heap.size W).alloc (Nat.le_refl _) (.cells (Bk.cells t L (.slice A2 t.vs.length c2) (.slice A3 t.h.length c3)) 40))
 have D := zh (jbj hd B.out)
 have RV := zh (hrv.on B.out)
 have RH := zh (hrh.on B.out)
 have TT := zh (ht.on B.out)
 have hc2 := hrv.cap
 have hc3 := hrh.cap
 clear hl hd ht hr hrv hrh
 go_enter Tryz.func16, Tryz.ntmps16
 go_upto_region 1 with fail
 obtain ⟨g, hg⟩ : ∃ g, g = W.heap.size := ⟨_, rfl⟩
 rw [← hg] at BA ⊢
 clear hg
 generalize W.alloc (.cells (Bk.cells t L (.slice A2 t.vs.length c2) (.slice A3 t.h.length c3)) 40) = w1 at *
 have x0 := BA.out.cs
 have c3 := x0.c3
 have c4 := x0.c4
 have c5 := x0.c5
 have c6 := x0.c6
 have c7 := x0.c7
 have c8 := x0.c8
 have c9 := x0.c9
 have c10 := x0.c10
 have c11 := x0.c11
 have c12 := x0.c12
 have c13 := x0.c13
 have c14 := x0.c14
 have c15 := x0.c15
 have c16 := x0.c16
 have c17 := x0.c17
 have c18 := x0.c18
 have c19 := x0.c19
 have c20 := x0.c20
 have c21 := x0.c21
 have c22 := x0.c22
 have c23 := x0.c23
 have c24 := x0.c24
 have clt := x0.lt
 clear x0
 go_upto_region 2 with (first
  | ((with_reducible show wpList _ _ _ ({ dst := some 34, op := .build _ _, type := _, pos := _, after := _, guard := _ } :: _) _ _); refine jbi rfl 48 _ rfl (Bk.viewC t) (by kernel_rfl) ?_)
  | ((with_reducible show zW); refine jbt (s := t) rfl (.tmp 5) (.tmp 34) rfl rfl rfl (heap_alloc_new w1 _) rfl ?_))
 clear c3 c4 c5 c6 c7 c8 c9 c10 c11 c12 c13 c14 c15 c16 c17 c18 c19 c20 c21 c22 c23 c24 clt
 rw [World.setRow_alloc_new]
 have hb2 : Below w1.heap.size w1 (w1.alloc (.cells (Bk.viewC t) 48)) := (Below.refl _ _).alloc (Nat.le_refl _) _
 have V2 := zh (heap_alloc_new w1 (.cells (Bk.viewC t) 48))
 have BA2 := zh (BA.out.on hb2)
 have B2 := zh (B.out.trans (hb2.mono B.out.size))
 have D2 := zh (jbj D.out hb2)
 have RV2 := zh (RV.out.on hb2)
 have RH2 := zh (RH.out.on hb2)
 have T2 := zh (TT.out.on hb2)
 clear hb2 BA B D RV RH TT
 generalize w1.alloc (.cells (Bk.viewC t) 48) = w2 at *
 generalize w1.heap.size = g5 at *
 go_upto_region 3 with (go_at_call 28; (with_reducible refine (jiq D2.out).mono ?_); rintro e w3 ⟨A5, c5, rfl, h1, h2, h3⟩; rw [jg5] at h1 ⊢; have D3 := zh (jbj D2.out h2); have U3 := zh h1; have BA3 := zh (BA2.out.on h2); have V3 := zh (jaf V2.out h2); have B3 := zh (B2.out.trans (h2.mono B2.out.size)); have RV3 := zh (RV2.out.on h2); have RH3 := zh (RH2.out.on h2); have T3 := zh (T2.out.on h2); clear h1 h2 h3 D2 BA2 V2 B2 RV2 RH2 T2)
 obtain ⟨bu, ou, rfl⟩ : ∃ b o, A5 = some ⟨b, o, none⟩ := by
  obtain ⟨b, o, e, _⟩ := U3.out.rd (by rw [jg5]; omega)
  exact ⟨b, o, e⟩
 have hcu := U3.out.cap
 have ON : Hid (∀ X, Below w3.heap.size w3 X → BP w0 F q s X ∧ BkAt X g t L (.slice A2 t.vs.length c2) (.slice A3 t.h.length c3) ∧ X.heap[g5]? = some (.cells (Bk.viewC t) 48) ∧ Below W.heap.size W X) := fun X hb => ⟨jbj D3.out hb, BA3.out.on hb, jaf V3.out hb, B3.out.trans (hb.mono B3.out.size)⟩
 clear D3 BA3 V3 B3
 have HLH := zh HL.out.h
 have LH : Hid (s.h.length ≤ 24) := OK.out.hl
 have hne : ∀ W, (binOp .neq 48 (.agg (Bk.viewC s)) (.agg (Bk.viewC t))).run Tryz.prog W = .ok (.bool false) W := fun W => by
  rw [vw_neq, Bk.vwSame_iff.2 ⟨HL.out.ep, HL.out.who, HL.out.till, HL.out.stable, HL.out.from_, HL.out.ph, HL.out.step, HL.out.since, HL.out.begun, HL.out.seq, HL.out.sp⟩]; rfl
 refine wp_region_held_drew (S := fun X => Below w3.heap.size w3 X) (by kernel_rfl) (Below.refl w3.heap.size w3).drew (fun hS => ?_)
 refine tY 0 hS ?_
 refine tZ 2 (v := .agg (Bk.viewC t)) rfl (fun W hW => jmx (.tmp 5) rfl g5 t rfl (ON.out W hW).2.2.1) hS ?_
 simp only [Act.put, zT, zO, zS]
 refine rO 1 (fun K hK => ?_)
 go_simp
 with_reducible refine (jmo (ON.out _ hS).1).mono ?_
 rintro e wv ⟨rfl, hb⟩
 replace hS := hS.trans (hb.mono hS.size)
 clear hb
 refine hK.out _ _ hS (fun _ => ?_)
 clear hK K
 refine tY 3 hS ?_
 refine tY 4 hS ?_
 refine tY 5 hS ?_
 refine tY 6 hS ?_
 refine tY 7 hS ?_
 refine tY 8 hS ?_
 simp only [Act.put, zT, zO, zS]
 refine tY 9 hS ?_
 refine tY 10 hS ?_
 refine tY 12 hS ?_
 refine tZ 13 rfl (by intro W hW; have c73 := (ON.out W hW).2.1.cs.c73; have lg := (ON.out W hW).2.1.cs.lt; go_simp; (try with_reducible rfl)) hS ?_
 simp only [Act.put, zT, zO, zS]
 refine rO 11 (fun K hK => ?_)
 go_simp
 with_reducible refine (jmp (ON.out _ hS).1).mono ?_
 rintro e wh hp
 obtain ⟨A8, c8, rfl, p1, hb, p3⟩ := hp
 have S8 := zh p1
 clear p1 p3
 replace hS := hS.trans (hb.mono hS.size)
 clear hb
 refine hK.out _ _ hS (fun _ => ?_)
 clear hK K
 try simp only [Act.put, zT, zO, zS]
 refine rO 14 (fun K hK => ?_)
 go_simp
 with_reducible refine (jj0 A8 A3 s.h.length t.h.length c8 c3 s.h t.h _ S8.out (RH3.out.on hS) (by have := LH.out; omega)).mono ?_
 rintro e ws ⟨⟨zz, rfl, hzz⟩, hb⟩
 obtain rfl : zz = true := hzz.2 HLH.out
 clear hzz
 replace hS := hS.trans (hb.mono hS.size)
 clear hb
 refine hK.out _ _ hS (fun _ => ?_)
 clear hK K
 refine tY 15 hS ?_
 refine tY 16 hS ?_
 simp only [Act.put, zT, zO, zS]
 refine wpAnyH_done (by kernel_rfl) ?_ _
 have B4 := zh hS
 clear hS hne
 go_upto_region 5 with fail
 go_wp2_with fail
 go_loopw [7] (fun i wr => ∃ u : Nat, u ≤ 16 ∧ i = .int .i64 u ∧ Below w3.heap.size w3 wr) (fun i _ => 16 - (intOf i).toNat)
 case atStart => exact ⟨0, Nat.zero_le _, rfl, B4.out⟩
 case round =>
  clear B4
  obtain ⟨u, hu, rfl, hb⟩ := hrel
  have BU := zh hb
  clear hb
  have k1 : (0 : Int) ≤ (u : Int) := by omega
  by_cases hlu : u < 16
  ·have k2 : (u : Int) < 16 := by omega
   have HLU := zh hlu
   have EU : Hid (t.us u = s.us u) := (HL.out.us u hlu).symm
   have XU : Hid (∀ X, Below w3.heap.size w3 X → X.cell? ⟨bu, ou + u * 3, none⟩ = some (.int .i64 (s.us u).v) ∧ X.cell? ⟨bu, ou + u * 3 + 1, none⟩ = some (.int .i64 (s.us u).q) ∧ X.cell? ⟨bu, ou + u * 3 + 2, none⟩ = some (.bool (s.us u).d) ∧ bu < X.heap.size) := fun X hb => by
    obtain ⟨b', o', e, hb', hc⟩ := (U3.out.on hb).at_ jma (jmz s hlu)
    injection e with e; injection e with e1 e2; subst e1 e2
    exact ⟨hc 0 _ rfl, hc 1 _ rfl, hc 2 _ rfl, hb'⟩
   have XB : Hid (∀ X, Below w3.heap.size w3 X → X.cell? ⟨g, 25 + u * 3, none⟩ = some (.int .i64 (s.us u).v) ∧ X.cell? ⟨g, 25 + u * 3 + 1, none⟩ = some (.int .i64 (s.us u).q) ∧ X.cell? ⟨g, 25 + u * 3 + 2, none⟩ = some (.bool (s.us u).d) ∧ g < X.heap.size) := fun X hb => by
    obtain ⟨h1, h2, h3⟩ := (ON.out X hb).2.1.unit hlu
    rw [EU.out] at h1 h2 h3
    exact ⟨h1, h2, h3, (ON.out X hb).2.1.lt⟩
   have hne : ∀ W, (binOp .neq 37 (.agg #[.int .i64 (s.us u).v, .int .i64 (s.us u).q, .bool (s.us u).d]) (.agg #[.int .i64 (s.us u).v, .int .i64 (s.us u).q, .bool (s.us u).d])).run Tryz.prog W = .ok (.bool false) W := fun W => by
    rw [un_neq, Bk.unSame_iff.2 rfl]; rfl
   generalize s.us u = a at *
   clear hlu EU
   go_upto_region 8 with fail
   refine wp_region_held_drew (S := fun X => Below w3.heap.size w3 X) (by kernel_rfl) (BU.out.trans ((Below.refl _ _).drew.mono BU.out.size)) (fun hS => ?_)
   refine tY 0 hS ?_
   refine tY 1 hS ?_
   refine tY 2 hS ?_
   refine tZ 3 rfl (by intro W hW; obtain ⟨c0, c1, c2, lc⟩ := XU.out W hW; go_simp; (try with_reducible rfl)) hS ?_
   refine tY 4 hS ?_
   refine tY 5 hS ?_
   simp only [Act.put, zT, zO, zS]
   refine tY 6 hS ?_
   refine tZ 7 rfl (by intro W hW; obtain ⟨c0, c1, c2, lc⟩ := XB.out W hW; go_simp; (try with_reducible rfl)) hS ?_
   refine tY 8 hS ?_
   simp only [Act.put, zT, zO, zS]
   refine wpAnyH_done (by kernel_rfl) ?_ _
   have D5 := zh hS
   clear hS
   go_wp2_with fail
   exact ⟨⟨u + 1, by have := HLU.out; omega, by go_num, D5.out⟩, by simp [intOf]; have := HLU.out; omega⟩
  ·have k2 : (16 : Int) ≤ (u : Int) := by omega
   clear hlu
   have hlv := HL.out.vs
   have VI : Hid (∀ v ∈ t.vs, jk2 v.n ∧ Bk.dig s.vs v.n = some v.t) := fun v hv => by
    rw [← hlv] at hv
    exact ⟨⟨by have := OK.out.vs v hv; omega, by have := OK.out.vs v hv; omega⟩, Bd.dig_mem OK.out.rise hv⟩
   obtain ⟨N, hN⟩ : ∃ N, N = t.vs.length := ⟨_, rfl⟩
   have HN := zh hN
   have q64 : (N : Int) ≤ 64 := by have := OK.out.vl; rw [hlv] at this; omega
   have RN := RV3.out
   rw [← hN] at RN
   have RVN := zh RN
   have C2 : Hid (∀ X, Below w3.heap.size w3 X → X.cell? ⟨g, 2, none⟩ = some (.slice A2 N c2) ∧ g < X.heap.size) := fun X hb => by
    have h := (ON.out X hb).2.1.cs
    rw [hN]
    exact ⟨h.c2, h.lt⟩
   have HLV := zh hlv
   clear hlv hN RN RV3
   have hc2 := RVN.out.cap
   go_upto_region 11 with fail
   generalize hv0 : Value.slice none 0 0 = v0
   have HV0 := zh hv0
   clear hv0
   go_wp2_with fail
   go_loopw [8, 9] (fun v i wr => ∃ p : Nat, p ≤ N ∧ i = .int .i64 p ∧ OwF (fun x : Int => [Value.int .i64 x]) 1 3 wr w3.heap.size v ((t.vs.map (·.n)).take p) ∧ Below w3.heap.size w3 wr) (fun _ i _ => N - (intOf i).toNat)
   case atStart => exact ⟨0, Nat.zero_le _, rfl, HV0.out ▸ OwF.none_ _ _ _, BU.out⟩
   case round =>
    clear BU
    obtain ⟨p, hp, rfl, ho, hb⟩ := hrel
    have O := zh ho
    have BU := zh hb
    clear ho hb
    have k1 : (0 : Int) ≤ (p : Int) := by omega
    obtain ⟨f2, lg⟩ := C2.out _ BU.out
    by_cases hlp : p < N
    ·have hlp2 : p < t.vs.length := by have := HN.out; omega
     have hxp : t.vs[p]? = some (t.vs[p]'hlp2) := List.getElem?_eq_getElem _
     have VP := zh (VI.out _ (List.getElem_mem hlp2))
     have NX : Hid ((t.vs.map (·.n)).take (p + 1) = (t.vs.map (·.n)).take p ++ [(t.vs[p]'hlp2).n]) := by
      show _ = _
      rw [List.take_add_one, List.getElem?_map, hxp]
      rfl
     generalize t.vs[p]'hlp2 = x at *
     obtain ⟨bv, ov, rfl, _, _⟩ := RVN.out.at_ Bk.vnC_len hxp
     have XV : Hid (∀ X, Below w3.heap.size w3 X → X.cell? ⟨bv, ov + p * 2, none⟩ = some (.int .i64 x.n) ∧ X.cell? ⟨bv, ov + p * 2 + 1, none⟩ = some (.string x.t) ∧ bv < X.heap.size) := fun X hb => by
      obtain ⟨b', o', e, hb', hc⟩ := (RVN.out.on hb).at_ Bk.vnC_len hxp
      injection e with e; injection e with e1 e2; subst e1 e2
      exact ⟨hc 0 _ rfl, hc 1 _ rfl, hb'⟩
     have k2 : (p : Int) < (N : Int) := by omega
     have HLP := zh hlp
     have CD : Hid (∀ X, Below w3.heap.size w3 X → Calls Tryz.prog 23 #[.pointer (some ⟨q, 0, none⟩), .int .i64 x.n] X (BRet (.tuple #[.string x.t, .bool true]) X)) := fun X hb => by
      have h := jey (ON.out X hb).1 (T3.out.on hb) x.n VP.out.1
      rw [(jg8 VP.out.2).1, (jg8 VP.out.2).2] at h
      exact h
     generalize x.t = tx at *
     generalize x.n = xn at *
     obtain ⟨e0, e1, le⟩ := XV.out _ BU.out
     clear hxp hlp hlp2 VP
     go_upto_region 15 with (at_builtin; refine jad lkc_len lkc_one Tryz.underlying57 jfn rfl (by omega) rfl (.tmp 74) (.tmp 81) rfl w3.heap.size _ _ rfl O.out xn rfl (by rw [List.length_take]; unfold maxLen; omega) (by rw [List.length_take]; omega) BU.out.size ?_; intro v9 w9 ho9 hb9 hg9 hv9; have O7 := zh ho9; have B7 := zh (BU.out.trans hb9); clear ho9 hb9 hg9 hv9 O BU)
     clear e0 e1 le f2 lg
     obtain ⟨e0, e1, le⟩ := XV.out _ B7.out
     obtain ⟨f2, lg⟩ := C2.out _ B7.out
     go_upto_region 16 with (go_at_call 23; (with_reducible refine (CD.out _ B7.out).mono ?_); rintro e w10 ⟨rfl, hb⟩; have O8 := zh (O7.out.below hb); have B8 := zh (B7.out.trans (hb.mono B7.out.size)); clear hb O7)
     clear e0 e1 le f2 lg
     obtain ⟨e0, e1, le⟩ := XV.out _ B8.out
     obtain ⟨f2, lg⟩ := C2.out _ B8.out
     go_wp2_with fail
     have h2 := HLP.out
     refine ⟨⟨p + 1, by omega, by go_num, ?_, B8.out⟩, by simp [intOf]; omega⟩
     rw [NX.out]
     exact O8.out
    ·obtain rfl : p = N := by omega
     have k2 : (p : Int) ≤ (p : Int) := Int.le_refl _
     obtain ⟨AF, cF, rfl⟩ := O.out.form
     have ET : Hid ((t.vs.map (·.n)).take p = s.vs.map (·.n)) := by
      show _ = _
      rw [HLV.out]
      exact List.take_of_length_le (by rw [List.length_map, HN.out]; exact Nat.le_refl _)
     have LMS : Hid ((s.vs.map (·.n)).length = s.vs.length) := List.length_map _
     rw [ET.out] at O ⊢
     rw [LMS.out] at O ⊢
     clear hlp ET
     go_wp2_with (first
      | (go_at_call 24; (with_reducible refine (jf3 (ON.out _ BU.out).1).mono ?_); rintro e w11 ⟨A9, c9, rfl, h1, h2, h3⟩; rw [LMS.out] at h1 ⊢; have W1 := zh (jg7 h1); have O9 := zh (jg7 (O.out.below h2).sl); have B8 := zh (BU.out.trans (h2.mono BU.out.size)); clear h1 h2 h3 O)
      | (go_at_call 34; (with_reducible refine (jof _ c9 cF A9 AF _ _ W1.out O9.out (by have := OK.out.vl; omega)).mono ?_); rintro e w12 ⟨rfl, d, rfl⟩; have B9 := zh (jbo (ON.out _ B8.out).2.2.2 d)))
     go_ret
     exact ⟨rfl, B9.out⟩
theorem jg9 (A1 A2 : Option Addr) (n m c1 c2 : Nat) (a b : List Rc.R) (w : World) (h1 : SlF Bk.rcC w A1 n c1 a) (h2 : SlF Bk.rcC w A2 m c2 b) (hn : n ≤ 100000) : Calls Tryz.prog 45 #[.slice A1 n c1, .slice A2 m c2] w (jcs (a = b) w) := by
 have S1 := zh h1
 have S2 := zh h2
 have L1 := zh h1.len
 have L2 := zh h2.len
 have hc1 := h1.cap
 have hc2 := h2.cap
 clear h1 h2
 by_cases hnm : n = m
 case neg =>
  have q0 : ((n : Int) != (m : Int)) = true := by rw [bne_iff_ne]; omega
  go_enter Tryz.func45, Tryz.ntmps45
  go_wp2_with fail
  go_ret
  exact ⟨⟨false, rfl, by simp; rintro rfl; exact hnm (L1.out.trans L2.out.symm)⟩, Below.refl _ _⟩
 case pos =>
  subst hnm
  go_enter Tryz.func45, Tryz.ntmps45
  go_wp2_with fail
  go_loopw [5, 13] (fun _ i wr => ∃ j : Nat, j ≤ n ∧ i = .int .i64 j ∧ (∀ k, k < j → a[k]? = b[k]?) ∧ Below w.heap.size w wr) (fun _ i _ => n - (intOf i).toNat)
  case atStart => exact ⟨0, by omega, rfl, fun k hk => by omega, Below.refl _ _⟩
  case round =>
   obtain ⟨j, hj, rfl, hk, hbr⟩ := hrel
   have HK := zh hk
   have B := zh hbr
   clear hk hbr
   by_cases hlt : j < n
   ·have hx : a[j]? = some (a[j]'(by have := L1.out; omega)) := List.getElem?_eq_getElem _
    have hy : b[j]? = some (b[j]'(by have := L2.out; omega)) := List.getElem?_eq_getElem _
    generalize a[j]'(by have := L1.out; omega) = x at hx
    generalize b[j]'(by have := L2.out; omega) = y at hy
    obtain ⟨b1, o1, rfl, hl1, hr1⟩ := jbl S1.out hx
    obtain ⟨b2, o2, rfl, hl2, hr2⟩ := jbl S2.out hy
    have EX := zh hx
    have EY := zh hy
    have R1 := zh hr1
    have R2 := zh hr2
    have H1 := zh hl1
    have H2 := zh hl2
    have i1 : (0 : Int) ≤ (j : Int) := by omega
    have i2 : (j : Int) < (n : Int) := by omega
    have hgd := jf8
    obtain ⟨q, hq⟩ : ∃ q : Bool, q = true ↔ x ≠ y := by
     classical exact ⟨decide (x ≠ y), decide_eq_true_iff⟩
    have hne : ∀ W, (binOp .neq 53 (.agg (Rc.cells x)) (.agg (Rc.cells y))).run Tryz.prog W = .ok (.bool q) W := fun W => by
     classical
     rw [jez, show (!decide (x = y)) = q from by rw [Bool.eq_iff_iff, hq]; simp]
    have HQ := zh hq
    clear hx hy hr1 hr2 hl1 hl2 hq
    go_upto_region 6 with fail
    refine wp_region_held_drew (S := fun W => Below w.heap.size w W) (by kernel_rfl) B.out.drew (fun hS => ?_)
    refine tY 0 hS ?_
    refine tY 1 hS ?_
    refine tY 2 hS ?_
    refine tZ 3 (v := .agg (Rc.cells x)) rfl (fun W hW => jcw (.tmp 18) rfl b1 (o1 + j * 18) x (by simp [Act.eval, go_sem]) (jbg R1.out (hW.block b1 H1.out))) hS ?_
    refine tY 4 hS ?_
    refine tY 5 hS ?_
    simp only [Act.put, zT, zO, zS]
    refine tY 6 hS ?_
    refine tZ 7 (v := .agg (Rc.cells y)) rfl (fun W hW => jcw (.tmp 22) rfl b2 (o2 + j * 18) y (by simp [Act.eval, go_sem]) (jbg R2.out (hW.block b2 H2.out))) hS ?_
    refine tY 8 hS ?_
    simp only [Act.put, zT, zO, zS]
    refine wpAnyH_done (by kernel_rfl) ?_ _
    cases q with
    | true =>
     have HN : Hid (x ≠ y) := HQ.out.1 rfl
     go_wp2_with fail
     go_ret
     refine ⟨⟨false, rfl, ?_⟩, hS⟩
     simp only [Bool.false_eq_true, false_iff]
     intro e
     have e2 := EX.out
     rw [e, EY.out] at e2
     exact HN.out (Option.some.inj e2).symm
    | false =>
     have HE : Hid (x = y) := by
      show x = y
      classical
      exact Decidable.byContradiction fun h => by have := HQ.out.2 h; cases this
     go_wp2_with fail
     refine ⟨⟨j + 1, by omega, by go_num, fun k hk => ?_, hS⟩, by simp [intOf]; omega⟩
     rcases Nat.lt_or_ge k j with h | h
     ·exact HK.out k h
     ·rw [show k = j by omega, EX.out, EY.out, HE.out]
   ·obtain rfl : j = n := by omega
    go_wp2_with fail
    go_ret
    refine ⟨⟨true, rfl, ?_⟩, B.out⟩
    simp only [true_iff]
    exact jg4 (L1.out.symm.trans L2.out) fun k hk => HK.out k (by have := L1.out; omega)
theorem jha (A1 A2 : Option Addr) (n m c1 c2 : Nat) (a b : List Int) (w : World) (h1 : SlI w A1 n c1 a) (h2 : SlI w A2 m c2 b) (hn : n ≤ 1000000) (hm : m ≤ 1000000) : Calls Tryz.prog 83 #[.slice A1 n c1, .slice A2 m c2] w (jcs (a = b) w) := by
 have l1 := h1.len
 have l2 := h2.len
 by_cases hnm : n = m
 ·subst hnm
  by_cases h0 : n = 0
  ·subst h0
   refine (Tryz.slices_Equal_int_empty A1 A2 c1 0 c2 w (by omega)).mono fun e w' ⟨he, hw⟩ => ?_
   subst hw
   refine ⟨⟨_, he, ?_⟩, Below.refl _ _⟩
   have ha : a = [] := List.eq_nil_of_length_eq_zero (by omega)
   have hb : b = [] := List.eq_nil_of_length_eq_zero (by omega)
   simp [ha, hb]
  ·obtain ⟨b1, o1, rfl, _, e1⟩ := h1.rd (by omega)
   obtain ⟨b2, o2, rfl, _, e2⟩ := h2.rd (by omega)
   refine (Tryz.slices_Equal_int b1 o1 n c1 b2 o2 n c2 a b w (by omega) (by omega) (by omega) (by omega) e1 e2).mono fun e w' ⟨he, q, hw⟩ => ?_
   subst hw
   refine ⟨⟨_, he, ?_⟩, jbo (Below.refl _ _) q⟩
   rw [List.take_of_length_le (by omega), List.take_of_length_le (by omega), beq_iff_eq]
 ·refine (Tryz.slices_Equal_int_lens A1 A2 n c1 m c2 w hnm).mono fun e w' ⟨he, hw⟩ => ?_
  subst hw
  refine ⟨⟨_, he, ?_⟩, Below.refl _ _⟩
  simp
  rintro rfl
  omega
namespace Bk
theorem dig_text3 {vs : List Vn} {n : Int} {t : ByteArray} (h : dig vs n = some t) : text vs n = t := by
 unfold text
 rw [h]
 rfl
def dif (a b : List Vn) (n : Int) : Bool := !((text a n).toList == (text b n).toList)
theorem dif_iff {a b : List Vn} {n : Int} : dif a b n = true ↔ text a n ≠ text b n := by
 unfold dif
 simp only [Bool.not_eq_true', beq_eq_false_iff_ne, ne_eq]
 exact not_congr ⟨fun h => jdf.1 (beq_iff_eq.2 h), fun h => by rw [h]⟩
theorem vs_same {a b : List Vn} (ha : a.Pairwise fun x y => x.n < y.n) (hb : b.Pairwise fun x y => x.n < y.n) : a = b ↔ (a.map (·.n) = b.map (·.n) ∧ ∀ n ∈ a.map (·.n), text a n = text b n) := by
 constructor
 ·rintro rfl
  exact ⟨rfl, fun _ _ => rfl⟩
 ·rintro ⟨h1, h2⟩
  have hl : a.length = b.length := by have := congrArg List.length h1; simpa using this
  refine List.ext_getElem? fun k => ?_
  rcases Nat.lt_or_ge k a.length with hk | hk
  ·have hx : a[k]? = some a[k] := List.getElem?_eq_getElem hk
   have hy : b[k]? = some (b[k]'(by omega)) := List.getElem?_eq_getElem _
   have e := congrArg (·[k]?) h1
   simp only [List.getElem?_map, hx, hy, Option.map_some, Option.some.injEq] at e
   have h3 := h2 _ (List.mem_map_of_mem (f := (·.n)) (List.getElem_mem hk))
   have d1 := Bd.dig_mem ha (List.getElem_mem hk)
   have d2 := Bd.dig_mem hb (List.getElem_mem (show k < b.length by omega))
   rw [dig_text3 d1, e, dig_text3 d2] at h3
   rw [hx, hy]
   generalize a[k] = x at *
   generalize b[k] = y at *
   cases x; cases y
   simp only at e h3
   rw [e, h3]
  ·rw [List.getElem?_eq_none hk, List.getElem?_eq_none (by omega)]
end Bk
theorem jm0 (g1 g2 : Nat) (qa qb : Nat) (s t : Bk.St) (x : Int) (W : World) (h1 : W.heap[g1]? = some (.cells #[.pointer (some ⟨qa, 0, none⟩)] 26)) (h2 : W.heap[g2]? = some (.cells #[.pointer (some ⟨qb, 0, none⟩)] 26))
  (ca : ∀ X, Below W.heap.size W X → Calls Tryz.prog 23 #[.pointer (some ⟨qa, 0, none⟩), .int .i64 x] X (BRet (.tuple #[.string (Bk.text s.vs x), .bool (Bk.has s.vs x)]) X)) (cb : ∀ X, Below W.heap.size W X → Calls Tryz.prog 23 #[.pointer (some ⟨qb, 0, none⟩), .int .i64 x] X (BRet (.tuple #[.string (Bk.text t.vs x), .bool (Bk.has t.vs x)]) X)) :
  Calls Tryz.prog 82 #[.int .i64 x, .pointer (some ⟨g1, 0, none⟩), .pointer (some ⟨g2, 0, none⟩)] W (fun e w' => e = .returned (.bool (Bk.dif s.vs t.vs x)) ∧ Below W.heap.size W w') := by
 have CA := zh ca
 have CB := zh cb
 have P2 := zh h2
 have e1 : W.cell? ⟨g1, 0, none⟩ = some (.pointer (some ⟨qa, 0, none⟩)) := by rw [cell_of_row _ g1 0 _ _ _ h1]; rfl
 have l1 := (Array.getElem?_eq_some_iff.1 h1).1
 clear ca cb h1 h2
 generalize Bk.has s.vs x = ha at *
 generalize Bk.has t.vs x = hb at *
 unfold Bk.dif
 obtain ⟨ta, hta⟩ : ∃ ta, ta = Bk.text s.vs x := ⟨_, rfl⟩
 obtain ⟨tb, htb⟩ : ∃ tb, tb = Bk.text t.vs x := ⟨_, rfl⟩
 rw [← hta] at CA ⊢
 rw [← htb] at CB ⊢
 clear hta htb
 go_enter Tryz.func82, Tryz.ntmps82
 go_upto_region 2 with (go_at_call 23; (with_reducible refine (CA.out _ (Below.refl _ _)).mono ?_); rintro e w1 ⟨rfl, hb1⟩; have B1 := zh hb1; clear hb1)
 clear e1 l1
 have e2 : w1.cell? ⟨g2, 0, none⟩ = some (.pointer (some ⟨qb, 0, none⟩)) := by rw [cell_of_row _ g2 0 _ _ _ (jaf P2.out B1.out)]; rfl
 have l2 := (Array.getElem?_eq_some_iff.1 (jaf P2.out B1.out)).1
 go_upto_region 3 with (go_at_call 23; (with_reducible refine (CB.out _ B1.out).mono ?_); rintro e w2 ⟨rfl, hb2⟩; have B2 := zh (B1.out.trans (hb2.mono B1.out.size)); clear hb2)
 clear e2 l2
 go_wp2_with fail
 go_ret
 exact ⟨rfl, B2.out⟩
def FnI (g1 g2 : Nat) (p : Int → Bool) (w0 : World) (l : List Int) : Prop :=
 ∀ W x, x ∈ l → Below w0.heap.size w0 W → Calls Tryz.prog 82 #[.int .i64 x, .pointer (some ⟨g1, 0, none⟩), .pointer (some ⟨g2, 0, none⟩)] W (fun e w' => e = .returned (.bool (p x)) ∧ Below W.heap.size W w')
theorem jj1 (g1 g2 : Nat) (p : Int → Bool) (l : List Int) (n c : Nat) (A : Option Addr) (w : World) (h : SlI w A n c l) (hp : FnI g1 g2 p w l) :
  Calls Tryz.prog 131 #[.slice A n c, .func (.func 82) #[] #[.pointer (some ⟨g1, 0, none⟩), .pointer (some ⟨g2, 0, none⟩)]] w (fun e w' => ∃ i : Int, e = .returned (.int .i64 i) ∧ (0 ≤ i ↔ l.any p = true) ∧ Below w.heap.size w w') := by
 have HN := zh h.len
 have hmx := h.max
 have hcp := h.cap
 unfold maxLen at hmx
 have HA := zh h
 have HP := zh hp
 clear h hp
 go_enter Tryz.func131, Tryz.ntmps131
 go_wp2_with fail
 go_loopw [5, 8] (fun _ i wr => ∃ j : Nat, j ≤ n ∧ i = .int .i64 j ∧ (∀ x ∈ l.take j, p x = false) ∧ Below w.heap.size w wr) (fun _ i _ => n - (intOf i).toNat)
 case atStart => exact ⟨0, by omega, rfl, by simp, Below.refl _ _⟩
 case round =>
  obtain ⟨j, hj, rfl, hok, hbr⟩ := hrel
  have OK := zh hok
  have B := zh hbr
  clear hok hbr
  by_cases hlt : j < n
  ·have hjl : j < l.length := by have := HN.out; omega
   obtain ⟨b1, o1, rfl, _, _⟩ := HA.out.rd (by omega)
   obtain ⟨b', o', e', hbb, hcc⟩ := (HA.out.on B.out).rd (by omega)
   injection e' with e'; injection e' with x1 x2; subst x1 x2
   have f1 := hcc j hjl
   have EA : Hid (l[j]? = some (l.getD j 0)) := by
    show _ = _
    rw [List.getD_eq_getElem?_getD, List.getElem?_eq_getElem hjl]; rfl
   generalize l.getD j 0 = x at *
   have HM : Hid (x ∈ l) := List.mem_of_getElem? EA.out
   have CC := zh (HP.out _ x HM.out B.out)
   have i1 : (0 : Int) ≤ (j : Int) := by omega
   have i2 : (j : Int) < (n : Int) := by omega
   clear hcc
   cases hq : p x with
   | true =>
    rw [hq] at CC
    have HQ := zh hq
    clear hq
    go_wp2_with (go_at_call 82; (with_reducible refine CC.out.mono ?_); rintro e w1 ⟨rfl, hb1⟩; have B1 := zh (B.out.trans (hb1.mono B.out.size)); clear hb1)
    go_ret
    refine ⟨_, rfl, ?_, B1.out⟩
    rw [List.any_eq_true]
    exact ⟨fun _ => ⟨x, HM.out, HQ.out⟩, fun _ => by omega⟩
   | false =>
    rw [hq] at CC
    have HQ := zh hq
    clear hq
    go_wp2_with (go_at_call 82; (with_reducible refine CC.out.mono ?_); rintro e w1 ⟨rfl, hb1⟩; have B1 := zh (B.out.trans (hb1.mono B.out.size)); clear hb1)
    refine ⟨⟨j + 1, by omega, by go_num, fun o ho => ?_, B1.out⟩, by simp [intOf]; omega⟩
    rw [List.take_add_one, EA.out] at ho
    rcases List.mem_append.1 ho with ho | ho
    ·exact OK.out o ho
    ·simp at ho; subst ho; exact HQ.out
  ·have E : Hid (l.take j = l) := List.take_of_length_le (by have := HN.out; omega)
   rw [E.out] at OK
   go_wp2_with fail
   go_ret
   refine ⟨_, rfl, ?_, B.out⟩
   rw [List.any_eq_true]
   refine ⟨fun h => by omega, fun ⟨o, ho, hp⟩ => ?_⟩
   rw [OK.out o ho] at hp
   cases hp
theorem jm1 (g1 g2 : Nat) (p : Int → Bool) (l : List Int) (n c : Nat) (A : Option Addr) (w : World) (h : SlI w A n c l) (hp : FnI g1 g2 p w l) :
  Calls Tryz.prog 84 #[.slice A n c, .func (.func 82) #[] #[.pointer (some ⟨g1, 0, none⟩), .pointer (some ⟨g2, 0, none⟩)]] w (fun e w' => e = .returned (.bool (l.any p)) ∧ Below w.heap.size w w') := by
 have C := zh (jj1 g1 g2 p l n c A w h hp)
 clear h hp
 generalize l.any p = b at C ⊢
 go_enter Tryz.func84, Tryz.ntmps84
 go_wp2_with (go_at_call 131; (with_reducible refine C.out.mono ?_); rintro e w1 ⟨i, rfl, hi, hb1⟩; have B1 := zh hb1; have HI := zh hi; clear hb1 hi)
 go_ret
 refine ⟨?_, B1.out⟩
 cases b with
 | true =>
  have : 0 ≤ i := HI.out.2 rfl
  simp [this]
 | false =>
  have : ¬ 0 ≤ i := fun h => by have := HI.out.1 h; cases this
  simp [this]
theorem jm2 {w0 w1 W : World} {F G : Nat → Prop} {qa qb : Nat} {s t : Bk.St} (ha : BP w0 F qa s W) (hb : BP w1 G qb t W) (ht : BT W) : Calls Tryz.prog 46 #[.pointer (some ⟨qa, 0, none⟩), .pointer (some ⟨qb, 0, none⟩)] W (jcs (s.vs = t.vs) W) := by
 have OKA := zh (joa ha)
 have OKB := zh (joa hb)
 have HVS := zh (Bk.vs_same OKA.out.rise OKB.out.rise)
 have x1 : Below W.heap.size W (W.alloc (.cells #[.pointer (some ⟨qa, 0, none⟩)] 26)) := (Below.refl _ _).alloc (Nat.le_refl _) _
 have p1 := heap_alloc_new W (.cells #[.pointer (some ⟨qa, 0, none⟩)] 26)
 obtain ⟨g1, hg1⟩ : ∃ g, g = W.heap.size := ⟨_, rfl⟩
 have hs1 : (W.alloc (.cells #[.pointer (some ⟨qa, 0, none⟩)] 26)).heap.size = g1 + 1 := by simp [hg1]
 obtain ⟨W1, hW1⟩ : ∃ W1, W1 = W.alloc (.cells #[.pointer (some ⟨qa, 0, none⟩)] 26) := ⟨_, rfl⟩
 rw [← hW1] at x1 p1 hs1
 rw [← hg1] at p1
 have x2 : Below W1.heap.size W1 (W1.alloc (.cells #[.pointer (some ⟨qb, 0, none⟩)] 26)) := (Below.refl _ _).alloc (Nat.le_refl _) _
 have p2 := heap_alloc_new W1 (.cells #[.pointer (some ⟨qb, 0, none⟩)] 26)
 have p1b := jaf p1 x2
 rw [hs1] at p2
 have B2 := zh (x1.trans (x2.mono x1.size))
 obtain ⟨W2, hW2⟩ : ∃ W2, W2 = W1.alloc (.cells #[.pointer (some ⟨qb, 0, none⟩)] 26) := ⟨_, rfl⟩
 rw [← hW2] at B2 p1b p2
 have P1 := zh p1b
 have P2 := zh p2
 have EW : Hid ((W.alloc (.cells #[.pointer (some ⟨qa, 0, none⟩)] 26)).alloc (.cells #[.pointer (some ⟨qb, 0, none⟩)] 26) = W2) := by show _ = _; rw [hW2, hW1]
 have DA := zh (jbj ha B2.out)
 have DB := zh (jbj hb B2.out)
 have TT := zh (ht.on B2.out)
 have EG := zh hg1
 clear ha hb ht x1 x2 p1 p1b p2 hs1 hW1 hW2 hg1
 have e1 : W2.cell? ⟨g1, 0, none⟩ = some (.pointer (some ⟨qa, 0, none⟩)) := by rw [cell_of_row _ g1 0 _ _ _ P1.out]; rfl
 have l1 := (Array.getElem?_eq_some_iff.1 P1.out).1
 go_enter Tryz.func46, Tryz.ntmps46
 go_upto_region 1 with fail
 rw [EW.out, ← EG.out]
 clear EW EG
 have LA : Hid ((s.vs.map (·.n)).length = s.vs.length) := List.length_map _
 have LB : Hid ((t.vs.map (·.n)).length = t.vs.length) := List.length_map _
 have la : s.vs.length ≤ 64 := OKA.out.vl
 have lb : t.vs.length ≤ 64 := OKB.out.vl
 go_upto_region 3 with (go_at_call 24; (with_reducible refine (jf3 DA.out).mono ?_); rintro e w3 ⟨A5, c5, rfl, h1, h2, h3⟩; rw [LA.out] at h1 ⊢; have VA := zh (jg7 h1); have B3 := zh h2; have DB3 := zh (jbj DB.out h2); clear h1 h2 h3)
 clear e1 l1
 have e2 : w3.cell? ⟨g1 + 1, 0, none⟩ = some (.pointer (some ⟨qb, 0, none⟩)) := by rw [cell_of_row _ (g1 + 1) 0 _ _ _ (jaf P2.out B3.out)]; rfl
 have l2 := (Array.getElem?_eq_some_iff.1 (jaf P2.out B3.out)).1
 have HVS2 := zh (show (∀ n ∈ s.vs.map (·.n), Bk.text s.vs n = Bk.text t.vs n) ↔ (s.vs.map (·.n)).any (Bk.dif s.vs t.vs) = false from by
  rw [Bool.eq_false_iff, ne_eq, List.any_eq_true]
  constructor
  ·rintro h ⟨n, hn, hd⟩
   exact Bk.dif_iff.1 hd (h n hn)
  ·intro h n hn
   exact Decidable.byContradiction fun hne => h ⟨n, hn, Bk.dif_iff.2 hne⟩)
 have BN : Hid (∀ n ∈ s.vs.map (·.n), jk2 n) := fun n hn => by
  obtain ⟨v, hv, rfl⟩ := List.mem_map.1 hn
  exact ⟨by have := OKA.out.vs v hv; omega, by have := OKA.out.vs v hv; omega⟩
 by_cases hv : s.vs.map (·.n) = t.vs.map (·.n)
 ·have HV := zh hv
  clear hv
  have FI : Hid (∀ X, Below W2.heap.size W2 X → FnI g1 (g1 + 1) (Bk.dif s.vs t.vs) X (s.vs.map (·.n))) := fun X hX Y n hn hY => by
   have hb := hX.trans (hY.mono hX.size)
   exact jm0 g1 (g1 + 1) qa qb s t n Y (jaf P1.out hb) (jaf P2.out hb) (fun Z hZ => jey (jbj DA.out (hb.trans (hZ.mono hb.size))) (TT.out.on (hb.trans (hZ.mono hb.size))) n (BN.out n hn)) (fun Z hZ => jey (jbj DB.out (hb.trans (hZ.mono hb.size))) (TT.out.on (hb.trans (hZ.mono hb.size))) n (BN.out n hn))
  have AN : Hid ((s.vs.map (·.n)).any (Bk.dif s.vs t.vs) = false ↔ s.vs = t.vs) := by
   show _ ↔ _
   rw [← HVS2.out]
   exact ⟨fun h => HVS.out.2 ⟨HV.out, h⟩, fun h => (HVS.out.1 h).2⟩
  go_wp2_with (first
   | (go_at_call 24; (with_reducible refine (jf3 DB3.out).mono ?_); rintro e w4 ⟨A6, c6, rfl, h1, h2, h3⟩; rw [LB.out] at h1 ⊢; have VB := zh (jg7 h1); have VA4 := zh (VA.out.on h2); have B4 := zh (B3.out.trans (h2.mono B3.out.size)); clear h1 h2 h3 e2 l2)
   | (go_at_call 83; (with_reducible refine (jha A5 A6 _ _ c5 c6 _ _ _ VA4.out VB.out (by omega) (by omega)).mono ?_); rintro e w5 ⟨⟨z, rfl, hz⟩, hb⟩; obtain rfl : z = true := hz.2 HV.out; have VA5 := zh (VA4.out.on hb); have B5 := zh (B4.out.trans (hb.mono B4.out.size)); clear hz hb)
   | (go_at_call 84; (with_reducible refine (jm1 g1 (g1 + 1) _ _ _ c5 A5 _ VA5.out (FI.out _ B5.out)).mono ?_); rintro e w6 ⟨rfl, hb⟩; have B6 := zh (B2.out.trans ((B5.out.trans (hb.mono B5.out.size)).mono B2.out.size)); clear hb))
  go_ret
  refine ⟨⟨_, rfl, ?_⟩, B6.out⟩
  rw [← AN.out]
  simp
 ·have HV := zh hv
  clear hv
  go_wp2_with (first
   | (go_at_call 24; (with_reducible refine (jf3 DB3.out).mono ?_); rintro e w4 ⟨A6, c6, rfl, h1, h2, h3⟩; rw [LB.out] at h1 ⊢; have VB := zh (jg7 h1); have VA4 := zh (VA.out.on h2); have B4 := zh (B3.out.trans (h2.mono B3.out.size)); clear h1 h2 h3 e2 l2)
   | (go_at_call 83; (with_reducible refine (jha A5 A6 _ _ c5 c6 _ _ _ VA4.out VB.out (by omega) (by omega)).mono ?_); rintro e w5 ⟨⟨z, rfl, hz⟩, hb⟩; obtain rfl : z = false := Bool.eq_false_iff.2 (fun h => HV.out (hz.1 h)); have B5 := zh (B2.out.trans ((B4.out.trans (hb.mono B4.out.size)).mono B2.out.size)); clear hz hb))
  go_ret
  exact ⟨⟨_, rfl, by simp only [Bool.false_eq_true, false_iff]; exact fun h => HV.out (HVS.out.1 h).1⟩, B5.out⟩
theorem je1 (q : Nat) (W : World) : Calls Tryz.prog 44 #[.pointer (some ⟨q, 0, none⟩)] W (BRet (.pointer (some ⟨q, 0, none⟩)) W) := by
 go_enter Tryz.func44, Tryz.ntmps44
 go_wp2_with fail
 go_ret
 exact ⟨rfl, Below.refl _ _⟩
end Go.Proofs.YtnacjhnfkkddcaaGreatDoor
