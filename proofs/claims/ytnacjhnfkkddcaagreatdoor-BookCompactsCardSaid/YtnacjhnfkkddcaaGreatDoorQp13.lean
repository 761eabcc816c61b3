import Derived.Test.YtnacjhnfkkddcaaGreatDoorQp12
set_option maxHeartbeats 6400000
set_option maxRecDepth 100000
set_option linter.unusedSimpArgs false
set_option linter.unusedVariables false
namespace Go.Proofs.YtnacjhnfkkddcaaGreatDoor
open Go.RowKit
theorem jhr (s : Bk.St) (ok : Bk.Ok s) (r : Rc.R) (hin : Rc.In r) (L V H : Value) (w : World) (h : BkRd w s L V H) (hc : Bk.chk s r = 0) (hk : r.kind = 7) : Calls Tryz.prog 33 #[.agg (Bk.cells s L V H), .agg (Rc.cells r)] w (jb0 L V H w (Bk.app s r) (.int .i64 (Bk.chk s r))) := by
 have CC : Hid (∀ W, BkRd W s L V H → Calls Tryz.prog 55 #[.agg (Bk.cells s L V H), .agg (Rc.cells r)] W (jbb W (.int .i64 (Bk.chk s r)))) := fun W h => jbk s ok r hin L V H W h
 have hz := ja9
 rw [Bk.app_ok hc, hc, Bk.act7 hk]
 have HK := zh hk
 have hr := Bk.chk_right hc
 rw [hc] at CC
 have CN : Hid (∀ W, BkRd W s L V H → Calls Tryz.prog 58 #[.agg (Bk.cells s L V H), .agg (Rc.cells r)] W (jek L V H W (Bk.note s r))) := fun W h => jcv s ok.hl r L V H W h
 clear ok hr hk hc
 obtain ⟨W, hW⟩ : ∃ W, W = ((w.alloc (.cells (Bk.cells s L V H) 40)).alloc (.cells (Rc.cells r) 53)).alloc (.cells Bk.zeros 40) := ⟨_, rfl⟩
 obtain ⟨r1, r2, r3, hb, hs⟩ := jal hW
 have BX := zh (BkRc.mk ⟨r1⟩ ⟨r2⟩ (h.on hb) hb (Nat.le_refl _))
 go_enter Tryz.func33, Tryz.ntmps33
 go_upto_region 1 with fail
 rw [← hW]
 clear hW hz
 obtain ⟨n, hn⟩ : ∃ n, n = w.heap.size := ⟨_, rfl⟩
 rw [← hn] at BX r3 ⊢
 have X3 : Hid (BkAt W (n + 1 + 1) Bk.none_ (.slice none 0 0) (.slice none 0 0) (.slice none 0 0)) := ⟨r3⟩
 have NB := zh (Nat.le_of_eq hn.symm)
 clear r1 r2 r3 hs hb h hin hn
 have c0 := BX.out.rc.cs.c0; have c2 := BX.out.rc.cs.c2; have c3 := BX.out.rc.cs.c3; rw [HK.out] at c0; have bf := BX.out.bk.fz; have k1 := BX.out.rc.cs.lt; have k0 := BX.out.bk.lt
 go_upto_region 33 with (first
  | ((with_reducible show zL 9); refine jaa rfl (.tmp 2) rfl rfl BX.out.bk ?_)
  | ((with_reducible show zL 10); refine zR (.tmp 3) BX.out.rc ?_)
  | ((with_reducible show zL 106); refine jaa rfl (.tmp 2) rfl rfl BX.out.bk ?_)
  | ((with_reducible show zL 107); refine zR (.tmp 3) BX.out.rc ?_)
  | (go_at_call 55; (with_reducible refine (CC.out _ BX.out.rd).mono ?_); rintro e wc ⟨rfl, hb⟩; have BX := zh (BX.out.on hb); have X3 := zh (X3.out.on hb); clear hb c0 c2 c3 bf k0 k1; have c0 := BX.out.rc.cs.c0; have c2 := BX.out.rc.cs.c2; have c3 := BX.out.rc.cs.c3; rw [HK.out] at c0; have bf := BX.out.bk.fz; have k1 := BX.out.rc.cs.lt; have k0 := BX.out.bk.lt)
  | (go_at_call 58; (with_reducible refine (CN.out _ BX.out.rd).mono ?_); rintro e wn ⟨L2, V2, H2, rfl, hrd, hb, hnew⟩; have NW := zh (jgd hnew BX.out.below.size); clear hnew; have RDN := zh hrd; clear hrd; have BX := zh (BX.out.on hb); have X3 := zh (X3.out.on hb); clear hb c0 c2 c3 bf k0 k1; have c0 := BX.out.rc.cs.c0; have c2 := BX.out.rc.cs.c2; have c3 := BX.out.rc.cs.c3; rw [HK.out] at c0; have bf := BX.out.bk.fz; have k1 := BX.out.rc.cs.lt; have k0 := BX.out.bk.lt)
  | ((with_reducible show zW); refine jab rfl (.tmp 2) (.tmp 108) rfl rfl rfl BX.out.bk RDN.out.one ?_))
 have hO0 : Only n wn (wn.setRow n (Bk.cells (Bk.note s r) L2 V2 H2)) := (Only.refl n wn).row _
 have hN : BkAt (wn.setRow n (Bk.cells (Bk.note s r) L2 V2 H2)) n (Bk.note s r) L2 V2 H2 := BX.out.bk.setRow _ _ _ _
 have hR : RcAt (wn.setRow n (Bk.cells (Bk.note s r) L2 V2 H2)) (n + 1) r := hO0.rc BX.out.rc (by omega)
 have hD : BkRd (wn.setRow n (Bk.cells (Bk.note s r) L2 V2 H2)) (Bk.note s r) L2 V2 H2 := hO0.rd RDN.out BX.out.bk BX.out.rd.flat
 have h3 : BkAt (wn.setRow n (Bk.cells (Bk.note s r) L2 V2 H2)) (n + 1 + 1) Bk.none_ (.slice none 0 0) (.slice none 0 0) (.slice none 0 0) := hO0.bk X3.out (by omega)
 have hQ : Below w.heap.size w (wn.setRow n (Bk.cells (Bk.note s r) L2 V2 H2)) := hO0.below BX.out.below NB.out
 generalize (wn.setRow n (Bk.cells (Bk.note s r) L2 V2 H2)) = wq at *
 have BN := zh hN
 have RCN := zh hR
 have RDN := zh hD
 have X3 := zh h3
 have BQ := zh hQ
 clear hO0 hN hR hD h3 hQ c0 c2 c3 bf k0 k1 BX
 have b9 := BN.out.cs.c9
 have b10 := BN.out.cs.c10
 have c0 := RCN.out.cs.c0
 have c2 := RCN.out.cs.c2
 have c3 := RCN.out.cs.c3
 rw [HK.out] at c0
 have bf := BN.out.fz
 have k0 := BN.out.lt
 have k1 := RCN.out.cs.lt
 go_upto_region 35 with fail
 have hX : BkAt (((wq.setCell ⟨n, 9, none⟩ (.int .i64 r.who)).setCell ⟨n, 10, none⟩ (.int .i64 r.n))) n ({ s with h := Bk.last24 (s.h ++ [r]), step := r.who, since := r.n }) L2 V2 H2 := (BN.out.step r.who).since r.n
 have hO : Only n wq (((wq.setCell ⟨n, 9, none⟩ (.int .i64 r.who)).setCell ⟨n, 10, none⟩ (.int .i64 r.n))) := ((Only.refl n wq).set _ _).set _ _
 generalize (((wq.setCell ⟨n, 9, none⟩ (.int .i64 r.who)).setCell ⟨n, 10, none⟩ (.int .i64 r.n))) = wf at hX hO ⊢
 have hX3 : BkAt wf (n + 1 + 1) Bk.none_ (.slice none 0 0) (.slice none 0 0) (.slice none 0 0) := hO.bk X3.out (by omega)
 have hRD : BkRd wf ({ s with h := Bk.last24 (s.h ++ [r]), step := r.who, since := r.n }) L2 V2 H2 := (hO.rd RDN.out BN.out RDN.out.flat).re rfl rfl rfl
 have hBB : Below w.heap.size w wf := hO.below BQ.out NB.out
 have XF := zh hX
 have XF3 := zh hX3
 have RDF := zh hRD
 have BF := zh hBB
 clear hX hX3 hRD hBB hO
 go_wp2_with (first
  | ((with_reducible show zL 115); refine jaa rfl (.tmp 2) rfl rfl XF.out ?_)
  | ((with_reducible show zW); refine jab rfl (.tmp 4) (.tmp 115) rfl rfl rfl XF3.out RDF.out.one ?_))
 exact bodyPost_ret (jaz Tryz.results33 _ rfl (XF3.out.setRow _ _ _ _)) rfl ⟨L2, V2, H2, rfl, RDF.out.setRow XF3.out jbc _, below_setRow BF.out (by have := NB.out; omega) _, NW.out⟩
theorem jge (s : Bk.St) (ok : Bk.Ok s) (r : Rc.R) (hin : Rc.In r) (L V H : Value) (w : World) (h : BkRd w s L V H) (hc : Bk.chk s r = 0) (hk : r.kind = 4) (h3 : r.n = 3) : Calls Tryz.prog 33 #[.agg (Bk.cells s L V H), .agg (Rc.cells r)] w (jb0 L V H w (Bk.app s r) (.int .i64 (Bk.chk s r))) := by
 have CC : Hid (∀ W, BkRd W s L V H → Calls Tryz.prog 55 #[.agg (Bk.cells s L V H), .agg (Rc.cells r)] W (jbb W (.int .i64 (Bk.chk s r)))) := fun W h => jbk s ok r hin L V H W h
 have hz := ja9
 rw [Bk.app_ok hc, hc, Bk.act4 hk]
 have HK := zh hk
 have hr := Bk.chk_right hc
 rw [hc] at CC
 have CN : Hid (∀ W, BkRd W s L V H → Calls Tryz.prog 58 #[.agg (Bk.cells s L V H), .agg (Rc.cells r)] W (jek L V H W (Bk.note s r))) := fun W h => jcv s ok.hl r L V H W h
 rw [if_pos h3]
 have q3 : (r.n == 3) = true := by rw [beq_iff_eq]; exact h3
 clear h3
 clear ok hr hk hc
 obtain ⟨W, hW⟩ : ∃ W, W = ((w.alloc (.cells (Bk.cells s L V H) 40)).alloc (.cells (Rc.cells r) 53)).alloc (.cells Bk.zeros 40) := ⟨_, rfl⟩
 obtain ⟨r1, r2, r3, hb, hs⟩ := jal hW
 have BX := zh (BkRc.mk ⟨r1⟩ ⟨r2⟩ (h.on hb) hb (Nat.le_refl _))
 go_enter Tryz.func33, Tryz.ntmps33
 go_upto_region 1 with fail
 rw [← hW]
 clear hW hz
 obtain ⟨n, hn⟩ : ∃ n, n = w.heap.size := ⟨_, rfl⟩
 rw [← hn] at BX r3 ⊢
 have X3 : Hid (BkAt W (n + 1 + 1) Bk.none_ (.slice none 0 0) (.slice none 0 0) (.slice none 0 0)) := ⟨r3⟩
 have NB := zh (Nat.le_of_eq hn.symm)
 clear r1 r2 r3 hs hb h hin hn
 have c0 := BX.out.rc.cs.c0; have c3 := BX.out.rc.cs.c3; rw [HK.out] at c0; have bf := BX.out.bk.fz; have k1 := BX.out.rc.cs.lt; have k0 := BX.out.bk.lt
 go_upto_region 23 with (first
  | ((with_reducible show zL 9); refine jaa rfl (.tmp 2) rfl rfl BX.out.bk ?_)
  | ((with_reducible show zL 10); refine zR (.tmp 3) BX.out.rc ?_)
  | ((with_reducible show zL 70); refine jaa rfl (.tmp 2) rfl rfl BX.out.bk ?_)
  | ((with_reducible show zL 71); refine zR (.tmp 3) BX.out.rc ?_)
  | (go_at_call 55; (with_reducible refine (CC.out _ BX.out.rd).mono ?_); rintro e wc ⟨rfl, hb⟩; have BX := zh (BX.out.on hb); have X3 := zh (X3.out.on hb); clear hb c0 c3 bf k0 k1; have c0 := BX.out.rc.cs.c0; have c3 := BX.out.rc.cs.c3; rw [HK.out] at c0; have bf := BX.out.bk.fz; have k1 := BX.out.rc.cs.lt; have k0 := BX.out.bk.lt)
  | (go_at_call 58; (with_reducible refine (CN.out _ BX.out.rd).mono ?_); rintro e wn ⟨L2, V2, H2, rfl, hrd, hb, hnew⟩; have NW := zh (jgd hnew BX.out.below.size); clear hnew; have RDN := zh hrd; clear hrd; have BX := zh (BX.out.on hb); have X3 := zh (X3.out.on hb); clear hb c0 c3 bf k0 k1; have c0 := BX.out.rc.cs.c0; have c3 := BX.out.rc.cs.c3; rw [HK.out] at c0; have bf := BX.out.bk.fz; have k1 := BX.out.rc.cs.lt; have k0 := BX.out.bk.lt)
  | ((with_reducible show zW); refine jab rfl (.tmp 2) (.tmp 72) rfl rfl rfl BX.out.bk RDN.out.one ?_))
 have hO0 : Only n wn (wn.setRow n (Bk.cells (Bk.note s r) L2 V2 H2)) := (Only.refl n wn).row _
 have hN : BkAt (wn.setRow n (Bk.cells (Bk.note s r) L2 V2 H2)) n (Bk.note s r) L2 V2 H2 := BX.out.bk.setRow _ _ _ _
 have hR : RcAt (wn.setRow n (Bk.cells (Bk.note s r) L2 V2 H2)) (n + 1) r := hO0.rc BX.out.rc (by omega)
 have hD : BkRd (wn.setRow n (Bk.cells (Bk.note s r) L2 V2 H2)) (Bk.note s r) L2 V2 H2 := hO0.rd RDN.out BX.out.bk BX.out.rd.flat
 have h3 : BkAt (wn.setRow n (Bk.cells (Bk.note s r) L2 V2 H2)) (n + 1 + 1) Bk.none_ (.slice none 0 0) (.slice none 0 0) (.slice none 0 0) := hO0.bk X3.out (by omega)
 have hQ : Below w.heap.size w (wn.setRow n (Bk.cells (Bk.note s r) L2 V2 H2)) := hO0.below BX.out.below NB.out
 generalize (wn.setRow n (Bk.cells (Bk.note s r) L2 V2 H2)) = wq at *
 have BN := zh hN
 have RCN := zh hR
 have RDN := zh hD
 have X3 := zh h3
 have BQ := zh hQ
 clear hO0 hN hR hD h3 hQ c0 c3 bf k0 k1 BX
 have b6 : wq.cell? ⟨n, 6, none⟩ = some (.int .i64 s.stable) := BN.out.cs.c6
 have b8 := BN.out.cs.c8
 have b13 : wq.cell? ⟨n, 13, none⟩ = some (.int .i64 s.sp.v) := BN.out.cs.c13
 have c0 := RCN.out.cs.c0
 have c3 := RCN.out.cs.c3
 rw [HK.out] at c0
 have bf := BN.out.fz
 have k0 := BN.out.lt
 have k1 := RCN.out.cs.lt
 go_upto_region 35 with fail
 have hX : BkAt (((wq.setCell ⟨n, 8, none⟩ (.int .i64 r.n)).setCell ⟨n, 6, none⟩ (.int .i64 s.sp.v))) n ({ s with h := Bk.last24 (s.h ++ [r]), ph := r.n, stable := s.sp.v }) L2 V2 H2 := (BN.out.ph r.n).stable s.sp.v
 have hO : Only n wq (((wq.setCell ⟨n, 8, none⟩ (.int .i64 r.n)).setCell ⟨n, 6, none⟩ (.int .i64 s.sp.v))) := ((Only.refl n wq).set _ _).set _ _
 generalize (((wq.setCell ⟨n, 8, none⟩ (.int .i64 r.n)).setCell ⟨n, 6, none⟩ (.int .i64 s.sp.v))) = wf at hX hO ⊢
 have hX3 : BkAt wf (n + 1 + 1) Bk.none_ (.slice none 0 0) (.slice none 0 0) (.slice none 0 0) := hO.bk X3.out (by omega)
 have hRD : BkRd wf ({ s with h := Bk.last24 (s.h ++ [r]), ph := r.n, stable := s.sp.v }) L2 V2 H2 := (hO.rd RDN.out BN.out RDN.out.flat).re rfl rfl rfl
 have hBB : Below w.heap.size w wf := hO.below BQ.out NB.out
 have XF := zh hX
 have XF3 := zh hX3
 have RDF := zh hRD
 have BF := zh hBB
 clear hX hX3 hRD hBB hO
 go_wp2_with (first
  | ((with_reducible show zL 115); refine jaa rfl (.tmp 2) rfl rfl XF.out ?_)
  | ((with_reducible show zW); refine jab rfl (.tmp 4) (.tmp 115) rfl rfl rfl XF3.out RDF.out.one ?_))
 exact bodyPost_ret (jaz Tryz.results33 _ rfl (XF3.out.setRow _ _ _ _)) rfl ⟨L2, V2, H2, rfl, RDF.out.setRow XF3.out jbc _, below_setRow BF.out (by have := NB.out; omega) _, NW.out⟩
theorem jgf (s : Bk.St) (ok : Bk.Ok s) (r : Rc.R) (hin : Rc.In r) (L V H : Value) (w : World) (h : BkRd w s L V H) (hc : Bk.chk s r = 0) (hk : r.kind = 4) (h3 : ¬ r.n = 3) : Calls Tryz.prog 33 #[.agg (Bk.cells s L V H), .agg (Rc.cells r)] w (jb0 L V H w (Bk.app s r) (.int .i64 (Bk.chk s r))) := by
 have CC : Hid (∀ W, BkRd W s L V H → Calls Tryz.prog 55 #[.agg (Bk.cells s L V H), .agg (Rc.cells r)] W (jbb W (.int .i64 (Bk.chk s r)))) := fun W h => jbk s ok r hin L V H W h
 have hz := ja9
 rw [Bk.app_ok hc, hc, Bk.act4 hk]
 have HK := zh hk
 have hr := Bk.chk_right hc
 rw [hc] at CC
 have CN : Hid (∀ W, BkRd W s L V H → Calls Tryz.prog 58 #[.agg (Bk.cells s L V H), .agg (Rc.cells r)] W (jek L V H W (Bk.note s r))) := fun W h => jcv s ok.hl r L V H W h
 rw [if_neg h3]
 have q3 : (r.n == 3) = false := by rw [beq_eq_false_iff_ne]; exact h3
 clear h3
 clear ok hr hk hc
 obtain ⟨W, hW⟩ : ∃ W, W = ((w.alloc (.cells (Bk.cells s L V H) 40)).alloc (.cells (Rc.cells r) 53)).alloc (.cells Bk.zeros 40) := ⟨_, rfl⟩
 obtain ⟨r1, r2, r3, hb, hs⟩ := jal hW
 have BX := zh (BkRc.mk ⟨r1⟩ ⟨r2⟩ (h.on hb) hb (Nat.le_refl _))
 go_enter Tryz.func33, Tryz.ntmps33
 go_upto_region 1 with fail
 rw [← hW]
 clear hW hz
 obtain ⟨n, hn⟩ : ∃ n, n = w.heap.size := ⟨_, rfl⟩
 rw [← hn] at BX r3 ⊢
 have X3 : Hid (BkAt W (n + 1 + 1) Bk.none_ (.slice none 0 0) (.slice none 0 0) (.slice none 0 0)) := ⟨r3⟩
 have NB := zh (Nat.le_of_eq hn.symm)
 clear r1 r2 r3 hs hb h hin hn
 have c0 := BX.out.rc.cs.c0; have c3 := BX.out.rc.cs.c3; rw [HK.out] at c0; have bf := BX.out.bk.fz; have k1 := BX.out.rc.cs.lt; have k0 := BX.out.bk.lt
 go_upto_region 23 with (first
  | ((with_reducible show zL 9); refine jaa rfl (.tmp 2) rfl rfl BX.out.bk ?_)
  | ((with_reducible show zL 10); refine zR (.tmp 3) BX.out.rc ?_)
  | ((with_reducible show zL 70); refine jaa rfl (.tmp 2) rfl rfl BX.out.bk ?_)
  | ((with_reducible show zL 71); refine zR (.tmp 3) BX.out.rc ?_)
  | (go_at_call 55; (with_reducible refine (CC.out _ BX.out.rd).mono ?_); rintro e wc ⟨rfl, hb⟩; have BX := zh (BX.out.on hb); have X3 := zh (X3.out.on hb); clear hb c0 c3 bf k0 k1; have c0 := BX.out.rc.cs.c0; have c3 := BX.out.rc.cs.c3; rw [HK.out] at c0; have bf := BX.out.bk.fz; have k1 := BX.out.rc.cs.lt; have k0 := BX.out.bk.lt)
  | (go_at_call 58; (with_reducible refine (CN.out _ BX.out.rd).mono ?_); rintro e wn ⟨L2, V2, H2, rfl, hrd, hb, hnew⟩; have NW := zh (jgd hnew BX.out.below.size); clear hnew; have RDN := zh hrd; clear hrd; have BX := zh (BX.out.on hb); have X3 := zh (X3.out.on hb); clear hb c0 c3 bf k0 k1; have c0 := BX.out.rc.cs.c0; have c3 := BX.out.rc.cs.c3; rw [HK.out] at c0; have bf := BX.out.bk.fz; have k1 := BX.out.rc.cs.lt; have k0 := BX.out.bk.lt)
  | ((with_reducible show zW); refine jab rfl (.tmp 2) (.tmp 72) rfl rfl rfl BX.out.bk RDN.out.one ?_))
 have hO0 : Only n wn (wn.setRow n (Bk.cells (Bk.note s r) L2 V2 H2)) := (Only.refl n wn).row _
 have hN : BkAt (wn.setRow n (Bk.cells (Bk.note s r) L2 V2 H2)) n (Bk.note s r) L2 V2 H2 := BX.out.bk.setRow _ _ _ _
 have hR : RcAt (wn.setRow n (Bk.cells (Bk.note s r) L2 V2 H2)) (n + 1) r := hO0.rc BX.out.rc (by omega)
 have hD : BkRd (wn.setRow n (Bk.cells (Bk.note s r) L2 V2 H2)) (Bk.note s r) L2 V2 H2 := hO0.rd RDN.out BX.out.bk BX.out.rd.flat
 have h3 : BkAt (wn.setRow n (Bk.cells (Bk.note s r) L2 V2 H2)) (n + 1 + 1) Bk.none_ (.slice none 0 0) (.slice none 0 0) (.slice none 0 0) := hO0.bk X3.out (by omega)
 have hQ : Below w.heap.size w (wn.setRow n (Bk.cells (Bk.note s r) L2 V2 H2)) := hO0.below BX.out.below NB.out
 generalize (wn.setRow n (Bk.cells (Bk.note s r) L2 V2 H2)) = wq at *
 have BN := zh hN
 have RCN := zh hR
 have RDN := zh hD
 have X3 := zh h3
 have BQ := zh hQ
 clear hO0 hN hR hD h3 hQ c0 c3 bf k0 k1 BX
 have b6 : wq.cell? ⟨n, 6, none⟩ = some (.int .i64 s.stable) := BN.out.cs.c6
 have b8 := BN.out.cs.c8
 have b13 : wq.cell? ⟨n, 13, none⟩ = some (.int .i64 s.sp.v) := BN.out.cs.c13
 have c0 := RCN.out.cs.c0
 have c3 := RCN.out.cs.c3
 rw [HK.out] at c0
 have bf := BN.out.fz
 have k0 := BN.out.lt
 have k1 := RCN.out.cs.lt
 go_upto_region 35 with fail
 have hX : BkAt ((wq.setCell ⟨n, 8, none⟩ (.int .i64 r.n))) n ({ s with h := Bk.last24 (s.h ++ [r]), ph := r.n, stable := s.stable }) L2 V2 H2 := BN.out.ph r.n
 have hO : Only n wq ((wq.setCell ⟨n, 8, none⟩ (.int .i64 r.n))) := (Only.refl n wq).set _ _
 generalize ((wq.setCell ⟨n, 8, none⟩ (.int .i64 r.n))) = wf at hX hO ⊢
 have hX3 : BkAt wf (n + 1 + 1) Bk.none_ (.slice none 0 0) (.slice none 0 0) (.slice none 0 0) := hO.bk X3.out (by omega)
 have hRD : BkRd wf ({ s with h := Bk.last24 (s.h ++ [r]), ph := r.n, stable := s.stable }) L2 V2 H2 := (hO.rd RDN.out BN.out RDN.out.flat).re rfl rfl rfl
 have hBB : Below w.heap.size w wf := hO.below BQ.out NB.out
 have XF := zh hX
 have XF3 := zh hX3
 have RDF := zh hRD
 have BF := zh hBB
 clear hX hX3 hRD hBB hO
 go_wp2_with (first
  | ((with_reducible show zL 115); refine jaa rfl (.tmp 2) rfl rfl XF.out ?_)
  | ((with_reducible show zW); refine jab rfl (.tmp 4) (.tmp 115) rfl rfl rfl XF3.out RDF.out.one ?_))
 exact bodyPost_ret (jaz Tryz.results33 _ rfl (XF3.out.setRow _ _ _ _)) rfl ⟨L2, V2, H2, rfl, RDF.out.setRow XF3.out jbc _, below_setRow BF.out (by have := NB.out; omega) _, NW.out⟩
theorem jhs (s : Bk.St) (ok : Bk.Ok s) (r : Rc.R) (hin : Rc.In r) (L V H : Value) (w : World) (h : BkRd w s L V H) (hc : Bk.chk s r = 0) (hk : r.kind = 3) : Calls Tryz.prog 33 #[.agg (Bk.cells s L V H), .agg (Rc.cells r)] w (jb0 L V H w (Bk.app s r) (.int .i64 (Bk.chk s r))) := by
 have CC : Hid (∀ W, BkRd W s L V H → Calls Tryz.prog 55 #[.agg (Bk.cells s L V H), .agg (Rc.cells r)] W (jbb W (.int .i64 (Bk.chk s r)))) := fun W h => jbk s ok r hin L V H W h
 have hz := ja9
 rw [Bk.app_ok hc, hc, Bk.act3 hk]
 have HK := zh hk
 have hr := Bk.chk_right hc
 rw [hc] at CC
 have CN : Hid (∀ W, BkRd W s L V H → Calls Tryz.prog 58 #[.agg (Bk.cells s L V H), .agg (Rc.cells r)] W (jek L V H W (Bk.note s r))) := fun W h => jcv s ok.hl r L V H W h
 clear ok hr hk hc
 obtain ⟨W, hW⟩ : ∃ W, W = ((w.alloc (.cells (Bk.cells s L V H) 40)).alloc (.cells (Rc.cells r) 53)).alloc (.cells Bk.zeros 40) := ⟨_, rfl⟩
 obtain ⟨r1, r2, r3, hb, hs⟩ := jal hW
 have BX := zh (BkRc.mk ⟨r1⟩ ⟨r2⟩ (h.on hb) hb (Nat.le_refl _))
 go_enter Tryz.func33, Tryz.ntmps33
 go_upto_region 1 with fail
 rw [← hW]
 clear hW hz
 obtain ⟨n, hn⟩ : ∃ n, n = w.heap.size := ⟨_, rfl⟩
 rw [← hn] at BX r3 ⊢
 have X3 : Hid (BkAt W (n + 1 + 1) Bk.none_ (.slice none 0 0) (.slice none 0 0) (.slice none 0 0)) := ⟨r3⟩
 have NB := zh (Nat.le_of_eq hn.symm)
 clear r1 r2 r3 hs hb h hin hn
 have c0 := BX.out.rc.cs.c0; have c3 := BX.out.rc.cs.c3; have c6 := BX.out.rc.cs.c6; have c7 := BX.out.rc.cs.c7; have c8 := BX.out.rc.cs.c8; have c9 := BX.out.rc.cs.c9; have c10 := BX.out.rc.cs.c10; have c11 := BX.out.rc.cs.c11; have c12 := BX.out.rc.cs.c12; have c13 := BX.out.rc.cs.c13; have c14 := BX.out.rc.cs.c14; have c15 := BX.out.rc.cs.c15; have c16 := BX.out.rc.cs.c16; have c17 := BX.out.rc.cs.c17; rw [HK.out] at c0; have bf := BX.out.bk.fz; have k1 := BX.out.rc.cs.lt; have k0 := BX.out.bk.lt
 go_upto_region 15 with (first
  | ((with_reducible show zL 9); refine jaa rfl (.tmp 2) rfl rfl BX.out.bk ?_)
  | ((with_reducible show zL 10); refine zR (.tmp 3) BX.out.rc ?_)
  | ((with_reducible show zL 51); refine jaa rfl (.tmp 2) rfl rfl BX.out.bk ?_)
  | ((with_reducible show zL 52); refine zR (.tmp 3) BX.out.rc ?_)
  | (go_at_call 55; (with_reducible refine (CC.out _ BX.out.rd).mono ?_); rintro e wc ⟨rfl, hb⟩; have BX := zh (BX.out.on hb); have X3 := zh (X3.out.on hb); clear hb c0 c3 c6 c7 c8 c9 c10 c11 c12 c13 c14 c15 c16 c17 bf k0 k1; have c0 := BX.out.rc.cs.c0; have c3 := BX.out.rc.cs.c3; have c6 := BX.out.rc.cs.c6; have c7 := BX.out.rc.cs.c7; have c8 := BX.out.rc.cs.c8; have c9 := BX.out.rc.cs.c9; have c10 := BX.out.rc.cs.c10; have c11 := BX.out.rc.cs.c11; have c12 := BX.out.rc.cs.c12; have c13 := BX.out.rc.cs.c13; have c14 := BX.out.rc.cs.c14; have c15 := BX.out.rc.cs.c15; have c16 := BX.out.rc.cs.c16; have c17 := BX.out.rc.cs.c17; rw [HK.out] at c0; have bf := BX.out.bk.fz; have k1 := BX.out.rc.cs.lt; have k0 := BX.out.bk.lt)
  | (go_at_call 58; (with_reducible refine (CN.out _ BX.out.rd).mono ?_); rintro e wn ⟨L2, V2, H2, rfl, hrd, hb, hnew⟩; have NW := zh (jgd hnew BX.out.below.size); clear hnew; have RDN := zh hrd; clear hrd; have BX := zh (BX.out.on hb); have X3 := zh (X3.out.on hb); clear hb c0 c3 c6 c7 c8 c9 c10 c11 c12 c13 c14 c15 c16 c17 bf k0 k1; have c0 := BX.out.rc.cs.c0; have c3 := BX.out.rc.cs.c3; have c6 := BX.out.rc.cs.c6; have c7 := BX.out.rc.cs.c7; have c8 := BX.out.rc.cs.c8; have c9 := BX.out.rc.cs.c9; have c10 := BX.out.rc.cs.c10; have c11 := BX.out.rc.cs.c11; have c12 := BX.out.rc.cs.c12; have c13 := BX.out.rc.cs.c13; have c14 := BX.out.rc.cs.c14; have c15 := BX.out.rc.cs.c15; have c16 := BX.out.rc.cs.c16; have c17 := BX.out.rc.cs.c17; rw [HK.out] at c0; have bf := BX.out.bk.fz; have k1 := BX.out.rc.cs.lt; have k0 := BX.out.bk.lt)
  | ((with_reducible show zW); refine jab rfl (.tmp 2) (.tmp 53) rfl rfl rfl BX.out.bk RDN.out.one ?_))
 have hO0 : Only n wn (wn.setRow n (Bk.cells (Bk.note s r) L2 V2 H2)) := (Only.refl n wn).row _
 have hN : BkAt (wn.setRow n (Bk.cells (Bk.note s r) L2 V2 H2)) n (Bk.note s r) L2 V2 H2 := BX.out.bk.setRow _ _ _ _
 have hR : RcAt (wn.setRow n (Bk.cells (Bk.note s r) L2 V2 H2)) (n + 1) r := hO0.rc BX.out.rc (by omega)
 have hD : BkRd (wn.setRow n (Bk.cells (Bk.note s r) L2 V2 H2)) (Bk.note s r) L2 V2 H2 := hO0.rd RDN.out BX.out.bk BX.out.rd.flat
 have h3 : BkAt (wn.setRow n (Bk.cells (Bk.note s r) L2 V2 H2)) (n + 1 + 1) Bk.none_ (.slice none 0 0) (.slice none 0 0) (.slice none 0 0) := hO0.bk X3.out (by omega)
 have hQ : Below w.heap.size w (wn.setRow n (Bk.cells (Bk.note s r) L2 V2 H2)) := hO0.below BX.out.below NB.out
 generalize (wn.setRow n (Bk.cells (Bk.note s r) L2 V2 H2)) = wq at *
 have BN := zh hN
 have RCN := zh hR
 have RDN := zh hD
 have X3 := zh h3
 have BQ := zh hQ
 clear hO0 hN hR hD h3 hQ c0 c3 c6 c7 c8 c9 c10 c11 c12 c13 c14 c15 c16 c17 bf k0 k1 BX
 have b6 : wq.cell? ⟨n, 6, none⟩ = some (.int .i64 s.stable) := BN.out.cs.c6
 have b7 := BN.out.cs.c7
 have b8 := BN.out.cs.c8
 have b9 := BN.out.cs.c9
 have b10 := BN.out.cs.c10
 have b11 := BN.out.cs.c11
 have b13 : wq.cell? ⟨n, 13, none⟩ = some (.int .i64 s.sp.v) := BN.out.cs.c13
 have b14 := BN.out.cs.c14
 have b15 := BN.out.cs.c15
 have b16 := BN.out.cs.c16
 have b17 := BN.out.cs.c17
 have b18 := BN.out.cs.c18
 have b19 := BN.out.cs.c19
 have b20 := BN.out.cs.c20
 have b21 := BN.out.cs.c21
 have b22 := BN.out.cs.c22
 have b23 := BN.out.cs.c23
 have b24 := BN.out.cs.c24
 have c0 := RCN.out.cs.c0
 have c3 := RCN.out.cs.c3
 have c6 := RCN.out.cs.c6
 have c7 := RCN.out.cs.c7
 have c8 := RCN.out.cs.c8
 have c9 := RCN.out.cs.c9
 have c10 := RCN.out.cs.c10
 have c11 := RCN.out.cs.c11
 have c12 := RCN.out.cs.c12
 have c13 := RCN.out.cs.c13
 have c14 := RCN.out.cs.c14
 have c15 := RCN.out.cs.c15
 have c16 := RCN.out.cs.c16
 have c17 := RCN.out.cs.c17
 rw [HK.out] at c0
 have bf := BN.out.fz
 have k0 := BN.out.lt
 have k1 := RCN.out.cs.lt
 go_upto_region 16 with fail
 have hP : BkAt (jc2 wq n r.sp) n { Bk.note s r with sp := r.sp } L2 V2 H2 := BN.out.spec r.sp
 have hO1 : Only n wq (jc2 wq n r.sp) := (Only.refl n wq).puts r.sp
 have hEq : jc2 wq n r.sp = ((((((((((((wq.setCell ⟨n, 13, none⟩ (.int .i64 r.sp.v)).setCell ⟨n, 14, none⟩ (.int .i64 r.sp.d)).setCell ⟨n, 15, none⟩ (.int .i64 r.sp.u)).setCell ⟨n, 16, none⟩ (.int .i64 r.sp.n)).setCell ⟨n, 17, none⟩ (.int .i64 r.sp.g)).setCell ⟨n, 18, none⟩ (.int .i64 r.sp.a)).setCell ⟨n, 19, none⟩ (.int .i64 r.sp.b)).setCell ⟨n, 20, none⟩ (.int .i64 r.sp.c)).setCell ⟨n, 21, none⟩ (.int .i64 r.sp.e)).setCell ⟨n, 22, none⟩ (.int .i64 r.sp.w)).setCell ⟨n, 23, none⟩ (.int .i64 r.sp.x)).setCell ⟨n, 24, none⟩ (.int .i64 r.sp.k)) := rfl
 rw [← hEq]
 have hR1 : RcAt (jc2 wq n r.sp) (n + 1) r := hO1.rc RCN.out (by omega)
 have h31 : BkAt (jc2 wq n r.sp) (n + 1 + 1) Bk.none_ (.slice none 0 0) (.slice none 0 0) (.slice none 0 0) := hO1.bk X3.out (by omega)
 have hD1 : BkRd (jc2 wq n r.sp) (Bk.note s r) L2 V2 H2 := hO1.rd RDN.out BN.out RDN.out.flat
 have hQ1 : Below w.heap.size w (jc2 wq n r.sp) := hO1.below BQ.out NB.out
 clear hEq hO1 bf k0 k1 b6 b7 b8 b9 b10 b11 b13 b14 b15 b16 b17 b18 b19 b20 b21 b22 b23 b24 c0 c3 c6 c7 c8 c9 c10 c11 c12 c13 c14 c15 c16 c17
 generalize jc2 wq n r.sp = wp at *
 have BN := zh hP
 have RCN := zh hR1
 have X3 := zh h31
 have RDN : Hid (BkRd wp { Bk.note s r with sp := r.sp } L2 V2 H2) := hD1.re rfl rfl rfl
 have BQ := zh hQ1
 clear hP hR1 h31 hD1 hQ1
 have b6 : wp.cell? ⟨n, 6, none⟩ = some (.int .i64 s.stable) := BN.out.cs.c6
 have b7 := BN.out.cs.c7
 have b8 := BN.out.cs.c8
 have b9 := BN.out.cs.c9
 have b10 := BN.out.cs.c10
 have b11 := BN.out.cs.c11
 have c0 := RCN.out.cs.c0
 have c3 := RCN.out.cs.c3
 rw [HK.out] at c0
 have bf := BN.out.fz
 have k0 := BN.out.lt
 have k1 := RCN.out.cs.lt
 go_upto_region 35 with fail
 have hX : BkAt ((((((wp.setCell ⟨n, 8, none⟩ (.int .i64 1)).setCell ⟨n, 9, none⟩ (.int .i64 0)).setCell ⟨n, 10, none⟩ (.int .i64 r.n)).setCell ⟨n, 11, none⟩ (.int .i64 r.n)).setCell ⟨n, 7, none⟩ (.int .i64 s.stable))) n ({ s with h := Bk.last24 (s.h ++ [r]), sp := r.sp, ph := 1, step := 0, since := r.n, begun := r.n, from_ := s.stable }) L2 V2 H2 := ((((BN.out.ph 1).step 0).since r.n).begun r.n).frm s.stable
 have hO : Only n wp ((((((wp.setCell ⟨n, 8, none⟩ (.int .i64 1)).setCell ⟨n, 9, none⟩ (.int .i64 0)).setCell ⟨n, 10, none⟩ (.int .i64 r.n)).setCell ⟨n, 11, none⟩ (.int .i64 r.n)).setCell ⟨n, 7, none⟩ (.int .i64 s.stable))) := (((((Only.refl n wp).set _ _).set _ _).set _ _).set _ _).set _ _
 generalize ((((((wp.setCell ⟨n, 8, none⟩ (.int .i64 1)).setCell ⟨n, 9, none⟩ (.int .i64 0)).setCell ⟨n, 10, none⟩ (.int .i64 r.n)).setCell ⟨n, 11, none⟩ (.int .i64 r.n)).setCell ⟨n, 7, none⟩ (.int .i64 s.stable))) = wf at hX hO ⊢
 have hX3 : BkAt wf (n + 1 + 1) Bk.none_ (.slice none 0 0) (.slice none 0 0) (.slice none 0 0) := hO.bk X3.out (by omega)
 have hRD : BkRd wf ({ s with h := Bk.last24 (s.h ++ [r]), sp := r.sp, ph := 1, step := 0, since := r.n, begun := r.n, from_ := s.stable }) L2 V2 H2 := (hO.rd RDN.out BN.out RDN.out.flat).re rfl rfl rfl
 have hBB : Below w.heap.size w wf := hO.below BQ.out NB.out
 have XF := zh hX
 have XF3 := zh hX3
 have RDF := zh hRD
 have BF := zh hBB
 clear hX hX3 hRD hBB hO
 go_wp2_with (first
  | ((with_reducible show zL 115); refine jaa rfl (.tmp 2) rfl rfl XF.out ?_)
  | ((with_reducible show zW); refine jab rfl (.tmp 4) (.tmp 115) rfl rfl rfl XF3.out RDF.out.one ?_))
 exact bodyPost_ret (jaz Tryz.results33 _ rfl (XF3.out.setRow _ _ _ _)) rfl ⟨L2, V2, H2, rfl, RDF.out.setRow XF3.out jbc _, below_setRow BF.out (by have := NB.out; omega) _, NW.out⟩
theorem jku (s : Bk.St) (ok : Bk.Ok s) (r : Rc.R) (hin : Rc.In r) (L V H : Value) (w : World) (h : BkRd w s L V H) (hc : Bk.chk s r = 0) (hk : r.kind = 2) : Calls Tryz.prog 33 #[.agg (Bk.cells s L V H), .agg (Rc.cells r)] w (jb0 L V H w (Bk.app s r) (.int .i64 (Bk.chk s r))) := by
 have CC : Hid (∀ W, BkRd W s L V H → Calls Tryz.prog 55 #[.agg (Bk.cells s L V H), .agg (Rc.cells r)] W (jbb W (.int .i64 (Bk.chk s r)))) := fun W h => jbk s ok r hin L V H W h
 have hz := ja9
 rw [Bk.app_ok hc, hc, Bk.act2 hk]
 have HK := zh hk
 have hr := Bk.chk_right hc
 rw [hc] at CC
 have CP : Hid (∀ W, BkRd W s L V H → Calls Tryz.prog 57 #[.agg (Bk.cells s L V H), .agg #[.int .i64 r.n, .string r.text]] W (jek L V H W { s with vs := Bk.pub s.vs ⟨r.n, r.text⟩ })) := fun W h => jkt s ok.vl ⟨r.n, r.text⟩ L V H W h
 clear ok hr hk hc
 obtain ⟨W, hW⟩ : ∃ W, W = ((w.alloc (.cells (Bk.cells s L V H) 40)).alloc (.cells (Rc.cells r) 53)).alloc (.cells Bk.zeros 40) := ⟨_, rfl⟩
 obtain ⟨r1, r2, r3, hb, hs⟩ := jal hW
 have BX := zh (BkRc.mk ⟨r1⟩ ⟨r2⟩ (h.on hb) hb (Nat.le_refl _))
 go_enter Tryz.func33, Tryz.ntmps33
 go_upto_region 1 with fail
 rw [← hW]
 clear hW hz
 obtain ⟨n, hn⟩ : ∃ n, n = w.heap.size := ⟨_, rfl⟩
 rw [← hn] at BX r3 ⊢
 have X3 : Hid (BkAt W (n + 1 + 1) Bk.none_ (.slice none 0 0) (.slice none 0 0) (.slice none 0 0)) := ⟨r3⟩
 have NB := zh (Nat.le_of_eq hn.symm)
 clear r1 r2 r3 hs hb h hin hn
 have c0 := BX.out.rc.cs.c0; have c3 := BX.out.rc.cs.c3; have c5 := BX.out.rc.cs.c5; rw [HK.out] at c0; have bf := BX.out.bk.fz; have k1 := BX.out.rc.cs.lt; have k0 := BX.out.bk.lt
 go_upto_region 35 with (first
  | ((with_reducible show zL 9); refine jaa rfl (.tmp 2) rfl rfl BX.out.bk ?_)
  | ((with_reducible show zL 10); refine zR (.tmp 3) BX.out.rc ?_)
  | ((with_reducible show zL 42); refine jaa rfl (.tmp 2) rfl rfl BX.out.bk ?_)
  | (go_at_call 55; (with_reducible refine (CC.out _ BX.out.rd).mono ?_); rintro e wc ⟨rfl, hb⟩; have BX := zh (BX.out.on hb); have X3 := zh (X3.out.on hb); clear hb c0 c3 c5 bf k0 k1; have c0 := BX.out.rc.cs.c0; have c3 := BX.out.rc.cs.c3; have c5 := BX.out.rc.cs.c5; rw [HK.out] at c0; have bf := BX.out.bk.fz; have k1 := BX.out.rc.cs.lt; have k0 := BX.out.bk.lt)
  | (go_at_call 57; (with_reducible refine (CP.out _ BX.out.rd).mono ?_); rintro e wn ⟨L2, V2, H2, rfl, hrd, hb, hnew⟩; have NW := zh (jgd hnew BX.out.below.size); clear hnew; have RDN := zh hrd; clear hrd; have BX := zh (BX.out.on hb); have X3 := zh (X3.out.on hb); clear hb c0 c3 c5 bf k0 k1; have c0 := BX.out.rc.cs.c0; have c3 := BX.out.rc.cs.c3; have c5 := BX.out.rc.cs.c5; rw [HK.out] at c0; have bf := BX.out.bk.fz; have k1 := BX.out.rc.cs.lt; have k0 := BX.out.bk.lt)
  | ((with_reducible show zW); refine jab rfl (.tmp 2) (.tmp 48) rfl rfl rfl BX.out.bk RDN.out.one ?_))
 have hX : BkAt (wn.setRow n (Bk.cells ({ s with vs := Bk.pub s.vs ⟨r.n, r.text⟩ }) L2 V2 H2)) n ({ s with vs := Bk.pub s.vs ⟨r.n, r.text⟩ }) L2 V2 H2 := BX.out.bk.setRow _ _ _ _
 have hO : Only n wn (wn.setRow n (Bk.cells ({ s with vs := Bk.pub s.vs ⟨r.n, r.text⟩ }) L2 V2 H2)) := (Only.refl n wn).row _
 generalize (wn.setRow n (Bk.cells ({ s with vs := Bk.pub s.vs ⟨r.n, r.text⟩ }) L2 V2 H2)) = wf at hX hO ⊢
 have hX3 : BkAt wf (n + 1 + 1) Bk.none_ (.slice none 0 0) (.slice none 0 0) (.slice none 0 0) := hO.bk X3.out (by omega)
 have hRD : BkRd wf ({ s with vs := Bk.pub s.vs ⟨r.n, r.text⟩ }) L2 V2 H2 := hO.rd RDN.out BX.out.bk BX.out.rd.flat
 have hBB : Below w.heap.size w wf := hO.below BX.out.below NB.out
 have XF := zh hX
 have XF3 := zh hX3
 have RDF := zh hRD
 have BF := zh hBB
 clear hX hX3 hRD hBB hO
 go_wp2_with (first
  | ((with_reducible show zL 115); refine jaa rfl (.tmp 2) rfl rfl XF.out ?_)
  | ((with_reducible show zW); refine jab rfl (.tmp 4) (.tmp 115) rfl rfl rfl XF3.out RDF.out.one ?_))
 exact bodyPost_ret (jaz Tryz.results33 _ rfl (XF3.out.setRow _ _ _ _)) rfl ⟨L2, V2, H2, rfl, RDF.out.setRow XF3.out jbc _, below_setRow BF.out (by have := NB.out; omega) _, NW.out⟩
theorem jkv (s : Bk.St) (ok : Bk.Ok s) (r : Rc.R) (hin : Rc.In r) (L V H : Value) (w : World) (h : BkRd w s L V H) (hc : Bk.chk s r = 0) (hk : r.kind = 1) : Calls Tryz.prog 33 #[.agg (Bk.cells s L V H), .agg (Rc.cells r)] w (jb0 L V H w (Bk.app s r) (.int .i64 (Bk.chk s r))) := by
 have CC : Hid (∀ W, BkRd W s L V H → Calls Tryz.prog 55 #[.agg (Bk.cells s L V H), .agg (Rc.cells r)] W (jbb W (.int .i64 (Bk.chk s r)))) := fun W h => jbk s ok r hin L V H W h
 have hz := ja9
 have hle : Bk.leadE s r = 0 := by rw [← Bk.chk_lead (Bk.chk_right hc) hk]; exact hc
 have CL : Hid (∀ W, BkRd W s L V H → Calls Tryz.prog 56 #[.agg (Bk.cells s L V H), .agg (Rc.cells r)] W (fun e w' => ∃ A c, e = .returned (.tuple #[.agg #[.int .i64 s.m, .slice A 1 c], .int .i64 0]) ∧ SlF Bk.leC w' A 1 c [⟨r.who, r.epoch, Bk.leadT s r⟩] ∧ Below W.heap.size W w' ∧ ∀ b o, A = some ⟨b, o, none⟩ → W.heap.size ≤ b)) := fun W h =>
  (je9 s ok r (Bk.chk_right hc) hk L V H W h).mono (by
   rintro e w' ⟨ll, A, c, he, hs, hb, hll⟩
   obtain ⟨rfl, hfar⟩ := hll hle
   rw [hle] at he
   exact ⟨A, c, he, hs, hb, hfar⟩)
 have TLX : Hid (Bk.tl { s with ep := r.epoch, who := r.who, till := Bk.leadT s r } = [⟨r.who, r.epoch, Bk.leadT s r⟩]) := jeg (by have := (Rc.ok_of (Bk.chk_right hc)).epoch; show r.epoch ≠ 0; omega)
 rw [Bk.app_ok hc, hc, Bk.act1 hk]
 have HK := zh hk
 have hr := Bk.chk_right hc
 rw [hc] at CC
 clear ok hr hk hc hle
 obtain ⟨W, hW⟩ : ∃ W, W = ((w.alloc (.cells (Bk.cells s L V H) 40)).alloc (.cells (Rc.cells r) 53)).alloc (.cells Bk.zeros 40) := ⟨_, rfl⟩
 obtain ⟨r1, r2, r3, hb, hs⟩ := jal hW
 have BX := zh (BkRc.mk ⟨r1⟩ ⟨r2⟩ (h.on hb) hb (Nat.le_refl _))
 go_enter Tryz.func33, Tryz.ntmps33
 go_upto_region 1 with fail
 rw [← hW]
 clear hW hz
 obtain ⟨n, hn⟩ : ∃ n, n = w.heap.size := ⟨_, rfl⟩
 rw [← hn] at BX r3 ⊢
 have X3 : Hid (BkAt W (n + 1 + 1) Bk.none_ (.slice none 0 0) (.slice none 0 0) (.slice none 0 0)) := ⟨r3⟩
 have NB := zh (Nat.le_of_eq hn.symm)
 clear r1 r2 r3 hs hb h hin hn
 have b0 := BX.out.bk.cs.c0; have b1 := BX.out.bk.cs.c1; have b3 := BX.out.bk.cs.c3; have b4 := BX.out.bk.cs.c4; have b5 := BX.out.bk.cs.c5; have c0 := BX.out.rc.cs.c0; have c1 := BX.out.rc.cs.c1; have c2 := BX.out.rc.cs.c2; rw [HK.out] at c0; have bf := BX.out.bk.fz; have k1 := BX.out.rc.cs.lt; have k0 := BX.out.bk.lt
 go_upto_region 7 with (first
  | ((with_reducible show zL 9); refine jaa rfl (.tmp 2) rfl rfl BX.out.bk ?_)
  | ((with_reducible show zL 10); refine zR (.tmp 3) BX.out.rc ?_)
  | ((with_reducible show zL 21); refine jaa rfl (.tmp 2) rfl rfl BX.out.bk ?_)
  | ((with_reducible show zL 22); refine zR (.tmp 3) BX.out.rc ?_)
  | (go_at_call 55; (with_reducible refine (CC.out _ BX.out.rd).mono ?_); rintro e wc ⟨rfl, hb⟩; have BX := zh (BX.out.on hb); have X3 := zh (X3.out.on hb); clear hb b0 b1 b3 b4 b5 c0 c1 c2 bf k0 k1; have b0 := BX.out.bk.cs.c0; have b1 := BX.out.bk.cs.c1; have b3 := BX.out.bk.cs.c3; have b4 := BX.out.bk.cs.c4; have b5 := BX.out.bk.cs.c5; have c0 := BX.out.rc.cs.c0; have c1 := BX.out.rc.cs.c1; have c2 := BX.out.rc.cs.c2; rw [HK.out] at c0; have bf := BX.out.bk.fz; have k1 := BX.out.rc.cs.lt; have k0 := BX.out.bk.lt)
  | (go_at_call 56; (with_reducible refine (CL.out _ BX.out.rd).mono ?_); rintro e wl ⟨AL, cL, rfl, hsl, hb, hfar⟩; have FAR := zh hfar; have FARN : Hid (∀ b o, AL = some ⟨b, o, none⟩ → n + 1 + 1 < b) := fun b o e => Nat.lt_of_lt_of_le X3.out.lt (hfar b o e); have S1 := zh hsl; have KN : Hid (n + 1 + 1 < _) := X3.out.lt; clear hfar hsl; have BX := zh (BX.out.on hb); have X3 := zh (X3.out.on hb); clear hb b0 b1 b3 b4 b5 c0 c1 c2 bf k0 k1; have b0 := BX.out.bk.cs.c0; have b1 := BX.out.bk.cs.c1; have b3 := BX.out.bk.cs.c3; have b4 := BX.out.bk.cs.c4; have b5 := BX.out.bk.cs.c5; have c0 := BX.out.rc.cs.c0; have c1 := BX.out.rc.cs.c1; have c2 := BX.out.rc.cs.c2; rw [HK.out] at c0; have bf := BX.out.bk.fz; have k1 := BX.out.rc.cs.lt; have k0 := BX.out.bk.lt))
 obtain ⟨wq, hwq⟩ : ∃ wq, wq = wl.alloc (.cells #[.int .i64 s.m, .slice AL 1 cL] 31) := ⟨_, rfl⟩
 have hb : Below wl.heap.size wl wq := by rw [hwq]; exact (Below.refl _ _).alloc (Nat.le_refl _) _
 have hg0 : wq.heap[wl.heap.size]? = some (.cells #[.int .i64 s.m, .slice AL 1 cL] 31 (0, 0)) := by rw [hwq]; exact heap_alloc_new _ _
 rw [← hwq]
 have GN : Hid (n + 1 + 1 < wl.heap.size) := X3.out.lt
 obtain ⟨g, hg⟩ : ∃ g, g = wl.heap.size := ⟨_, rfl⟩
 rw [← hg] at hg0 GN ⊢
 have S1 := zh (S1.out.on hb)
 clear hwq hg
 have BX := zh (BX.out.on hb)
 have X3 := zh (X3.out.on hb)
 clear hb b0 b1 b3 b4 b5 c0 c1 c2 bf k0 k1
 have b0 := BX.out.bk.cs.c0
 have b1 := BX.out.bk.cs.c1
 have b3 := BX.out.bk.cs.c3
 have b4 := BX.out.bk.cs.c4
 have b5 := BX.out.bk.cs.c5
 have c0 := BX.out.rc.cs.c0
 have c1 := BX.out.rc.cs.c1
 have c2 := BX.out.rc.cs.c2
 rw [HK.out] at c0
 have bf := BX.out.bk.fz
 have k1 := BX.out.rc.cs.lt
 have k0 := BX.out.bk.lt
 have BQ := zh BX.out.below
 have gn : n < g := by have := GN.out; omega
 have gn1 : n ≠ g := by omega
 have g0 : wq.cell? ⟨g, 0, none⟩ = some (.int .i64 s.m) := cell_of_row _ _ 0 _ _ _ hg0
 have g1 : wq.cell? ⟨g, 1, none⟩ = some (.slice AL 1 cL) := cell_of_row _ _ 1 _ _ _ hg0
 clear hg0
 obtain ⟨b, o, rfl, hcL, hla⟩ := LeAt.of S1.out
 have BN : Hid (n + 1 + 1 < b) := by have h1 := FAR.out b o rfl; have h2 := KN.out; show _ < _; omega
 obtain ⟨l0, l1, l2, l3, l4, llt⟩ := hla
 have bn : n < b := by have := BN.out; omega
 have bn1 : n ≠ b := by omega
 go_upto_region 35 with fail
 have hX : BkAt ((((((wq.setCell ⟨n, 0, none⟩ (.int .i64 s.m)).setCell ⟨n, 1, none⟩ (.slice (some ⟨b, o, none⟩) 1 cL)).setCell ⟨n, 3, none⟩ (.int .i64 r.epoch)).setCell ⟨n, 4, none⟩ (.int .i64 r.who)).setCell ⟨n, 5, none⟩ (.int .i64 (Bk.leadT s r)))) n ({ s with ep := r.epoch, who := r.who, till := Bk.leadT s r }) (.slice (some ⟨b, o, none⟩) 1 cL) V H := ((((BX.out.bk.mg s.m).ls (.slice (some ⟨b, o, none⟩) 1 cL)).ep r.epoch).who r.who).till (Bk.leadT s r)
 have hO : Only n wq ((((((wq.setCell ⟨n, 0, none⟩ (.int .i64 s.m)).setCell ⟨n, 1, none⟩ (.slice (some ⟨b, o, none⟩) 1 cL)).setCell ⟨n, 3, none⟩ (.int .i64 r.epoch)).setCell ⟨n, 4, none⟩ (.int .i64 r.who)).setCell ⟨n, 5, none⟩ (.int .i64 (Bk.leadT s r)))) := (((((Only.refl n wq).set _ _).set _ _).set _ _).set _ _).set _ _
 generalize ((((((wq.setCell ⟨n, 0, none⟩ (.int .i64 s.m)).setCell ⟨n, 1, none⟩ (.slice (some ⟨b, o, none⟩) 1 cL)).setCell ⟨n, 3, none⟩ (.int .i64 r.epoch)).setCell ⟨n, 4, none⟩ (.int .i64 r.who)).setCell ⟨n, 5, none⟩ (.int .i64 (Bk.leadT s r)))) = wf at hX hO ⊢
 have hX3 : BkAt wf (n + 1 + 1) Bk.none_ (.slice none 0 0) (.slice none 0 0) (.slice none 0 0) := hO.bk X3.out (by omega)
 have hRD : BkRd wf ({ s with ep := r.epoch, who := r.who, till := Bk.leadT s r }) (.slice (some ⟨b, o, none⟩) 1 cL) V H := by
  have h0 := hO.rd BX.out.rd BX.out.bk BX.out.rd.flat
  refine ⟨⟨some ⟨b, o, none⟩, cL, by rw [TLX.out]; rfl, ?_⟩, h0.v, h0.h⟩
  rw [TLX.out]
  exact S1.out.keep (by rw [hO.size]; exact Nat.le_refl _) (fun b' o' he _ => by
   injection he with he; injection he with he _
   exact hO.block b' (by omega))
 have hBB : Below w.heap.size w wf := hO.below BQ.out NB.out
 have XF := zh hX
 have XF3 := zh hX3
 have RDF := zh hRD
 have BF := zh hBB
 clear hX hX3 hRD hBB hO
 go_wp2_with (first
  | ((with_reducible show zL 115); refine jaa rfl (.tmp 2) rfl rfl XF.out ?_)
  | ((with_reducible show zW); refine jab rfl (.tmp 4) (.tmp 115) rfl rfl rfl XF3.out RDF.out.one ?_))
 exact bodyPost_ret (jaz Tryz.results33 _ rfl (XF3.out.setRow _ _ _ _)) rfl ⟨(.slice (some ⟨b, o, none⟩) 1 cL), V, H, rfl, RDF.out.setRow XF3.out jbc _, below_setRow BF.out (by have := NB.out; omega) _, jd7 (fun b2 o2 e2 _ => by have := FARN.out b2 o2 e2; have := NB.out; omega), .inl rfl, .inl rfl⟩
theorem jgg (s : Bk.St) (ok : Bk.Ok s) (r : Rc.R) (hin : Rc.In r) (L V H : Value) (w : World) (h : BkRd w s L V H) : Calls Tryz.prog 33 #[.agg (Bk.cells s L V H), .agg (Rc.cells r)] w (jb0 L V H w (Bk.app s r) (.int .i64 (Bk.chk s r))) := by
 by_cases hc : Bk.chk s r = 0
 ·have hk := (Rc.ok_of (Bk.chk_right hc)).kind
  have h7 : r.kind = 1 ∨ r.kind = 2 ∨ r.kind = 3 ∨ r.kind = 4 ∨ r.kind = 5 ∨ r.kind = 6 ∨ r.kind = 7 := by omega
  rcases h7 with h2 | h2 | h2 | h2 | h2 | h2 | h2
  ·exact jkv s ok r hin L V H w h hc h2
  ·exact jku s ok r hin L V H w h hc h2
  ·exact jhs s ok r hin L V H w h hc h2
  ·by_cases h3 : r.n = 3
   ·exact jge s ok r hin L V H w h hc h2 h3
   ·exact jgf s ok r hin L V H w h hc h2 h3
  ·exact ji7 s ok r hin L V H w h hc h2
  ·exact jks s ok r hin L V H w h hc h2
  ·exact jhr s ok r hin L V H w h hc h2
 ·exact jnl s ok r hin L V H w h hc
end Go.Proofs.YtnacjhnfkkddcaaGreatDoor
