/-
  The walk of LeaseRises over any table that keeps the contracts.
-/
import Derived.Test.YtemnioijgkahcaaLsTurns
import Derived.Test.YtemnioijgkahcaaRegion
import Derived.Deep.CutBlock
import Derived.Deep.DeepCutAuto
namespace Go.Proofs.Ytemnioijgkahcaa
open Go.RowKit Go.Deep

set_option maxHeartbeats 6400000 in
set_option maxRecDepth 100000 in
theorem lrises_walk {L : LPred} (hC : LC L) (margin : Int) (hm : l64In margin) (n c : Nat) (A : Option Addr) (ts : List Lp) (w : World) (h : SlL w A n c ts) :
    Calls Try.prog 4 #[.int .i64 margin, .slice A n c] w fun e w' => e = .returned (.bool true) ∧ Below w.heap.size w w' := by
  have L1 := Lib.hid (llives_any hC w)
  have HA := Lib.hid h
  clear h
  go_enter Try.func4, Try.ntmps4
  go_upto_region 3 with (go_at_call 8; (with_reducible refine L1.out.mono ?_); rintro e w1 ⟨rfl, hb1⟩; have B1 := Lib.hid hb1; clear hb1)
  clear L1
  have N1 := Lib.hid (lat_make (F := fun _ => False) (w0 := w) (W := w1) hC hm B1.out (fun b hb => by cases hb))
  have FW : Hid (Ls.Few (Ls.new margin) (0 + 1)) := ⟨fun e he => (by cases he), by show 0 ≤ 0 + 1; omega⟩
  generalize Ls.new margin = s0 at *
  go_upto_region 4 with (go_at_call 9; (with_reducible refine N1.out.mono ?_); rintro e w5 ⟨q, rfl, hk1, _⟩; have K4 := Lib.hid hk1; clear hk1)
  clear N1
  have E6 := Lib.hid (learly_any ts n c A w w5 HA.out K4.out.below)
  go_upto_region 5 with (go_at_call 10; (with_reducible refine E6.out.mono ?_); rintro e w6 ⟨v6, rfl, ho6, hb6⟩; obtain ⟨A6, c6, rfl⟩ := ho6.form; have O6 := Lib.hid ho6; have K6 := Lib.hid (K4.out.more hC hb6); clear ho6 hb6)
  have ES := Lib.hid (learly_len ts)
  generalize learly ts = es at *
  obtain ⟨m, hm⟩ : ∃ m, m = es.length := ⟨_, rfl⟩
  rw [← hm] at O6 ⊢
  have hm80 : m ≤ 80 := by rw [hm]; exact ES.out
  have HMM := Lib.hid hm
  clear hm ES E6 HA K4
  obtain ⟨F, hF⟩ : ∃ F : Nat → Prop, F = fun b => False ∨ (w5.heap.size ≤ b ∧ b < w6.heap.size) := ⟨_, rfl⟩
  rw [← hF] at K6
  have HV : Hid (∀ k, (Value.slice A6 m c6).ownBlock = some k → F k) := fun k hk => by rw [hF]; exact .inr (O6.out.lt k hk)
  have P6 : Hid (LQ L w F q w5.heap.size (.slice A6 m c6) es [] s0 w6) := ⟨K6.out, O6.out, HV.out, fun p hp => by cases hp⟩
  clear hF K6 O6
  generalize w5.heap.size = N at *
  go_wp2_with fail
  go_loopw [6] (fun i wr => ∃ (j : Nat) (s : Ls.St), j ≤ m ∧ i = .int .i64 j ∧ LQ L w F q N (.slice A6 m c6) es [] s wr ∧ Ls.Few s (j + 1)) (fun i _ => m - (intOf i).toNat)
  case atStart => exact ⟨0, s0, by omega, rfl, P6.out, FW.out⟩
  case round =>
    obtain ⟨j, s, hj, rfl, hp, hfw⟩ := hrel
    have P := Lib.hid hp
    have FS := Lib.hid hfw
    clear hp hfw P6 FW
    by_cases hlt : j < m
    · obtain ⟨b1, o1, hA1⟩ := (P.out.row.readL).addrL (by have := HMM.out; omega)
      subst hA1
      have EO : Hid (es[j]? = some (es[j]'(by have := HMM.out; omega))) := List.getElem?_eq_getElem _
      generalize es[j]'(by have := HMM.out; omega) = o at *
      obtain ⟨p0, p1, p2, p3, p4, p5⟩ := P.out.row.readL.lp EO.out (Below.refl _ _)
      have OK := Lib.hid (P.out.row.readL.lpOk (List.mem_of_getElem? EO.out))
      obtain ⟨F1, hf1, hp1⟩ := P.out.push hC (o := lstepO o) ((Below.refl wr.heap.size wr).alloc (Nat.le_refl _) _) (heap_alloc_new wr _)
      have FF1 := Lib.hid hf1
      have P1 := Lib.hid hp1
      clear hf1 hp1
      unfold lstepO at P1
      go_upto_region 9 with fail
      clear p0 p1 p2 p3 p4 p5 P
      obtain ⟨gs, hgs⟩ : ∃ gs, gs = wr.heap.size := ⟨_, rfl⟩
      rw [← hgs] at P1 ⊢
      clear hgs
      generalize wr.alloc (.cells #[.int .i64 o.kind, .int .i64 o.who, .int .i64 o.ep, .int .i64 o.now, .int .i64 o.ttl, .string o.name] 28) = ws at *
      rw [show Obj.cells #[.int .i64 o.kind, .int .i64 o.who, .int .i64 o.ep, .int .i64 o.now, .int .i64 o.ttl, .string o.name] 28 (0, 0) = lstepO o from rfl] at P1
      have CG := Lib.hid (fun W F s (h : LAt L w F q s W) => lat_get hC h OK.out.s)
      have CH := Lib.hid (fun W F s (h : LAt L w F q s W) (a b : Int) (h1 : l64In a) (h2 : l64In b) => lat_holds hC h OK.out.s h1 h2 OK.out.n)
      have CF := Lib.hid (fun W F s (h : LAt L w F q s W) => lat_free hC h OK.out.s OK.out.n)
      unfold LGet lval at CG
      unfold LBool at CH CF
      obtain ⟨a, ha⟩ : ∃ a, a = Ls.holderOf s.l o.name := ⟨_, rfl⟩
      obtain ⟨b, hb⟩ : ∃ b, b = Ls.epochOf s.l o.name := ⟨_, rfl⟩
      obtain ⟨t, ht⟩ : ∃ t, t = Ls.tillOf s.l o.name := ⟨_, rfl⟩
      obtain ⟨is, his⟩ : ∃ is, is = (Ls.find s.l o.name).isSome := ⟨_, rfl⟩
      have CG0 := Lib.hid (CG.out _ F1 s P1.out.la)
      rw [← ha, ← hb, ← ht, ← his] at CG0
      have HB := Lib.hid hb
      have HT := Lib.hid ht
      clear ha hb ht his
      obtain ⟨c0, c1, c2, c3, c4, c5, f5, hgl⟩ := lstep_cells (P1.out.at_ 0 rfl)
      go_upto_region 10 with (go_at_call 15; (with_reducible refine CG0.out.mono ?_); rintro e w8 ⟨rfl, hb⟩; have P8 := Lib.hid (P1.out.on hC hb); clear hb)
      clear c0 c1 c2 c3 c4 c5 f5 hgl P1 CG0
      obtain ⟨F2, hf2, hp2⟩ := P8.out.push hC (o := lleaseO a b t) ((Below.refl w8.heap.size w8).alloc (Nat.le_refl _) _) (heap_alloc_new w8 _)
      have FF2 := Lib.hid hf2
      have P9 := Lib.hid hp2
      clear hf2 hp2 P8
      unfold lleaseO at P9
      obtain ⟨g8, hg8⟩ : ∃ g8, g8 = w8.heap.size := ⟨_, rfl⟩
      rw [← hg8] at P9 ⊢
      clear hg8
      generalize w8.alloc (.cells #[.int .i64 a, .int .i64 b, .int .i64 t] 36) = w9 at *
      rw [show Obj.cells #[.int .i64 a, .int .i64 b, .int .i64 t] 36 (0, 0) = lleaseO a b t from rfl] at P9
      obtain ⟨c0, c1, c2, c3, c4, c5, f5, hgl⟩ := lstep_cells (P9.out.at_ 1 rfl)
      have CF0 := Lib.hid (CF.out _ F2 s P9.out.la)
      go_upto_region 12 with (go_at_call 17; (with_reducible refine CF0.out.mono ?_); rintro e w10 ⟨⟨fr, rfl, hfr⟩, hb⟩; have P10 := Lib.hid (P9.out.on hC hb); have FR := Lib.hid hfr; clear hb hfr)
      clear c0 c1 c2 c3 c4 c5 f5 hgl P9 CF0
      obtain ⟨c0, c1, c2, c3, c4, c5, f5, hgl⟩ := lstep_cells (P10.out.at_ 1 rfl)
      go_upto_block 2 with ((with_reducible refine (lkind_any _ _).mono ?_); rintro e wk ⟨rfl, hbk⟩; have PK := Lib.hid (P10.out.on hC hbk); clear hbk)
      clear c0 c1 c2 c3 c4 c5 f5 hgl P10
      have hkd := (lkN_eq o.kind).2
      obtain ⟨kd, hkd2⟩ : ∃ kd, kd = lkN o.kind := ⟨_, rfl⟩
      rw [← hkd2] at hkd ⊢
      clear hkd2
      go_cut [11] (fun s11 wx => ∃ (s' : Ls.St) (tk : Bool), s11 = .bool tk ∧ LQ L w F2 q N (.slice (some ⟨b1, o1, none⟩) m c6) es [(g8, lleaseO a b t), (gs, lstepO o)] s' wx ∧ Ls.Few s' (j + 2) ∧ (tk = false → Ls.epochOf s'.l o.name = b))
      case first =>
        have hor : kd = 0 ∨ kd = 1 ∨ kd = 2 ∨ kd = 3 := by omega
        clear hkd
        obtain ⟨c0, c1, c2, c3, c4, c5, f5, hgl⟩ := lstep_cells (PK.out.at_ 1 rfl)
        rcases hor with rfl | rfl | rfl | rfl
        · have CT := Lib.hid (lq_take hC PK.out (FS.out.more (by omega)) OK.out.s OK.out.w OK.out.n OK.out.t)
          have FN := Lib.hid (Ls.take_few FS.out o.name o.who o.now o.ttl)
          rcases Ls.take_cases s o.name o.who o.now o.ttl with ⟨hE, hr, hf⟩ | hE | ⟨hE, hf⟩
          · have TY := Ls.take_yes hE hr
            have hfr1 : fr = true := FR.out.2 hf
            have hb0 : 0 ≤ b ∧ b ≤ 1000 := by
              have h1 := Ls.few_epoch FS.out o.name
              have h2 := Ls.epoch_pos (PK.out.la.good hC) o.name
              rw [← HB.out] at h1 h2
              omega
            have hw1 : IntKind.i64.wrap (b + 1) = b + 1 := IntWalk.i64_in _ (by omega)
            have BI : Hid (l64In (b + 1)) := ⟨by omega, by omega⟩
            rw [hE, TY.1, ← HB.out] at CT
            rw [← HB.out] at TY
            have HD := Lib.hid TY.2
            generalize Ls.takeS s o.name o.who o.now o.ttl = s1 at *
            obtain ⟨D, hD⟩ : ∃ D, decide (o.now < 1099511627776) = D := ⟨_, rfl⟩
            have HDD : Hid (D = true ↔ o.now < 1099511627776) := by
              show _ ↔ _
              rw [← hD, decide_eq_true_iff]
            subst hfr1
            clear TY hE hr hf hb0
            go_upto_region 16 with (go_at_call 12; (with_reducible refine CT.out.mono ?_); rintro e w7 ⟨rfl, hp7⟩; have P7 := Lib.hid hp7; clear hp7)
            clear c0 c1 c2 c3 c4 c5 f5 hgl
            refine wp_region_held_drew (S := fun W => LQ L w F2 q N (.slice (some ⟨b1, o1, none⟩) m c6) es [(g8, lleaseO a b t), (gs, lstepO o)] s1 W) (by kernel_rfl) (P7.out.on hC (Below.refl _ _).drew) (fun hS => ?_)
            refine tkYes 0 (v := ?_) rfl (by kernel_rfl) (fun _ _ _ h => h) rfl ?_ hS ?_
            rotate_left
            · intro W hW; go_simp; (try with_reducible rfl)
            simp only [Act.put, List.setIfInBounds_toArray, List.set_cons_zero, List.set_cons_succ]
            refine tkYes 1 (v := ?_) rfl (by kernel_rfl) (fun _ _ _ h => h) rfl ?_ hS ?_
            rotate_left
            · intro W hW; go_simp; (try with_reducible rfl)
            simp only [Act.put, List.setIfInBounds_toArray, List.set_cons_zero, List.set_cons_succ]
            refine tkYes 2 (v := ?_) rfl (by kernel_rfl) (fun _ _ _ h => h) rfl ?_ hS ?_
            rotate_left
            · intro W hW; go_simp; (try with_reducible rfl)
            simp only [Act.put, List.setIfInBounds_toArray, List.set_cons_zero, List.set_cons_succ]
            refine tkYes 3 (v := ?_) rfl (by kernel_rfl) (fun _ _ _ h => h) rfl ?_ hS ?_
            rotate_left
            · intro W hW; go_simp; (try with_reducible rfl)
            simp only [Act.put, List.setIfInBounds_toArray, List.set_cons_zero, List.set_cons_succ]
            refine tkYes 4 (v := ?_) rfl (by kernel_rfl) (fun _ _ _ h => h) rfl ?_ hS ?_
            rotate_left
            · intro W hW; obtain ⟨l0, l1, l2⟩ := llease_cells (LQ.at_ (show LQ L w F2 q N (.slice (some ⟨b1, o1, none⟩) m c6) es [(g8, lleaseO a b t), (gs, lstepO o)] s1 W from hW) 0 rfl); go_simp; (try with_reducible rfl)
            simp only [Act.put, List.setIfInBounds_toArray, List.set_cons_zero, List.set_cons_succ]
            refine tkYes 5 (v := ?_) rfl (by kernel_rfl) (fun _ _ _ h => h) rfl ?_ hS ?_
            rotate_left
            · intro W hW; go_simp; (try with_reducible rfl)
            simp only [Act.put, List.setIfInBounds_toArray, List.set_cons_zero, List.set_cons_succ]
            refine tkYes 6 (v := ?_) rfl (by kernel_rfl) (fun _ _ _ h => h) rfl ?_ hS ?_
            rotate_left
            · intro W hW; go_simp; (try with_reducible rfl)
            simp only [Act.put, List.setIfInBounds_toArray, List.set_cons_zero, List.set_cons_succ]
            refine tkYes 7 (v := ?_) rfl (by kernel_rfl) (fun _ _ _ h => h) rfl ?_ hS ?_
            rotate_left
            · intro W hW; go_simp; (try with_reducible rfl)
            simp only [Act.put, List.setIfInBounds_toArray, List.set_cons_zero, List.set_cons_succ]
            refine tkYes 8 (v := ?_) rfl (by kernel_rfl) (fun _ _ _ h => h) rfl ?_ hS ?_
            rotate_left
            · intro W hW; go_simp; (try with_reducible rfl)
            simp only [Act.put, List.setIfInBounds_toArray, List.set_cons_zero, List.set_cons_succ]
            refine tkYes 9 (v := ?_) rfl (by kernel_rfl) (fun _ _ _ h => h) rfl ?_ hS ?_
            rotate_left
            · intro W hW; go_simp; (try with_reducible rfl)
            simp only [Act.put, List.setIfInBounds_toArray, List.set_cons_zero, List.set_cons_succ]
            refine tkYes 10 (v := ?_) rfl (by kernel_rfl) (fun _ _ _ h => h) rfl ?_ hS ?_
            rotate_left
            · intro W hW; go_simp; (try with_reducible rfl)
            simp only [Act.put, List.setIfInBounds_toArray, List.set_cons_zero, List.set_cons_succ]
            refine tkYes 11 (v := ?_) rfl (by kernel_rfl) (fun _ _ _ h => h) rfl ?_ hS ?_
            rotate_left
            · intro W hW; go_simp; (try with_reducible rfl)
            simp only [Act.put, List.setIfInBounds_toArray, List.set_cons_zero, List.set_cons_succ]
            refine tkYes 12 (v := ?_) rfl (by kernel_rfl) (fun _ _ _ h => h) rfl ?_ hS ?_
            rotate_left
            · intro W hW; go_simp; (try with_reducible rfl)
            simp only [Act.put, List.setIfInBounds_toArray, List.set_cons_zero, List.set_cons_succ]
            refine tkYes 13 (v := ?_) rfl (by kernel_rfl) (fun _ _ _ h => h) rfl ?_ hS ?_
            rotate_left
            · intro W hW; go_simp; (try with_reducible rfl)
            simp only [Act.put, List.setIfInBounds_toArray, List.set_cons_zero, List.set_cons_succ]
            refine tkYes 14 (v := ?_) rfl (by kernel_rfl) (fun _ _ _ h => h) rfl ?_ hS ?_
            rotate_left
            · intro W hW; obtain ⟨c0, c1, c2, c3, c4, c5, f5, hgl⟩ := lstep_cells (LQ.at_ (show LQ L w F2 q N (.slice (some ⟨b1, o1, none⟩) m c6) es [(g8, lleaseO a b t), (gs, lstepO o)] s1 W from hW) 1 rfl); go_simp; (try with_reducible rfl)
            simp only [Act.put, List.setIfInBounds_toArray, List.set_cons_zero, List.set_cons_succ]
            refine tkYes 15 (v := ?_) rfl (by kernel_rfl) (fun _ _ _ h => h) rfl ?_ hS ?_
            rotate_left
            · intro W hW; go_simp; (try with_reducible rfl)
            simp only [Act.put, List.setIfInBounds_toArray, List.set_cons_zero, List.set_cons_succ]
            refine tkYes 16 (v := ?_) rfl (by kernel_rfl) (fun _ _ _ h => h) rfl ?_ hS ?_
            rotate_left
            · intro W hW; obtain ⟨c0, c1, c2, c3, c4, c5, f5, hgl⟩ := lstep_cells (LQ.at_ (show LQ L w F2 q N (.slice (some ⟨b1, o1, none⟩) m c6) es [(g8, lleaseO a b t), (gs, lstepO o)] s1 W from hW) 1 rfl); go_simp; (try with_reducible rfl)
            simp only [Act.put, List.setIfInBounds_toArray, List.set_cons_zero, List.set_cons_succ]
            refine tkYes 17 (v := ?_) rfl (by kernel_rfl) (fun _ _ _ h => h) rfl ?_ hS ?_
            rotate_left
            · intro W hW; go_simp; (try with_reducible rfl)
            simp only [Act.put, List.setIfInBounds_toArray, List.set_cons_zero, List.set_cons_succ]
            refine tkYes 18 (v := ?_) rfl (by kernel_rfl) (fun _ _ _ h => h) rfl ?_ hS ?_
            rotate_left
            · intro W hW; go_simp; (try with_reducible rfl)
            simp only [Act.put, List.setIfInBounds_toArray, List.set_cons_zero, List.set_cons_succ]
            refine tkYes 19 (v := ?_) rfl (by kernel_rfl) (fun _ _ _ h => h) rfl ?_ hS ?_
            rotate_left
            · intro W hW; obtain ⟨c0, c1, c2, c3, c4, c5, f5, hgl⟩ := lstep_cells (LQ.at_ (show LQ L w F2 q N (.slice (some ⟨b1, o1, none⟩) m c6) es [(g8, lleaseO a b t), (gs, lstepO o)] s1 W from hW) 1 rfl); go_simp; (try with_reducible rfl)
            simp only [Act.put, List.setIfInBounds_toArray, List.set_cons_zero, List.set_cons_succ]
            refine tkYes 21 (v := ?_) rfl (by kernel_rfl) (fun _ _ _ h => h) rfl ?_ hS ?_
            rotate_left
            · intro W hW; go_simp; (try with_reducible rfl)
            simp only [Act.put, List.setIfInBounds_toArray, List.set_cons_zero, List.set_cons_succ]
            refine tkYes 22 (v := ?_) rfl (by kernel_rfl) (fun _ _ _ h => h) rfl ?_ hS ?_
            rotate_left
            · intro W hW; obtain ⟨c0, c1, c2, c3, c4, c5, f5, hgl⟩ := lstep_cells (LQ.at_ (show LQ L w F2 q N (.slice (some ⟨b1, o1, none⟩) m c6) es [(g8, lleaseO a b t), (gs, lstepO o)] s1 W from hW) 1 rfl); go_simp; (try with_reducible rfl)
            simp only [Act.put, List.setIfInBounds_toArray, List.set_cons_zero, List.set_cons_succ]
            refine tkYes 23 (v := ?_) rfl (by kernel_rfl) (fun _ _ _ h => h) rfl ?_ hS ?_
            rotate_left
            · intro W hW; go_simp; (try with_reducible rfl)
            simp only [Act.put, List.setIfInBounds_toArray, List.set_cons_zero, List.set_cons_succ]
            refine rnOne 20 rfl (by kernel_rfl) rfl (fun K hK => ?_)
            go_simp
            with_reducible refine (CH.out _ F2 s1 (LQ.la hS) _ _ OK.out.w BI.out).mono ?_
            rintro en wd ⟨⟨xx, rfl, hxx⟩, hbd⟩
            obtain rfl : xx = D := Bool.eq_iff_iff.2 (hxx.trans (HD.out.trans HDD.out.symm))
            have hS2 := LQ.on hC hS hbd
            clear hS hbd hxx
            have hS := hS2
            clear hS2
            refine hK.out _ _ hS (fun _ => ?_)
            clear hK K
            try simp only [Act.put, List.setIfInBounds_toArray, List.set_cons_zero, List.set_cons_succ]
            refine tkYes 24 (v := ?_) rfl (by kernel_rfl) (fun _ _ _ h => h) rfl ?_ hS ?_
            rotate_left
            · intro W hW; go_simp; (try with_reducible rfl)
            simp only [Act.put, List.setIfInBounds_toArray, List.set_cons_zero, List.set_cons_succ]
            refine tkYes 25 (v := ?_) rfl (by kernel_rfl) (fun _ _ _ h => h) rfl ?_ hS ?_
            rotate_left
            · intro W hW; go_simp; (try with_reducible rfl)
            simp only [Act.put, List.setIfInBounds_toArray, List.set_cons_zero, List.set_cons_succ]
            refine tkYes 26 (v := ?_) rfl (by kernel_rfl) (fun _ _ _ h => h) rfl ?_ hS ?_
            rotate_left
            · intro W hW; go_simp; (try with_reducible rfl)
            simp only [Act.put, List.setIfInBounds_toArray, List.set_cons_zero, List.set_cons_succ]
            refine tkYes 27 (v := ?_) rfl (by kernel_rfl) (fun _ _ _ h => h) rfl ?_ hS ?_
            rotate_left
            · intro W hW; go_simp; (try with_reducible rfl)
            simp only [Act.put, List.setIfInBounds_toArray, List.set_cons_zero, List.set_cons_succ]
            refine tkYes 28 (v := ?_) rfl (by kernel_rfl) (fun _ _ _ h => h) rfl ?_ hS ?_
            rotate_left
            · intro W hW; go_simp; (try with_reducible rfl)
            simp only [Act.put, List.setIfInBounds_toArray, List.set_cons_zero, List.set_cons_succ]
            refine tkYes 29 (v := ?_) rfl (by kernel_rfl) (fun _ _ _ h => h) rfl ?_ hS ?_
            rotate_left
            · intro W hW; go_simp; (try with_reducible rfl)
            simp only [Act.put, List.setIfInBounds_toArray, List.set_cons_zero, List.set_cons_succ]
            refine tkYes 30 (v := ?_) rfl (by kernel_rfl) (fun _ _ _ h => h) rfl ?_ hS ?_
            rotate_left
            · intro W hW; go_simp; (try with_reducible rfl)
            simp only [Act.put, List.setIfInBounds_toArray, List.set_cons_zero, List.set_cons_succ]
            refine tkNo 31 rfl (by kernel_rfl) (fun _ _ _ h => h) rfl hS ?_
            simp only [Act.put, List.setIfInBounds_toArray, List.set_cons_zero, List.set_cons_succ]
            refine tkYes 32 (v := ?_) rfl (by kernel_rfl) (fun _ _ _ h => h) rfl ?_ hS ?_
            rotate_left
            · intro W hW; go_simp; (try with_reducible rfl)
            simp only [Act.put, List.setIfInBounds_toArray, List.set_cons_zero, List.set_cons_succ]
            refine tkYes 33 (v := ?_) rfl (by kernel_rfl) (fun _ _ _ h => h) rfl ?_ hS ?_
            rotate_left
            · intro W hW; go_simp; (try with_reducible rfl)
            simp only [Act.put, List.setIfInBounds_toArray, List.set_cons_zero, List.set_cons_succ]
            refine wpAnyH_done (by kernel_rfl) ?_ _
            go_wp2_with fail
            go_meet
            case rel => exact ⟨s1, true, rfl, hS, FN.out, fun h => by cases h⟩
          · have hN := Ls.take_no (s := s) (k := o.name) (h := o.who) (now := o.now) (ttl := o.ttl) (by rw [hE]; omega)
            rw [hE, hN.1, hN.2] at CT
            clear hN hE
            go_upto_region 16 with (go_at_call 12; (with_reducible refine CT.out.mono ?_); rintro e w7 ⟨rfl, hp7⟩; have P7 := Lib.hid hp7; clear hp7)
            go_quiet (fail)
            go_wp2_with fail
            go_meet
            case rel => exact ⟨s, false, rfl, P7.out.on hC (below_drewN (Below.refl _ _) _), FS.out.more (by omega), fun _ => HB.out.symm⟩
          · have hN := Ls.take_no (s := s) (k := o.name) (h := o.who) (now := o.now) (ttl := o.ttl) (by rw [hE]; omega)
            rw [hE, hN.1, hN.2] at CT
            have hfr0 : fr = false := by
              cases fr with
              | false => rfl
              | true => exact absurd (FR.out.1 rfl) hf
            subst hfr0
            clear hN hE hf
            go_upto_region 16 with (go_at_call 12; (with_reducible refine CT.out.mono ?_); rintro e w7 ⟨rfl, hp7⟩; have P7 := Lib.hid hp7; clear hp7)
            go_quiet (fail)
            go_wp2_with fail
            go_meet
            case rel => exact ⟨s, false, rfl, P7.out.on hC (below_drewN (Below.refl _ _) _), FS.out.more (by omega), fun _ => HB.out.symm⟩
        · have CT := Lib.hid (lq_renew hC PK.out OK.out.s OK.out.w OK.out.e OK.out.n OK.out.t)
          have FN := Lib.hid (Ls.renew_few FS.out o.name o.who o.ep o.now o.ttl)
          have RC := Ls.renew_cases s o.name o.who o.ep o.now o.ttl
          rw [← HB.out, ← HT.out] at RC
          generalize Ls.renewS s o.name o.who o.ep o.now o.ttl = s1 at *
          generalize Ls.renewE s o.name o.who o.ep o.now o.ttl = E at *
          generalize Ls.renewN s o.name o.who o.ep o.now o.ttl = nn at *
          rcases RC with ⟨h0, rfl⟩ | ⟨rfl, h1, h2, h3⟩
          · have hE : ((E : Int) == 0) = false := by rw [beq_eq_false_iff_ne]; omega
            clear h0
            go_wp2_with (go_at_call 13; (with_reducible refine CT.out.mono ?_); rintro e w7 ⟨rfl, hp7⟩; have P7 := Lib.hid hp7; clear hp7)
            go_meet
            case rel => exact ⟨s1, false, rfl, P7.out, FS.out.more (by omega), fun _ => HB.out.symm⟩
          · have hn : decide (nn < t) = false := by rw [decide_eq_false_iff_not]; omega
            have H2 := Lib.hid h2
            have H3 := Lib.hid h3
            clear h1 h2 h3
            go_wp2_with (first
              | (go_at_call 13; (with_reducible refine CT.out.mono ?_); rintro e w7 ⟨rfl, hp7⟩; have P7 := Lib.hid hp7; clear c0 c1 c2 c3 c4 c5 f5 hgl hp7; obtain ⟨c0, c1, c2, c3, c4, c5, f5, hgl⟩ := lstep_cells (P7.out.at_ 1 rfl); obtain ⟨l0, l1, l2⟩ := llease_cells (P7.out.at_ 0 rfl))
              | (go_at_call 16; (with_reducible refine (CH.out _ F2 s1 P7.out.la _ _ OK.out.w OK.out.e).mono ?_); rintro e w9 ⟨⟨xx, rfl, hxx⟩, hb⟩; obtain rfl : xx = true := hxx.2 H2.out; have P9 := Lib.hid (P7.out.on hC hb); clear hb hxx))
            go_meet
            case rel => exact ⟨s1, false, rfl, P9.out, FN.out, fun _ => H3.out⟩
        · have CT := Lib.hid (lq_drop hC PK.out OK.out.s OK.out.w OK.out.e)
          have FN := Lib.hid (Ls.drop_few FS.out o.name o.who o.ep)
          have RC := Ls.drop_cases s o.name o.who o.ep o.now
          rw [← HB.out] at RC
          generalize Ls.dropS s o.name o.who o.ep = s1 at *
          generalize Ls.dropE s o.name o.who o.ep = E at *
          rcases RC with ⟨h0, rfl⟩ | ⟨rfl, h1, h2, h3⟩
          · have hE : ((E : Int) == 0) = false := by rw [beq_eq_false_iff_ne]; omega
            clear h0
            go_wp2_with (go_at_call 14; (with_reducible refine CT.out.mono ?_); rintro e w7 ⟨rfl, hp7⟩; have P7 := Lib.hid hp7; clear hp7)
            go_meet
            case rel => exact ⟨s1, false, rfl, P7.out, FS.out.more (by omega), fun _ => HB.out.symm⟩
          · have H1 := Lib.hid h1
            have H2 := Lib.hid h2
            have H3 := Lib.hid h3
            clear h1 h2 h3
            go_wp2_with (first
              | (go_at_call 14; (with_reducible refine CT.out.mono ?_); rintro e w7 ⟨rfl, hp7⟩; have P7 := Lib.hid hp7; clear c0 c1 c2 c3 c4 c5 f5 hgl hp7; obtain ⟨c0, c1, c2, c3, c4, c5, f5, hgl⟩ := lstep_cells (P7.out.at_ 1 rfl))
              | (go_at_call 17; (with_reducible refine (CF.out _ F2 s1 P7.out.la).mono ?_); rintro e w9 ⟨⟨xx, rfl, hxx⟩, hb⟩; obtain rfl : xx = true := hxx.2 H1.out; have P9 := Lib.hid (P7.out.on hC hb); clear c0 c1 c2 c3 c4 c5 f5 hgl hb hxx; obtain ⟨c0, c1, c2, c3, c4, c5, f5, hgl⟩ := lstep_cells (P9.out.at_ 1 rfl))
              | (go_at_call 16; (with_reducible refine (CH.out _ F2 s1 P9.out.la _ _ OK.out.w OK.out.e).mono ?_); rintro e w11 ⟨⟨xx, rfl, hxx⟩, hb⟩; obtain rfl : xx = false := by { cases xx with | false => rfl | true => exact absurd (hxx.1 rfl) H2.out }; have P11 := Lib.hid (P9.out.on hC hb); clear hb hxx))
            go_meet
            case rel => exact ⟨s1, false, rfl, P11.out, FN.out, fun _ => H3.out⟩
        · go_wp2_with fail
          go_meet
          case rel => exact ⟨s, false, rfl, PK.out, FS.out.more (by omega), fun _ => HB.out.symm⟩
      case rest =>
        obtain ⟨s', tk, rfl, hp', hfw', htk⟩ := hcut
        have PX := Lib.hid hp'
        have FX := Lib.hid hfw'
        have TK := Lib.hid htk
        clear hp' hfw' htk PK FS
        have CG1 := Lib.hid (CG.out _ F2 s' PX.out.la)
        obtain ⟨a2, ha⟩ : ∃ a, a = Ls.holderOf s'.l o.name := ⟨_, rfl⟩
        obtain ⟨b2, hb⟩ : ∃ b, b = Ls.epochOf s'.l o.name := ⟨_, rfl⟩
        obtain ⟨t2, ht⟩ : ∃ t, t = Ls.tillOf s'.l o.name := ⟨_, rfl⟩
        rw [← ha, ← hb, ← ht] at CG1
        rw [← hb] at TK
        clear ha hb ht
        obtain ⟨c0, c1, c2, c3, c4, c5, f5, hgl⟩ := lstep_cells (PX.out.at_ 1 rfl)
        have PE := Lib.hid (fun V (h : LQ L w F2 q N (.slice (some ⟨b1, o1, none⟩) m c6) es [(g8, lleaseO a b t), (gs, lstepO o)] s' V) => h.pop (fun b hb => FF2.out b (FF1.out b hb)) HV.out)
        go_upto_region 27 with (go_at_call 15; (with_reducible refine CG1.out.mono ?_); rintro e w8 ⟨rfl, hb⟩; have P8 := Lib.hid ((PX.out.on hC hb).on hC ((Below.refl w8.heap.size w8).alloc (Nat.le_refl _) (.cells #[.int .i64 a2, .int .i64 b2, .int .i64 t2] 36))); clear hb)
        have W8 : Hid ((w8.alloc (.cells #[.int .i64 a2, .int .i64 b2, .int .i64 t2] 36)).heap[w8.heap.size]? = some (lleaseO a2 b2 t2)) := heap_alloc_new w8 _
        obtain ⟨g9, hg9⟩ : ∃ g9, g9 = w8.heap.size := ⟨_, rfl⟩
        rw [← hg9] at W8 ⊢
        clear hg9 c0 c1 c2 c3 c4 c5 f5 hgl PX
        generalize w8.alloc (.cells #[.int .i64 a2, .int .i64 b2, .int .i64 t2] 36) = w9 at *
        obtain ⟨l0, l1, l2⟩ := llease_cells (P8.out.at_ 0 rfl)
        obtain ⟨k0, k1, k2⟩ := llease_cells W8.out
        cases tk with
        | true =>
          go_wp2_with fail
          exact ⟨⟨j + 1, s', by omega, by go_num, PE.out _ P8.out, FX.out⟩, by simp [intOf]; omega⟩
        | false =>
          obtain rfl : b2 = b := TK.out rfl
          go_wp2_with fail
          exact ⟨⟨j + 1, s', by omega, by go_num, PE.out _ P8.out, FX.out⟩, by simp [intOf]; omega⟩
    · go_wp2_with fail
      go_ret
      exact ⟨rfl, P.out.la.below⟩
end Go.Proofs.Ytemnioijgkahcaa
