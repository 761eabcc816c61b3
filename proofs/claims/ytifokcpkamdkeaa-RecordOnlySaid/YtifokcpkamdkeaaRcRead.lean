/-
  The document's package of layer 10: Read. No condition.
-/
import Derived.Test.YtifokcpkamdkeaaRcDec
import Derived.Test.YtifokcpkamdkeaaRcReads0
import Derived.Test.YtifokcpkamdkeaaSpRef4
import Derived.Test.YtifokcpkamdkeaaCdcGetList
import Derived.Laws.ResultCell
import Derived.Laws.CopyOwn
import Derived.Deep.CutBlock
import Derived.Deep.DeepCutAuto
import Derived.Deep.MidRow
namespace Go.Proofs.Ytifokcpkamdkeaa
open Go.RowKit Cdc
set_option linter.unusedSimpArgs false
set_option linter.unusedVariables false

theorem rc_results {fn : Func} {p u : Tmp} (h : fn.results = #[.cell p 28, .tmp u]) (tmps : Array Value) (w : World) (g : Nat) (r : Rc.R) (hp : tmps.getD p undef = .pointer (some ⟨g, 0, none⟩)) (hg : RcAt w g r) :
    (results fn tmps).run Try.prog w = .ok (.tuple #[.agg (Rc.cells r), tmps.getD u undef]) w := by
  rw [results_cell_tmp h, hp]
  have := run_loadVar_row (P := Try.prog) w g 28 28 (Rc.cells r) (0, 0) _ hg.row rec_fields rfl (rec_size r)
  simp [asAddr, this, Result.andThen]
theorem rc_set {w : World} {g : Nat} {o : Rc.R} (h : RcAt w g o) (o' : Rc.R) (k : Nat) (v : Value) (he : (Rc.cells o).setIfInBounds k v = Rc.cells o') : RcAt (w.setCell ⟨g, k, none⟩ v) g o' := ⟨by rw [← he]; exact heap_setCell_same w g k _ _ _ h.row⟩
theorem rc_far {w : World} {a g : Nat} {o : Rc.R} (h : RcAt w a o) (hne : a ≠ g) (k : Nat) (v : Value) : RcAt (w.setCell ⟨g, k, none⟩ v) a o := ⟨((grown_set w g k v).block a h.cs.lt (by simp; exact hne)).trans h.row⟩
theorem next_far {w : World} {a g n c : Nat} {A : Option Addr} {e : Int} (h : NextAt w a A n c e) (hne : a ≠ g) (k : Nat) (v : Value) : NextAt (w.setCell ⟨g, k, none⟩ v) a A n c e := h.kept (grown_set w g k v) (by simp; exact hne)
set_option maxRecDepth 100000 in
set_option maxHeartbeats 6400000 in
theorem rcread_any : RdC := by
  intro W A n c l h hn
  obtain rfl : n = l.length := h.len
  have HL : Hid (l.length ≤ 1000) := hn
  have SL := Lib.hid h
  have OK0 : Hid (Okay ⟨l, 0⟩) := ⟨h.rd.1, fun h => absurd rfl h⟩
  obtain ⟨g2, hg2⟩ : ∃ g2, g2 = W.heap.size := ⟨_, rfl⟩
  obtain ⟨g4, hg4⟩ : ∃ g4, g4 = g2 + 1 := ⟨_, rfl⟩
  have E1 : (W.alloc (.cells #[.int .i64 0, .int .i64 0, .int .i64 0, .int .i64 0, .int .i64 0, .string ⟨#[]⟩, .int .i64 0, .int .i64 0, .int .i64 0, .int .i64 0, .int .i64 0, .int .i64 0, .int .i64 0, .int .i64 0, .int .i64 0, .int .i64 0, .int .i64 0, .int .i64 0] 28)).heap.size = g4 := by rw [hg4, hg2]; simp
  have X0 : NextAt ((W.alloc (.cells #[.int .i64 0, .int .i64 0, .int .i64 0, .int .i64 0, .int .i64 0, .string ⟨#[]⟩, .int .i64 0, .int .i64 0, .int .i64 0, .int .i64 0, .int .i64 0, .int .i64 0, .int .i64 0, .int .i64 0, .int .i64 0, .int .i64 0, .int .i64 0, .int .i64 0] 28)).alloc (.cells #[.slice A l.length c, .int .i64 0] 53)) g4 A l.length c 0 := by
    have := heap_alloc_new (W.alloc (.cells #[.int .i64 0, .int .i64 0, .int .i64 0, .int .i64 0, .int .i64 0, .string ⟨#[]⟩, .int .i64 0, .int .i64 0, .int .i64 0, .int .i64 0, .int .i64 0, .int .i64 0, .int .i64 0, .int .i64 0, .int .i64 0, .int .i64 0, .int .i64 0, .int .i64 0] 28)) (.cells #[.slice A l.length c, .int .i64 0] 53)
    rw [E1] at this
    exact this
  have BA := (Below.refl W.heap.size W).alloc (Nat.le_refl _) (.cells #[.int .i64 0, .int .i64 0, .int .i64 0, .int .i64 0, .int .i64 0, .string ⟨#[]⟩, .int .i64 0, .int .i64 0, .int .i64 0, .int .i64 0, .int .i64 0, .int .i64 0, .int .i64 0, .int .i64 0, .int .i64 0, .int .i64 0, .int .i64 0, .int .i64 0] 28)
  have BB := (Below.refl (W.alloc (.cells #[.int .i64 0, .int .i64 0, .int .i64 0, .int .i64 0, .int .i64 0, .string ⟨#[]⟩, .int .i64 0, .int .i64 0, .int .i64 0, .int .i64 0, .int .i64 0, .int .i64 0, .int .i64 0, .int .i64 0, .int .i64 0, .int .i64 0, .int .i64 0, .int .i64 0] 28)).heap.size (W.alloc (.cells #[.int .i64 0, .int .i64 0, .int .i64 0, .int .i64 0, .int .i64 0, .string ⟨#[]⟩, .int .i64 0, .int .i64 0, .int .i64 0, .int .i64 0, .int .i64 0, .int .i64 0, .int .i64 0, .int .i64 0, .int .i64 0, .int .i64 0, .int .i64 0, .int .i64 0] 28))).alloc (Nat.le_refl _) (.cells #[.slice A l.length c, .int .i64 0] 53)
  have R0 : RcAt ((W.alloc (.cells #[.int .i64 0, .int .i64 0, .int .i64 0, .int .i64 0, .int .i64 0, .string ⟨#[]⟩, .int .i64 0, .int .i64 0, .int .i64 0, .int .i64 0, .int .i64 0, .int .i64 0, .int .i64 0, .int .i64 0, .int .i64 0, .int .i64 0, .int .i64 0, .int .i64 0] 28)).alloc (.cells #[.slice A l.length c, .int .i64 0] 53)) g2 Rc.none_ := by
    have h1 : RcAt (W.alloc (.cells #[.int .i64 0, .int .i64 0, .int .i64 0, .int .i64 0, .int .i64 0, .string ⟨#[]⟩, .int .i64 0, .int .i64 0, .int .i64 0, .int .i64 0, .int .i64 0, .int .i64 0, .int .i64 0, .int .i64 0, .int .i64 0, .int .i64 0, .int .i64 0, .int .i64 0] 28)) W.heap.size Rc.none_ := ⟨heap_alloc_new W _⟩
    rw [hg2]
    exact h1.on BB
  have BX := BA.trans (BB.mono BA.size)
  have SX : ((W.alloc (.cells #[.int .i64 0, .int .i64 0, .int .i64 0, .int .i64 0, .int .i64 0, .string ⟨#[]⟩, .int .i64 0, .int .i64 0, .int .i64 0, .int .i64 0, .int .i64 0, .int .i64 0, .int .i64 0, .int .i64 0, .int .i64 0, .int .i64 0, .int .i64 0, .int .i64 0] 28)).alloc (.cells #[.slice A l.length c, .int .i64 0] 53)).heap.size = g4 + 1 := by simp; omega
  go_enter Try.func8, Try.ntmps8
  go_upto_region 3 with fail
  have EN : (W.alloc (.cells #[.int .i64 0, .int .i64 0, .int .i64 0, .int .i64 0, .int .i64 0, .string ⟨#[]⟩, .int .i64 0, .int .i64 0, .int .i64 0, .int .i64 0, .int .i64 0, .int .i64 0, .int .i64 0, .int .i64 0, .int .i64 0, .int .i64 0, .int .i64 0, .int .i64 0] 28)).heap.size = g4 := E1
  simp only [World.size_alloc, ← hg2, ← hg4] at ⊢
  clear EN E1 BA BB
  generalize (W.alloc (.cells #[.int .i64 0, .int .i64 0, .int .i64 0, .int .i64 0, .int .i64 0, .string ⟨#[]⟩, .int .i64 0, .int .i64 0, .int .i64 0, .int .i64 0, .int .i64 0, .int .i64 0, .int .i64 0, .int .i64 0, .int .i64 0, .int .i64 0, .int .i64 0, .int .i64 0] 28)).alloc (.cells #[.slice A l.length c, .int .i64 0] 53) = X at *
  have HG2 : Hid (W.heap.size ≤ g2 ∧ W.heap.size ≤ g4 ∧ g2 ≠ g4 ∧ g2 < X.heap.size) := ⟨by omega, by omega, by omega, by omega⟩
  clear hg2 hg4 h hn
  have X1 := Lib.hid X0
  have R1 := Lib.hid R0
  have BW0 := Lib.hid BX
  have SX1 := Lib.hid SX
  clear X0 R0 BX SX
  go_wp2_with fail
  go_loopw [5, 6] (fun v i wr => ∃ (k : Nat) (A2 : Option Addr) (c2 : Nat), i = .int .i64 k ∧ k ≤ 5 ∧ OwnI wr (g4 + 1) v (nI (numsV ⟨l, 0⟩ k)) ∧ NextAt wr g4 A2 (numsAt ⟨l, 0⟩ k).l.length c2 (numsAt ⟨l, 0⟩ k).e ∧ Sl W A2 (numsAt ⟨l, 0⟩ k).l.length c2 (numsAt ⟨l, 0⟩ k).l ∧ X.grownBy wr (some g4)) (fun _ i _ => 5 - (intOf i).toNat)
  case atStart => exact ⟨0, A, c, rfl, by omega, World.ownsRow_nil _ _ _ _, X1.out, SL.out, World.grownBy.refl _ _⟩
  case round =>
    obtain ⟨k, A2, c2, rfl, hk, ho, hnx, hs2, hgr⟩ := hrel
    have O := Lib.hid ho; clear ho
    have NX := Lib.hid hnx; clear hnx
    have S2 := Lib.hid hs2; clear hs2
    have GG := Lib.hid hgr; clear hgr
    clear X1
    have BW := Lib.hid (BW0.out.grown GG.out BW0.out.size (fun i hi => by injection hi with hi; have := HG2.out; omega))
    have HS : Hid (g4 + 1 ≤ wr.heap.size) := by show _ ≤ _; have := GG.out.size; rw [SX1.out] at this; exact this
    obtain ⟨f1, f2, f3, f4⟩ := NX.out.facts
    by_cases hlt : k < 5
    · have NB := Lib.hid (refNum_any W A2 c2 (numsAt ⟨l, 0⟩ k) wr S2.out BW.out (OK0.out.numsAt k) (Nat.le_trans (nums_len ⟨l, 0⟩ k) (Nat.le_trans HL.out (by omega))))
      have HX : Hid (nI (numsV ⟨l, 0⟩ (k + 1)) = nI (numsV ⟨l, 0⟩ k) ++ [((numV (numsAt ⟨l, 0⟩ k) : Nat) : Int)]) := nI_snoc _ _
      have HLN : Hid ((nI (numsV ⟨l, 0⟩ k)).length = k) := by show _ = _; rw [nI_length, numsV_length]
      have HT : Hid (num (numsAt ⟨l, 0⟩ k) = numsAt ⟨l, 0⟩ (k + 1)) := rfl
      rw [HT.out] at NB
      generalize numV (numsAt ⟨l, 0⟩ k) = x at *
      generalize (numsAt ⟨l, 0⟩ k).e = e2 at *
      go_wp2_with fail
      (with_reducible refine NB.out.mono ?_)
      rintro e w2 ⟨A3, c3, rfl, hs3, hb3⟩
      have S3 := Lib.hid hs3; clear hs3
      have NX2 := Lib.hid (NX.out.kept (grown_below none hb3) (by simp))
      have O2 := Lib.hid (OwnI.below O.out hb3)
      have GG2 := Lib.hid (grown_trans GG.out (grown_below (some g4) hb3))
      have HS2 := Lib.hid (Nat.le_trans HS.out hb3.size)
      clear hb3 f1 f2 f3 f4
      obtain ⟨f1, f2, f3, f4⟩ := NX2.out.facts
      have gz : g4 < w2.heap.size := by have := HS2.out; omega
      obtain ⟨e3, he3⟩ : ∃ e3, e3 = (numsAt ⟨l, 0⟩ (k + 1)).e := ⟨_, rfl⟩
      rw [← he3]
      obtain ⟨y, hy⟩ : ∃ y, y = (w2.setCell ⟨g4, 0, none⟩ (.slice A3 (numsAt ⟨l, 0⟩ (k + 1)).l.length c3)).setCell ⟨g4, 1, none⟩ (.int .i64 e3) := ⟨_, rfl⟩
      have NY : Hid (NextAt y g4 A3 (numsAt ⟨l, 0⟩ (k + 1)).l.length c3 e3) := by rw [hy]; exact NX2.out.set
      have GY : Hid (X.grownBy y (some g4)) := by rw [hy]; exact grown_trans GG2.out (grown_trans (grown_set _ _ _ _) (grown_set _ _ _ _))
      have OY0 := own_set2 (g := g4) O2.out (by omega) (.slice A3 (numsAt ⟨l, 0⟩ (k + 1)).l.length c3) (.int .i64 e3)
      rw [← hy] at OY0
      have OY := Lib.hid OY0; clear OY0
      have SY0 : y.heap.size = w2.heap.size := by rw [hy]; simp [World.setCell]
      have SY := Lib.hid SY0; clear SY0
      have HY := Lib.hid hy; clear hy
      have HE3 := Lib.hid he3; clear he3
      go_wp2_with (at_builtin; rw [← HY.out]; refine wpList_append_numz rfl (.tmp 28) (.tmp 30) rfl (g4 + 1) _ _ rfl (OwnI.alloc OY.out _) _ (w2.heap.size + 1) (by rw [← SY.out]; simp) rfl (by rw [HLN.out]; omega) (by have := HS2.out; have := SY.out; simp; omega) ?_; intro v5 w5 ho5 hg5; have O5 := Lib.hid ho5; have G5 := Lib.hid hg5; clear ho5 hg5)
      have G6 := Lib.hid (grown_trans (World.grownBy_alloc y _ _) G5.out)
      refine ⟨⟨k + 1, A3, c3, by go_num, by omega, by rw [HX.out]; exact O5.out, ?_, S3.out, ?_⟩, by simp [intOf]; omega⟩
      · rw [← HE3.out]
        exact NY.out.kept G6.out (fun e2 => by have := own_base OY.out g4 e2.symm; omega)
      · exact grown_other GY.out G6.out (fun i hi => by have := own_base OY.out i hi; rw [SX1.out]; exact this)
    · obtain rfl : k = 5 := by omega
      have RX : RcAt wr g2 Rc.none_ := ⟨(GG.out.block g2 HG2.out.2.2.2 (by simp; have := HG2.out.2.2.1; omega)).trans R1.out.row⟩
      have OKK := Lib.hid (OK0.out.numsAt 5)
      have LK : Hid ((numsAt ⟨l, 0⟩ 5).l.length ≤ 1000) := Nat.le_trans (nums_len ⟨l, 0⟩ 5) HL.out
      have VL : Hid ((nI (numsV ⟨l, 0⟩ 5)).length = 5) := by show _ = _; rw [nI_length, numsV_length]
      have EK1 : Hid (numsAt ⟨l, 0⟩ 5 = Rc.k1 l) := rfl
      have EV1 : Hid (nI (numsV ⟨l, 0⟩ 5) = Rc.v1 l) := rfl
      rw [EK1.out] at NX S2 OKK LK
      rw [EV1.out] at O VL
      obtain ⟨AL, cL, hv, hsl⟩ := OwnI.sl O.out
      subst hv
      rw [VL.out] at hsl
      have SI := Lib.hid hsl
      have CT := Lib.hid (refText_get W A2 c2 (Rc.k1 l) wr S2.out BW.out OKK.out (Nat.le_trans LK.out (by omega)))
      have ET : Hid (text (Rc.k1 l) = Rc.k2 l) := rfl
      have ETV : Hid (txt (textV (Rc.k1 l)) = Rc.t2 l) := rfl
      have OK2 : Hid (Okay (Rc.k2 l)) := rc_okay_text OKK.out
      have LK2 : Hid ((Rc.k2 l).l.length ≤ 1000) := Nat.le_trans (text_less _) LK.out
      rw [ET.out, ETV.out] at CT
      have RX1 := Lib.hid RX
      clear hsl RX O hlt hk
      rw [EK1.out] at f1 f2
      go_upto_region 10 with ((with_reducible refine CT.out.mono ?_); rintro e w3 ⟨A3, c3, rfl, hs3, hb3⟩; have S3 := Lib.hid hs3; have SI3 := Lib.hid (SI.out.on hb3); have RX3 := Lib.hid (RX1.out.on hb3); have B3 := Lib.hid (BW.out.trans (hb3.mono BW.out.size)); clear hs3 hb3)
      have N9 : Hid (NextAt (w3.alloc (.cells #[.slice A3 (Rc.k2 l).l.length c3, .int .i64 (Rc.k2 l).e] 53)) w3.heap.size A3 (Rc.k2 l).l.length c3 (Rc.k2 l).e) := heap_alloc_new w3 _
      have BN := (Below.refl w3.heap.size w3).alloc (Nat.le_refl _) (.cells #[.slice A3 (Rc.k2 l).l.length c3, .int .i64 (Rc.k2 l).e] 53)
      have SI4 := Lib.hid (SI3.out.on BN)
      have RX4 := Lib.hid (RX3.out.on BN)
      have B4 := Lib.hid (B3.out.trans (BN.mono B3.out.size))
      have Z4 : Hid (w3.heap.size < (w3.alloc (.cells #[.slice A3 (Rc.k2 l).l.length c3, .int .i64 (Rc.k2 l).e] 53)).heap.size) := N9.out.lt
      obtain ⟨g9, hg9⟩ : ∃ g9, g9 = w3.heap.size := ⟨_, rfl⟩
      rw [← hg9] at N9 Z4 ⊢
      have G9 : Hid (W.heap.size ≤ g9) := by show _ ≤ _; have := B3.out.size; omega
      have G29 : Hid (g2 < g9) := by show _ < _; have := HG2.out; have := RX3.out.cs.lt; rw [hg9]; exact this
      clear BN hg9 f1 f2 f3 f4 SI SI3 RX1 RX3 B3 NX S2 GG HS
      generalize w3.alloc (.cells #[.slice A3 (Rc.k2 l).l.length c3, .int .i64 (Rc.k2 l).e] 53) = w4 at *
      obtain ⟨b, o, hA, hb, hc⟩ := SI4.out.rd (by have := SI4.out.len; omega)
      subst hA
      have HB := Lib.hid hb
      have HC := Lib.hid hc
      clear hb hc
      have hcap := SI4.out.cap
      have VL5 : Hid ((Rc.v1 l).length = 5) := VL.out
      have HD : Hid (∀ Wx, Below w4.heap.size w4 Wx → Wx.cell? ⟨b, o, none⟩ = some (.int .i64 ((Rc.v1 l).getD 0 0)) ∧ Wx.cell? ⟨b, o + 1, none⟩ = some (.int .i64 ((Rc.v1 l).getD 1 0)) ∧ Wx.cell? ⟨b, o + 2, none⟩ = some (.int .i64 ((Rc.v1 l).getD 2 0)) ∧ Wx.cell? ⟨b, o + 3, none⟩ = some (.int .i64 ((Rc.v1 l).getD 3 0)) ∧ Wx.cell? ⟨b, o + 4, none⟩ = some (.int .i64 ((Rc.v1 l).getD 4 0))) := fun Wx hx => by
        have hl5 := VL5.out
        exact ⟨(hx.cell (p := ⟨b, o, none⟩) HB.out).trans (HC.out 0 (by omega)), (hx.cell (p := ⟨b, o + 1, none⟩) HB.out).trans (HC.out 1 (by omega)), (hx.cell (p := ⟨b, o + 2, none⟩) HB.out).trans (HC.out 2 (by omega)), (hx.cell (p := ⟨b, o + 3, none⟩) HB.out).trans (HC.out 3 (by omega)), (hx.cell (p := ⟨b, o + 4, none⟩) HB.out).trans (HC.out 4 (by omega))⟩
      clear HC HB
      rw [VL5.out]
      go_cut [11] (fun s11 wx => ∃ g11, s11 = .pointer (some ⟨g11, 0, none⟩) ∧ RcAt wx g11 ⟨(Rc.v1 l).getD 0 0, (Rc.v1 l).getD 1 0, (Rc.v1 l).getD 2 0, (Rc.v1 l).getD 3 0, (Rc.v1 l).getD 4 0, Rc.t2 l, Spc.zero⟩ ∧ w4.heap.size ≤ g11 ∧ Below w4.heap.size w4 wx)
      case first =>
        refine wp_region_held_drew (S := fun W => Below w4.heap.size w4 W) (by kernel_rfl) (Below.refl w4.heap.size w4).drew (fun hS => ?_)
        refine tkYes 0 (v := ?_) rfl (by kernel_rfl) (fun _ _ _ h => h) rfl ?_ hS ?_
        rotate_left
        · intro W hW; go_simp; (try with_reducible rfl)
        simp only [Act.put, List.setIfInBounds_toArray, List.set_cons_zero, List.set_cons_succ]
        refine tkYes 1 (v := ?_) rfl (by kernel_rfl) (fun _ _ _ h => h) rfl ?_ hS ?_
        rotate_left
        · intro W hW; go_simp; (try with_reducible rfl)
        simp only [Act.put, List.setIfInBounds_toArray, List.set_cons_zero, List.set_cons_succ]
        refine tkYes 2 (v := ?_) rfl (by kernel_rfl) (fun _ _ _ h => h) rfl ?_ hS ?_
        rotate_left
        · intro W hW; obtain ⟨e0, e1, e2, e3, e4⟩ := HD.out W hW; go_simp; (try with_reducible rfl)
        simp only [Act.put, List.setIfInBounds_toArray, List.set_cons_zero, List.set_cons_succ]
        refine tkYes 3 (v := ?_) rfl (by kernel_rfl) (fun _ _ _ h => h) rfl ?_ hS ?_
        rotate_left
        · intro W hW; go_simp; (try with_reducible rfl)
        simp only [Act.put, List.setIfInBounds_toArray, List.set_cons_zero, List.set_cons_succ]
        refine tkYes 4 (v := ?_) rfl (by kernel_rfl) (fun _ _ _ h => h) rfl ?_ hS ?_
        rotate_left
        · intro W hW; go_simp; (try with_reducible rfl)
        simp only [Act.put, List.setIfInBounds_toArray, List.set_cons_zero, List.set_cons_succ]
        refine tkYes 5 (v := ?_) rfl (by kernel_rfl) (fun _ _ _ h => h) rfl ?_ hS ?_
        rotate_left
        · intro W hW; obtain ⟨e0, e1, e2, e3, e4⟩ := HD.out W hW; go_simp; (try with_reducible rfl)
        simp only [Act.put, List.setIfInBounds_toArray, List.set_cons_zero, List.set_cons_succ]
        refine tkYes 6 (v := ?_) rfl (by kernel_rfl) (fun _ _ _ h => h) rfl ?_ hS ?_
        rotate_left
        · intro W hW; go_simp; (try with_reducible rfl)
        simp only [Act.put, List.setIfInBounds_toArray, List.set_cons_zero, List.set_cons_succ]
        refine tkYes 7 (v := ?_) rfl (by kernel_rfl) (fun _ _ _ h => h) rfl ?_ hS ?_
        rotate_left
        · intro W hW; go_simp; (try with_reducible rfl)
        simp only [Act.put, List.setIfInBounds_toArray, List.set_cons_zero, List.set_cons_succ]
        refine tkYes 8 (v := ?_) rfl (by kernel_rfl) (fun _ _ _ h => h) rfl ?_ hS ?_
        rotate_left
        · intro W hW; obtain ⟨e0, e1, e2, e3, e4⟩ := HD.out W hW; go_simp; (try with_reducible rfl)
        simp only [Act.put, List.setIfInBounds_toArray, List.set_cons_zero, List.set_cons_succ]
        refine tkYes 9 (v := ?_) rfl (by kernel_rfl) (fun _ _ _ h => h) rfl ?_ hS ?_
        rotate_left
        · intro W hW; go_simp; (try with_reducible rfl)
        simp only [Act.put, List.setIfInBounds_toArray, List.set_cons_zero, List.set_cons_succ]
        refine tkYes 10 (v := ?_) rfl (by kernel_rfl) (fun _ _ _ h => h) rfl ?_ hS ?_
        rotate_left
        · intro W hW; go_simp; (try with_reducible rfl)
        simp only [Act.put, List.setIfInBounds_toArray, List.set_cons_zero, List.set_cons_succ]
        refine tkYes 11 (v := ?_) rfl (by kernel_rfl) (fun _ _ _ h => h) rfl ?_ hS ?_
        rotate_left
        · intro W hW; obtain ⟨e0, e1, e2, e3, e4⟩ := HD.out W hW; go_simp; (try with_reducible rfl)
        simp only [Act.put, List.setIfInBounds_toArray, List.set_cons_zero, List.set_cons_succ]
        refine tkYes 12 (v := ?_) rfl (by kernel_rfl) (fun _ _ _ h => h) rfl ?_ hS ?_
        rotate_left
        · intro W hW; go_simp; (try with_reducible rfl)
        simp only [Act.put, List.setIfInBounds_toArray, List.set_cons_zero, List.set_cons_succ]
        refine tkYes 13 (v := ?_) rfl (by kernel_rfl) (fun _ _ _ h => h) rfl ?_ hS ?_
        rotate_left
        · intro W hW; go_simp; (try with_reducible rfl)
        simp only [Act.put, List.setIfInBounds_toArray, List.set_cons_zero, List.set_cons_succ]
        refine tkYes 14 (v := ?_) rfl (by kernel_rfl) (fun _ _ _ h => h) rfl ?_ hS ?_
        rotate_left
        · intro W hW; obtain ⟨e0, e1, e2, e3, e4⟩ := HD.out W hW; go_simp; (try with_reducible rfl)
        simp only [Act.put, List.setIfInBounds_toArray, List.set_cons_zero, List.set_cons_succ]
        refine tkYes 15 (v := ?_) rfl (by kernel_rfl) (fun _ _ _ h => h) rfl ?_ hS ?_
        rotate_left
        · intro W hW; go_simp; (try with_reducible rfl)
        simp only [Act.put, List.setIfInBounds_toArray, List.set_cons_zero, List.set_cons_succ]
        refine tkYes 16 (v := .agg (Rc.cells ⟨(Rc.v1 l).getD 0 0, (Rc.v1 l).getD 1 0, (Rc.v1 l).getD 2 0, (Rc.v1 l).getD 3 0, (Rc.v1 l).getD 4 0, Rc.t2 l, Spc.zero⟩)) rfl (by kernel_rfl) (fun _ _ _ h => h) rfl ?_ hS ?_
        · intro W hW; go_simp; rfl
        simp only [Act.put, List.setIfInBounds_toArray, List.set_cons_zero, List.set_cons_succ]
        refine rnOne 17 rfl (by kernel_rfl) rfl (fun K hK => ?_)
        go_simp
        have hZ : RcAt (w4.alloc (.cells #[.int .i64 0, .int .i64 0, .int .i64 0, .int .i64 0, .int .i64 0, .string ⟨#[]⟩, .int .i64 0, .int .i64 0, .int .i64 0, .int .i64 0, .int .i64 0, .int .i64 0, .int .i64 0, .int .i64 0, .int .i64 0, .int .i64 0, .int .i64 0, .int .i64 0] 28)).drew w4.heap.size Rc.none_ := ⟨heap_alloc_new w4 _⟩
        have hS2 : Below w4.heap.size w4 (w4.alloc (.cells #[.int .i64 0, .int .i64 0, .int .i64 0, .int .i64 0, .int .i64 0, .string ⟨#[]⟩, .int .i64 0, .int .i64 0, .int .i64 0, .int .i64 0, .int .i64 0, .int .i64 0, .int .i64 0, .int .i64 0, .int .i64 0, .int .i64 0, .int .i64 0, .int .i64 0] 28)).drew := ((Below.refl w4.heap.size w4).alloc (Nat.le_refl _) _).drew
        obtain ⟨go, hgo⟩ : ∃ go, go = w4.heap.size := ⟨_, rfl⟩
        rw [← hgo] at hZ
        rw [← hgo]
        generalize (w4.alloc (.cells #[.int .i64 0, .int .i64 0, .int .i64 0, .int .i64 0, .int .i64 0, .string ⟨#[]⟩, .int .i64 0, .int .i64 0, .int .i64 0, .int .i64 0, .int .i64 0, .int .i64 0, .int .i64 0, .int .i64 0, .int .i64 0, .int .i64 0, .int .i64 0, .int .i64 0] 28)).drew = W3 at hZ hS2 ⊢
        have HZ := Lib.hid hZ
        have HGO := Lib.hid hgo
        clear hS hZ hgo
        have hS := hS2
        clear hS2
        refine hK.out _ _ hS (fun _ => ?_)
        clear hK K
        try simp only [Act.put, List.setIfInBounds_toArray, List.set_cons_zero, List.set_cons_succ]
        refine rnOne 18 rfl (by kernel_rfl) rfl (fun K hK => ?_)
        refine wp_store_row 28 (.tmp 11) (.tmp 53) rfl go (Rc.cells ⟨(Rc.v1 l).getD 0 0, (Rc.v1 l).getD 1 0, (Rc.v1 l).getD 2 0, (Rc.v1 l).getD 3 0, (Rc.v1 l).getD 4 0, Rc.t2 l, Spc.zero⟩) rfl rfl 28 _ HZ.out.row (rec_size _) rfl (Rc.one_cell _) ?_
        have hR : RcAt (W3.setRow go (Rc.cells ⟨(Rc.v1 l).getD 0 0, (Rc.v1 l).getD 1 0, (Rc.v1 l).getD 2 0, (Rc.v1 l).getD 3 0, (Rc.v1 l).getD 4 0, Rc.t2 l, Spc.zero⟩)) go ⟨(Rc.v1 l).getD 0 0, (Rc.v1 l).getD 1 0, (Rc.v1 l).getD 2 0, (Rc.v1 l).getD 3 0, (Rc.v1 l).getD 4 0, Rc.t2 l, Spc.zero⟩ := ⟨setRow_heap W3 go _ _ _ _ HZ.out.row⟩
        have hS2 : Below w4.heap.size w4 (W3.setRow go (Rc.cells ⟨(Rc.v1 l).getD 0 0, (Rc.v1 l).getD 1 0, (Rc.v1 l).getD 2 0, (Rc.v1 l).getD 3 0, (Rc.v1 l).getD 4 0, Rc.t2 l, Spc.zero⟩)) := below_setRow hS (Nat.le_of_eq HGO.out.symm) _
        have HR := Lib.hid hR
        clear hS hR
        have hS := hS2
        clear hS2
        generalize W3.setRow go (Rc.cells ⟨(Rc.v1 l).getD 0 0, (Rc.v1 l).getD 1 0, (Rc.v1 l).getD 2 0, (Rc.v1 l).getD 3 0, (Rc.v1 l).getD 4 0, Rc.t2 l, Spc.zero⟩) = W4 at *
        refine hK.out _ _ hS (fun _ => ?_)
        clear hK K
        try simp only [Act.put, List.setIfInBounds_toArray, List.set_cons_zero, List.set_cons_succ]
        refine wpAnyH_done (by kernel_rfl) ?_ _
        go_wp2_with fail
        go_meet
        case rel => exact ⟨go, rfl, HR.out, Nat.le_of_eq HGO.out.symm, hS⟩
      case rest =>
        obtain ⟨g11, rfl, hr11, hge, hb11⟩ := hcut
        obtain ⟨kd, hkd⟩ : ∃ kd, kd = (Rc.v1 l).getD 0 0 := ⟨_, rfl⟩
        obtain ⟨x1, hx1⟩ : ∃ x, x = (Rc.v1 l).getD 1 0 := ⟨_, rfl⟩
        obtain ⟨x2, hx2⟩ : ∃ x, x = (Rc.v1 l).getD 2 0 := ⟨_, rfl⟩
        obtain ⟨x3, hx3⟩ : ∃ x, x = (Rc.v1 l).getD 3 0 := ⟨_, rfl⟩
        obtain ⟨x4, hx4⟩ : ∃ x, x = (Rc.v1 l).getD 4 0 := ⟨_, rfl⟩
        have EDEC : Hid (Rc.dec l = ⟨kd, x1, x2, x3, x4, Rc.t2 l, Rc.s3 l⟩) := by rw [hkd, hx1, hx2, hx3, hx4]; rfl
        have EK3 : Hid (Rc.k3 l = if kd = 3 then list (Rc.k2 l) else Rc.k2 l) := by rw [hkd]; rfl
        have ES3 : Hid (Rc.s3 l = if kd = 3 then (if (listV (Rc.k2 l)).length = 12 then Spc.of (nI (listV (Rc.k2 l))) else Spc.zero) else Spc.zero) := by rw [hkd]; rfl
        rw [← hkd, ← hx1, ← hx2, ← hx3, ← hx4] at hr11
        clear hkd hx1 hx2 hx3 hx4 HD
        have R11 := Lib.hid hr11
        have N9c : Hid (NextAt wc g9 A3 (Rc.k2 l).l.length c3 (Rc.k2 l).e) := blk_at N9.out hb11
        have RXc := Lib.hid (RX4.out.on hb11)
        have Bc := Lib.hid (B4.out.trans (hb11.mono B4.out.size))
        have GE : Hid (g9 < g11 ∧ g11 < wc.heap.size ∧ g2 ≠ g9 ∧ g2 ≠ g11 ∧ W.heap.size ≤ g11 ∧ g2 < w4.heap.size) := by
          have h1 := Z4.out
          have h2 := hr11.cs.lt
          have h3 := RX4.out.cs.lt
          have h4 := BW.out.size
          have h5 := G9.out
          have h6 := B4.out.size
          have h7 : g2 < g9 := G29.out
          exact ⟨by omega, h2, by omega, by omega, by omega, h3⟩
        clear hr11 hge hb11 N9 RX4 B4 Z4 SI4
        obtain ⟨q0, _, _, _, _, _, _, _, _, _, _, _, _, _, _, _, _, _, _⟩ := R11.out.cs
        simp only at q0
        go_upto_if 56 with fail
        clear q0
        go_cut [] from 12 to 68 (fun wx => ∃ A9 c9, NextAt wx g9 A9 (Rc.k3 l).l.length c9 (Rc.k3 l).e ∧ Sl W A9 (Rc.k3 l).l.length c9 (Rc.k3 l).l ∧ RcAt wx g11 (Rc.dec l) ∧ RcAt wx g2 Rc.none_ ∧ Below W.heap.size W wx)
        case first =>
          obtain ⟨q0, q1, q2, q3, q4, q5, q6, q7, q8, q9, q10, q11, q12, q13, q14, q15, q16, q17, qlt⟩ := R11.out.cs
          simp only at q0
          by_cases hk : kd = 3
          · have hke : (kd == 3) = true := by rw [beq_iff_eq]; exact hk
            rw [if_pos hk] at EK3 ES3
            have CLS := Lib.hid (refList_get W A3 c3 (Rc.k2 l) wc S3.out Bc.out OK2.out (Nat.le_trans LK2.out (by omega)))
            unfold LPost at CLS
            rw [← EK3.out] at CLS
            obtain ⟨f1, f2, f3, f4⟩ := N9c.out.facts
            clear hk
            go_upto_region 13 with ((with_reducible refine CLS.out.mono ?_); rintro e w5 ⟨A5, k5, D, d, rfl, hs5, hd5, hb5, hfar⟩; have S5 := Lib.hid hs5; have SD5 := Lib.hid hd5; have FAR := Lib.hid hfar; have N95 := Lib.hid (blk_at N9c.out hb5); have R115 := Lib.hid (R11.out.on hb5); have RX5 := Lib.hid (RXc.out.on hb5); have B5 := Lib.hid (Bc.out.trans (hb5.mono Bc.out.size)); have Z5 := Lib.hid hb5.size; clear hs5 hd5 hb5 hfar)
            have N12 : NextAt (w5.alloc (.cells #[.slice A5 (Rc.k3 l).l.length k5, .int .i64 (Rc.k3 l).e] 53)) w5.heap.size A5 (Rc.k3 l).l.length k5 (Rc.k3 l).e := heap_alloc_new w5 _
            have BN := (Below.refl w5.heap.size w5).alloc (Nat.le_refl _) (.cells #[.slice A5 (Rc.k3 l).l.length k5, .int .i64 (Rc.k3 l).e] 53)
            have N96 : Hid (NextAt (w5.alloc (.cells #[.slice A5 (Rc.k3 l).l.length k5, .int .i64 (Rc.k3 l).e] 53)) g9 A3 (Rc.k2 l).l.length c3 (Rc.k2 l).e) := blk_at N95.out BN
            have R116 := Lib.hid (R115.out.on BN)
            have RX6 := Lib.hid (RX5.out.on BN)
            have SD6 := Lib.hid (SD5.out.on BN)
            have B6 := Lib.hid (B5.out.trans (BN.mono B5.out.size))
            obtain ⟨g12, hg12⟩ : ∃ g12, g12 = w5.heap.size := ⟨_, rfl⟩
            rw [← hg12] at N12 ⊢
            clear f1 f2 f3 f4 BN hg12 N95 R115 RX5 SD5 B5
            generalize w5.alloc (.cells #[.slice A5 (Rc.k3 l).l.length k5, .int .i64 (Rc.k3 l).e] 53) = w6 at *
            obtain ⟨f1, f2, f3, f4⟩ := N96.out.facts
            obtain ⟨j1, j2, j3, j4⟩ := N12.facts
            obtain ⟨y, hy⟩ : ∃ y, y = (w6.setCell ⟨g9, 0, none⟩ (.slice A5 (Rc.k3 l).l.length k5)).setCell ⟨g9, 1, none⟩ (.int .i64 (Rc.k3 l).e) := ⟨_, rfl⟩
            have GYS := grown_trans (grown_set w6 g9 0 (.slice A5 (Rc.k3 l).l.length k5)) (grown_set _ g9 1 (.int .i64 (Rc.k3 l).e))
            have NY : Hid (NextAt y g9 A5 (Rc.k3 l).l.length k5 (Rc.k3 l).e) := by rw [hy]; exact N96.out.set
            have R11y : Hid (RcAt y g11 ⟨kd, x1, x2, x3, x4, Rc.t2 l, Spc.zero⟩) := ⟨by rw [hy]; exact (GYS.block g11 R116.out.cs.lt (by simp; have := GE.out; omega)).trans R116.out.row⟩
            have RXy : Hid (RcAt y g2 Rc.none_) := ⟨by rw [hy]; exact (GYS.block g2 RX6.out.cs.lt (by simp; have := GE.out; omega)).trans RX6.out.row⟩
            have SDy : Hid (SlI y D (listV (Rc.k2 l)).length d (nI (listV (Rc.k2 l)))) := by rw [hy]; exact SD6.out.apart GYS (fun a ha => by have := FAR.out a ha; have := GE.out; omega)
            have By : Hid (Below W.heap.size W y) := by rw [hy]; exact B6.out.grown GYS B6.out.size (fun i hi => by injection hi with hi; have := G9.out; omega)
            go_upto_region 14 with fail
            rw [← hy]
            clear f1 f2 f3 f4 j1 j2 j3 j4 GYS hy N12 N96 R116 RX6 SD6 B6
            by_cases hl : (listV (Rc.k2 l)).length = 12
            · rw [if_pos hl] at ES3
              rw [hl] at SDy ⊢
              have CO := Lib.hid (rof_any d D _ y SDy.out)
              obtain ⟨gsp, hgsp⟩ : ∃ gsp, gsp = Spc.of (nI (listV (Rc.k2 l))) := ⟨_, rfl⟩
              rw [← hgsp] at CO ES3
              clear hgsp hl
              obtain ⟨pv, pd, pu, pn, pg, pa, pb, pc, pe, pw, px, pk⟩ := gsp
              unfold APos Spc.val Spc.cells at CO
              simp only at CO
              go_wp2_with ((with_reducible refine CO.out.mono ?_); rintro e w7 ⟨rfl, hb7⟩; have N7 := Lib.hid (blk_at NY.out hb7); have R7 := Lib.hid (R11y.out.on hb7); have RX7 := Lib.hid (RXy.out.on hb7); have B7 := Lib.hid (By.out.trans (hb7.mono By.out.size)); have Z7 := Lib.hid hb7.size; clear hb7; have hz := fun i => frozen_of_row w7 g11 i _ _ R7.out.row; obtain ⟨q0, q1, q2, q3, q4, q5, q6, q7, q8, q9, q10, q11, q12, q13, q14, q15, q16, q17, qlt⟩ := R7.out.cs)
              have R7 := Lib.hid (rc_set R7.out ⟨kd, x1, x2, x3, x4, Rc.t2 l, ⟨pv, 0, 0, 0, 0, 0, 0, 0, 0, 0, 0, 0⟩⟩ 6 (.int .i64 pv) rfl)
              have RX7 := Lib.hid (rc_far RX7.out (g := g11) (by have := GE.out; omega) 6 (.int .i64 pv))
              have N7 := Lib.hid (next_far N7.out (g := g11) (by have := GE.out; omega) 6 (.int .i64 pv))
              have B7 := Lib.hid (B7.out.setCell (p := ⟨g11, 6, none⟩) GE.out.2.2.2.2.1 (.int .i64 pv))
              have R7 := Lib.hid (rc_set R7.out ⟨kd, x1, x2, x3, x4, Rc.t2 l, ⟨pv, pd, 0, 0, 0, 0, 0, 0, 0, 0, 0, 0⟩⟩ 7 (.int .i64 pd) rfl)
              have RX7 := Lib.hid (rc_far RX7.out (g := g11) (by have := GE.out; omega) 7 (.int .i64 pd))
              have N7 := Lib.hid (next_far N7.out (g := g11) (by have := GE.out; omega) 7 (.int .i64 pd))
              have B7 := Lib.hid (B7.out.setCell (p := ⟨g11, 7, none⟩) GE.out.2.2.2.2.1 (.int .i64 pd))
              have R7 := Lib.hid (rc_set R7.out ⟨kd, x1, x2, x3, x4, Rc.t2 l, ⟨pv, pd, pu, 0, 0, 0, 0, 0, 0, 0, 0, 0⟩⟩ 8 (.int .i64 pu) rfl)
              have RX7 := Lib.hid (rc_far RX7.out (g := g11) (by have := GE.out; omega) 8 (.int .i64 pu))
              have N7 := Lib.hid (next_far N7.out (g := g11) (by have := GE.out; omega) 8 (.int .i64 pu))
              have B7 := Lib.hid (B7.out.setCell (p := ⟨g11, 8, none⟩) GE.out.2.2.2.2.1 (.int .i64 pu))
              have R7 := Lib.hid (rc_set R7.out ⟨kd, x1, x2, x3, x4, Rc.t2 l, ⟨pv, pd, pu, pn, 0, 0, 0, 0, 0, 0, 0, 0⟩⟩ 9 (.int .i64 pn) rfl)
              have RX7 := Lib.hid (rc_far RX7.out (g := g11) (by have := GE.out; omega) 9 (.int .i64 pn))
              have N7 := Lib.hid (next_far N7.out (g := g11) (by have := GE.out; omega) 9 (.int .i64 pn))
              have B7 := Lib.hid (B7.out.setCell (p := ⟨g11, 9, none⟩) GE.out.2.2.2.2.1 (.int .i64 pn))
              have R7 := Lib.hid (rc_set R7.out ⟨kd, x1, x2, x3, x4, Rc.t2 l, ⟨pv, pd, pu, pn, pg, 0, 0, 0, 0, 0, 0, 0⟩⟩ 10 (.int .i64 pg) rfl)
              have RX7 := Lib.hid (rc_far RX7.out (g := g11) (by have := GE.out; omega) 10 (.int .i64 pg))
              have N7 := Lib.hid (next_far N7.out (g := g11) (by have := GE.out; omega) 10 (.int .i64 pg))
              have B7 := Lib.hid (B7.out.setCell (p := ⟨g11, 10, none⟩) GE.out.2.2.2.2.1 (.int .i64 pg))
              have R7 := Lib.hid (rc_set R7.out ⟨kd, x1, x2, x3, x4, Rc.t2 l, ⟨pv, pd, pu, pn, pg, pa, 0, 0, 0, 0, 0, 0⟩⟩ 11 (.int .i64 pa) rfl)
              have RX7 := Lib.hid (rc_far RX7.out (g := g11) (by have := GE.out; omega) 11 (.int .i64 pa))
              have N7 := Lib.hid (next_far N7.out (g := g11) (by have := GE.out; omega) 11 (.int .i64 pa))
              have B7 := Lib.hid (B7.out.setCell (p := ⟨g11, 11, none⟩) GE.out.2.2.2.2.1 (.int .i64 pa))
              have R7 := Lib.hid (rc_set R7.out ⟨kd, x1, x2, x3, x4, Rc.t2 l, ⟨pv, pd, pu, pn, pg, pa, pb, 0, 0, 0, 0, 0⟩⟩ 12 (.int .i64 pb) rfl)
              have RX7 := Lib.hid (rc_far RX7.out (g := g11) (by have := GE.out; omega) 12 (.int .i64 pb))
              have N7 := Lib.hid (next_far N7.out (g := g11) (by have := GE.out; omega) 12 (.int .i64 pb))
              have B7 := Lib.hid (B7.out.setCell (p := ⟨g11, 12, none⟩) GE.out.2.2.2.2.1 (.int .i64 pb))
              have R7 := Lib.hid (rc_set R7.out ⟨kd, x1, x2, x3, x4, Rc.t2 l, ⟨pv, pd, pu, pn, pg, pa, pb, pc, 0, 0, 0, 0⟩⟩ 13 (.int .i64 pc) rfl)
              have RX7 := Lib.hid (rc_far RX7.out (g := g11) (by have := GE.out; omega) 13 (.int .i64 pc))
              have N7 := Lib.hid (next_far N7.out (g := g11) (by have := GE.out; omega) 13 (.int .i64 pc))
              have B7 := Lib.hid (B7.out.setCell (p := ⟨g11, 13, none⟩) GE.out.2.2.2.2.1 (.int .i64 pc))
              have R7 := Lib.hid (rc_set R7.out ⟨kd, x1, x2, x3, x4, Rc.t2 l, ⟨pv, pd, pu, pn, pg, pa, pb, pc, pe, 0, 0, 0⟩⟩ 14 (.int .i64 pe) rfl)
              have RX7 := Lib.hid (rc_far RX7.out (g := g11) (by have := GE.out; omega) 14 (.int .i64 pe))
              have N7 := Lib.hid (next_far N7.out (g := g11) (by have := GE.out; omega) 14 (.int .i64 pe))
              have B7 := Lib.hid (B7.out.setCell (p := ⟨g11, 14, none⟩) GE.out.2.2.2.2.1 (.int .i64 pe))
              have R7 := Lib.hid (rc_set R7.out ⟨kd, x1, x2, x3, x4, Rc.t2 l, ⟨pv, pd, pu, pn, pg, pa, pb, pc, pe, pw, 0, 0⟩⟩ 15 (.int .i64 pw) rfl)
              have RX7 := Lib.hid (rc_far RX7.out (g := g11) (by have := GE.out; omega) 15 (.int .i64 pw))
              have N7 := Lib.hid (next_far N7.out (g := g11) (by have := GE.out; omega) 15 (.int .i64 pw))
              have B7 := Lib.hid (B7.out.setCell (p := ⟨g11, 15, none⟩) GE.out.2.2.2.2.1 (.int .i64 pw))
              have R7 := Lib.hid (rc_set R7.out ⟨kd, x1, x2, x3, x4, Rc.t2 l, ⟨pv, pd, pu, pn, pg, pa, pb, pc, pe, pw, px, 0⟩⟩ 16 (.int .i64 px) rfl)
              have RX7 := Lib.hid (rc_far RX7.out (g := g11) (by have := GE.out; omega) 16 (.int .i64 px))
              have N7 := Lib.hid (next_far N7.out (g := g11) (by have := GE.out; omega) 16 (.int .i64 px))
              have B7 := Lib.hid (B7.out.setCell (p := ⟨g11, 16, none⟩) GE.out.2.2.2.2.1 (.int .i64 px))
              have R7 := Lib.hid (rc_set R7.out ⟨kd, x1, x2, x3, x4, Rc.t2 l, ⟨pv, pd, pu, pn, pg, pa, pb, pc, pe, pw, px, pk⟩⟩ 17 (.int .i64 pk) rfl)
              have RX7 := Lib.hid (rc_far RX7.out (g := g11) (by have := GE.out; omega) 17 (.int .i64 pk))
              have N7 := Lib.hid (next_far N7.out (g := g11) (by have := GE.out; omega) 17 (.int .i64 pk))
              have B7 := Lib.hid (B7.out.setCell (p := ⟨g11, 17, none⟩) GE.out.2.2.2.2.1 (.int .i64 pk))
              go_meet
              case rel => exact ⟨A5, k5, N7.out, S5.out, by rw [EDEC.out, ES3.out]; exact R7.out, RX7.out, B7.out⟩
            · rw [if_neg hl] at ES3
              have hlf : (((listV (Rc.k2 l)).length : Int) == 12) = false := by rw [beq_eq_false_iff_ne]; omega
              clear hl
              go_wp2_with fail
              go_meet
              case rel => exact ⟨A5, k5, NY.out, S5.out, by rw [EDEC.out, ES3.out]; exact R11y.out, RXy.out, By.out⟩
          · have hke : (kd == 3) = false := by rw [beq_eq_false_iff_ne]; exact hk
            rw [if_neg hk] at EK3 ES3
            clear hk
            go_wp2_with fail
            go_meet
            case rel => exact ⟨A3, c3, by rw [EK3.out]; exact N9c.out, by rw [EK3.out]; exact S3.out, by rw [EDEC.out, ES3.out]; exact R11.out, RXc.out, Bc.out⟩
        case rest =>
          obtain ⟨A9, k9, hn9, hs9, hr, hrx, hb⟩ := hcut
          have N9 := Lib.hid hn9
          have S9 := Lib.hid hs9
          have R9 := Lib.hid hr
          have RX := Lib.hid hrx
          have B9 := Lib.hid hb
          clear hn9 hs9 hr hrx hb R11 N9c RXc Bc ES3 EDEC G29 GE S3
          have OK3 : Hid (Okay (Rc.k3 l)) := by
            show Okay _
            rw [EK3.out]
            split
            · exact rc_okay_list OK2.out
            · exact OK2.out
          have CB := Lib.hid (fun Wx => rcbytes_any (Rc.dec l) (Rc.dec_in l) Wx)
          unfold Rc.val at CB
          clear EK3 OK2 LK2 OKK LK
          by_cases hw : Rc.whole l
          · have HE : Hid (endE (Rc.k3 l) = 0) := Rc.whole_end hw
            have RDV : Hid (Rc.rdV l = Rc.dec l ∧ Rc.rdE l = 0) := Rc.rd_yes hw
            rw [(Rc.bytes_yes hw.1).1, (Rc.bytes_yes hw.1).2, hw.2] at CB
            have hts := txt_same l
            clear hw
            go_upto_region 17 with (first
              | ((with_reducible show wpList _ _ _ ({ dst := some 70, op := .load _ _, type := _, pos := _, after := _, guard := _ } :: _) _ _); refine wpList_load_row rfl 28 (.tmp 11) rfl g11 rfl 28 _ (0, 0) _ R9.out.row rec_fields rfl (rec_size (Rc.dec l)) ?_)
              | (go_at_call 24; (with_reducible refine (CB.out _).mono ?_); rintro e w8 ⟨A8, k8, rfl, hs8, hb8⟩; have S8 := Lib.hid hs8; have N8 : Hid (NextAt w8 g9 A9 (Rc.k3 l).l.length k9 (Rc.k3 l).e) := blk_at N9.out hb8; have R8 := Lib.hid (R9.out.on hb8); have RX8 := Lib.hid (RX.out.on hb8); have B8 := Lib.hid (B9.out.trans (hb8.mono B9.out.size)); clear hs8 hb8))
            have CE := Lib.hid (refEnd_any A9 k9 (Rc.k3 l) w8 OK3.out)
            obtain ⟨f1, f2, f3, f4⟩ := N8.out.facts
            rw [HE.out] at CE
            go_wp2_with (first
              | (go_at_call 25; (with_reducible refine CE.out.mono ?_); rintro e w9 ⟨rfl, hb9⟩; have S9b := Lib.hid (S8.out.on hb9); have S09 := Lib.hid (SL.out.on (B8.out.trans (hb9.mono B8.out.size))); have hc1 := conv_rd (c := k8) S9b.out.rd (n := _) rfl; have hc2 := conv_rd (c := c) S09.out.rd (n := l.length) rfl; have R89 := Lib.hid (R8.out.on hb9); have RX9 := Lib.hid (RX8.out.on hb9); have B99 := Lib.hid (B8.out.trans (hb9.mono B8.out.size)); clear hb9)
              | ((with_reducible show wpList _ _ _ ({ dst := some 89, op := .load _ _, type := _, pos := _, after := _, guard := _ } :: _) _ _); refine wpList_load_row rfl 28 (.tmp 11) rfl g11 rfl 28 _ (0, 0) _ R89.out.row rec_fields rfl (rec_size (Rc.dec l)) ?_)
              | ((with_reducible show wpList _ _ _ ({ dst := none, op := .store _ _ _, type := _, pos := _, after := _, guard := _ } :: _) _ _); refine wpList_store_rec rfl (.tmp 2) (.tmp 89) rfl g2 ((Rc.dec l)) _ rfl rfl RX9.out ?_))
            exact bodyPost_ret (rc_results Try.results8 _ _ g2 (Rc.dec l) rfl ⟨setRow_heap _ g2 _ _ _ _ RX9.out.row⟩) rfl ⟨by rw [RDV.out.1, RDV.out.2]; rfl, below_setRow B99.out HG2.out.1 _⟩
          · have RDV : Hid (Rc.rdV l = Rc.none_ ∧ Rc.rdE l = 2) := Rc.rd_no hw
            by_cases hee : endE (Rc.k3 l) = 0
            · cases hr : Rc.right (Rc.dec l) with
              | false =>
                rw [(Rc.bytes_no hr).1, (Rc.bytes_no hr).2] at CB
                have HE := Lib.hid hee
                clear hw hee hr
                go_upto_region 17 with (first
                  | ((with_reducible show wpList _ _ _ ({ dst := some 70, op := .load _ _, type := _, pos := _, after := _, guard := _ } :: _) _ _); refine wpList_load_row rfl 28 (.tmp 11) rfl g11 rfl 28 _ (0, 0) _ R9.out.row rec_fields rfl (rec_size (Rc.dec l)) ?_)
                  | (go_at_call 24; (with_reducible refine (CB.out _).mono ?_); rintro e w8 ⟨A8, k8, rfl, hs8, hb8⟩; have S8 := Lib.hid hs8; have N8 : Hid (NextAt w8 g9 A9 (Rc.k3 l).l.length k9 (Rc.k3 l).e) := blk_at N9.out hb8; have R8 := Lib.hid (R9.out.on hb8); have RX8 := Lib.hid (RX.out.on hb8); have B8 := Lib.hid (B9.out.trans (hb8.mono B9.out.size)); clear hs8 hb8))
                have CE := Lib.hid (refEnd_any A9 k9 (Rc.k3 l) w8 OK3.out)
                obtain ⟨f1, f2, f3, f4⟩ := N8.out.facts
                rw [HE.out] at CE
                go_wp2_with (first
                  | (go_at_call 25; (with_reducible refine CE.out.mono ?_); rintro e w9 ⟨rfl, hb9⟩; have S9b := Lib.hid (S8.out.on hb9); have S09 := Lib.hid (SL.out.on (B8.out.trans (hb9.mono B8.out.size))); have hc1 := conv_rd (c := k8) S9b.out.rd (n := _) rfl; have hc2 := conv_rd (c := c) S09.out.rd (n := l.length) rfl; have R89 := Lib.hid (R8.out.on hb9); have RX9 := Lib.hid (RX8.out.on hb9); have B99 := Lib.hid (B8.out.trans (hb9.mono B8.out.size)); clear hb9)
                  | ((with_reducible show wpList _ _ _ ({ dst := some 89, op := .load _ _, type := _, pos := _, after := _, guard := _ } :: _) _ _); refine wpList_load_row rfl 28 (.tmp 11) rfl g11 rfl 28 _ (0, 0) _ R89.out.row rec_fields rfl (rec_size (Rc.dec l)) ?_)
                  | ((with_reducible show wpList _ _ _ ({ dst := none, op := .store _ _ _, type := _, pos := _, after := _, guard := _ } :: _) _ _); refine wpList_store_rec rfl (.tmp 2) (.tmp 88) rfl g2 (Rc.none_) _ rfl rfl RX9.out ?_))
                exact bodyPost_ret (rc_results Try.results8 _ _ g2 Rc.none_ rfl ⟨setRow_heap _ g2 _ _ _ _ RX9.out.row⟩) rfl ⟨by rw [RDV.out.1, RDV.out.2]; rfl, below_setRow B99.out HG2.out.1 _⟩
              | true =>
                have hnb : Rc.bytes (Rc.dec l) ≠ l := fun h => hw ⟨hr, h⟩
                rw [(Rc.bytes_yes hr).1, (Rc.bytes_yes hr).2] at CB
                have hts : ((txt (Rc.bytes (Rc.dec l))).toList == (txt l).toList) = false := by
                  rw [txt_eq (Rc.bytes_byte _) OK0.out.byte]
                  exact decide_eq_false hnb
                have HE := Lib.hid hee
                clear hw hee hr hnb
                generalize Rc.bytes (Rc.dec l) = bl at *
                go_upto_region 17 with (first
                  | ((with_reducible show wpList _ _ _ ({ dst := some 70, op := .load _ _, type := _, pos := _, after := _, guard := _ } :: _) _ _); refine wpList_load_row rfl 28 (.tmp 11) rfl g11 rfl 28 _ (0, 0) _ R9.out.row rec_fields rfl (rec_size (Rc.dec l)) ?_)
                  | (go_at_call 24; (with_reducible refine (CB.out _).mono ?_); rintro e w8 ⟨A8, k8, rfl, hs8, hb8⟩; have S8 := Lib.hid hs8; have N8 : Hid (NextAt w8 g9 A9 (Rc.k3 l).l.length k9 (Rc.k3 l).e) := blk_at N9.out hb8; have R8 := Lib.hid (R9.out.on hb8); have RX8 := Lib.hid (RX.out.on hb8); have B8 := Lib.hid (B9.out.trans (hb8.mono B9.out.size)); clear hs8 hb8))
                have CE := Lib.hid (refEnd_any A9 k9 (Rc.k3 l) w8 OK3.out)
                obtain ⟨f1, f2, f3, f4⟩ := N8.out.facts
                rw [HE.out] at CE
                go_wp2_with (first
                  | (go_at_call 25; (with_reducible refine CE.out.mono ?_); rintro e w9 ⟨rfl, hb9⟩; have S9b := Lib.hid (S8.out.on hb9); have S09 := Lib.hid (SL.out.on (B8.out.trans (hb9.mono B8.out.size))); have hc1 := conv_rd (c := k8) S9b.out.rd (n := _) rfl; have hc2 := conv_rd (c := c) S09.out.rd (n := l.length) rfl; have R89 := Lib.hid (R8.out.on hb9); have RX9 := Lib.hid (RX8.out.on hb9); have B99 := Lib.hid (B8.out.trans (hb9.mono B8.out.size)); clear hb9)
                  | ((with_reducible show wpList _ _ _ ({ dst := some 89, op := .load _ _, type := _, pos := _, after := _, guard := _ } :: _) _ _); refine wpList_load_row rfl 28 (.tmp 11) rfl g11 rfl 28 _ (0, 0) _ R89.out.row rec_fields rfl (rec_size (Rc.dec l)) ?_)
                  | ((with_reducible show wpList _ _ _ ({ dst := none, op := .store _ _ _, type := _, pos := _, after := _, guard := _ } :: _) _ _); refine wpList_store_rec rfl (.tmp 2) (.tmp 88) rfl g2 (Rc.none_) _ rfl rfl RX9.out ?_))
                exact bodyPost_ret (rc_results Try.results8 _ _ g2 Rc.none_ rfl ⟨setRow_heap _ g2 _ _ _ _ RX9.out.row⟩) rfl ⟨by rw [RDV.out.1, RDV.out.2]; rfl, below_setRow B99.out HG2.out.1 _⟩
            · have hne : (endE (Rc.k3 l) != 0) = true := by rw [bne_iff_ne]; exact hee
              clear hw hee
              generalize Rc.bytesL (Rc.dec l) = bl at *
              generalize Rc.bytesE (Rc.dec l) = be at *
              obtain ⟨ee, hee⟩ : ∃ ee, ee = endE (Rc.k3 l) := ⟨_, rfl⟩
              rw [← hee] at hne
              have HE := Lib.hid hee
              clear hee
              go_upto_region 17 with (first
                | ((with_reducible show wpList _ _ _ ({ dst := some 70, op := .load _ _, type := _, pos := _, after := _, guard := _ } :: _) _ _); refine wpList_load_row rfl 28 (.tmp 11) rfl g11 rfl 28 _ (0, 0) _ R9.out.row rec_fields rfl (rec_size (Rc.dec l)) ?_)
                | (go_at_call 24; (with_reducible refine (CB.out _).mono ?_); rintro e w8 ⟨A8, k8, rfl, hs8, hb8⟩; have S8 := Lib.hid hs8; have N8 : Hid (NextAt w8 g9 A9 (Rc.k3 l).l.length k9 (Rc.k3 l).e) := blk_at N9.out hb8; have R8 := Lib.hid (R9.out.on hb8); have RX8 := Lib.hid (RX.out.on hb8); have B8 := Lib.hid (B9.out.trans (hb8.mono B9.out.size)); clear hs8 hb8))
              have CE := Lib.hid (refEnd_any A9 k9 (Rc.k3 l) w8 OK3.out)
              obtain ⟨f1, f2, f3, f4⟩ := N8.out.facts
              rw [← HE.out] at CE
              go_wp2_with (first
                | (go_at_call 25; (with_reducible refine CE.out.mono ?_); rintro e w9 ⟨rfl, hb9⟩; have S9b := Lib.hid (S8.out.on hb9); have S09 := Lib.hid (SL.out.on (B8.out.trans (hb9.mono B8.out.size))); have hc1 := conv_rd (c := k8) S9b.out.rd (n := _) rfl; have hc2 := conv_rd (c := c) S09.out.rd (n := l.length) rfl; have R89 := Lib.hid (R8.out.on hb9); have RX9 := Lib.hid (RX8.out.on hb9); have B99 := Lib.hid (B8.out.trans (hb9.mono B8.out.size)); clear hb9)
                | ((with_reducible show wpList _ _ _ ({ dst := some 89, op := .load _ _, type := _, pos := _, after := _, guard := _ } :: _) _ _); refine wpList_load_row rfl 28 (.tmp 11) rfl g11 rfl 28 _ (0, 0) _ R89.out.row rec_fields rfl (rec_size (Rc.dec l)) ?_)
                | ((with_reducible show wpList _ _ _ ({ dst := none, op := .store _ _ _, type := _, pos := _, after := _, guard := _ } :: _) _ _); refine wpList_store_rec rfl (.tmp 2) (.tmp 88) rfl g2 (Rc.none_) _ rfl rfl RX9.out ?_))
              exact bodyPost_ret (rc_results Try.results8 _ _ g2 Rc.none_ rfl ⟨setRow_heap _ g2 _ _ _ _ RX9.out.row⟩) rfl ⟨by rw [RDV.out.1, RDV.out.2]; rfl, below_setRow B99.out HG2.out.1 _⟩
        
end Go.Proofs.Ytifokcpkamdkeaa
