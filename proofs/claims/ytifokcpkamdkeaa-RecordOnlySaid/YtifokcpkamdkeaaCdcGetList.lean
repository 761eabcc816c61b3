/-
  The document's own answers for what is read (GetList): what they are, from any world.
-/
import Derived.Test.YtifokcpkamdkeaaCdcGetText
namespace Go.Proofs.Ytifokcpkamdkeaa
open Go.RowKit Cdc

theorem num_bad_zero {s : St} (he : (num s).e ≠ 0) : numV s = 0 := by
  unfold num at he
  by_cases hs : s.e = 0
  · rw [if_pos hs] at he
    by_cases hk : dk s.l = 0
    · unfold numV; rw [if_pos hs, dn_none hk]
    · rw [if_neg hk] at he; exact absurd rfl he
  · exact numV_err hs
theorem list_bad {s : St} (h : (num s).e ≠ 0 ∨ 64 < numV s) : list s = badS (num s) ∧ listV s = [] := by
  by_cases he : (num s).e = 0
  · have hm : ¬ numV s ≤ 64 := by rcases h with h | h <;> omega
    have h1 : list s = lost := by unfold list cnt cntV; rw [if_neg hm, if_neg hm]; rfl
    refine ⟨by rw [h1]; unfold badS; rw [if_pos he], ?_⟩
    unfold listV; rw [h1, if_neg (by decide)]
  · have hv := num_bad_zero he
    have h1 : list s = num s := by unfold list cnt cntV; rw [hv]; simp only [Nat.zero_le, if_pos]; rfl
    refine ⟨by rw [h1]; unfold badS; rw [if_neg he], ?_⟩
    unfold listV; rw [h1, if_neg he]
theorem list_good {s : St} (h : numV s ≤ 64) : list s = numsAt (num s) (numV s) ∧ listV s = if (numsAt (num s) (numV s)).e = 0 then numsV (num s) (numV s) else [] := by
  unfold listV list cnt cntV
  simp only [if_pos h, and_self]
theorem OwnI.far {w : World} {B n c : Nat} {A : Option Addr} {v : Value} {l : List Int} (h : OwnI w B v l) (hv : v = .slice A n c) : ∀ a, A = some a → B ≤ a.block := by
  intro a ha
  subst ha
  subst hv
  rcases h.2 with ⟨h0, _⟩ | ⟨g, cap, cur, h0, hb, _⟩
  · cases h0
  · injection h0 with h0; injection h0 with h0; subst h0; exact hb
def LPost (w0 : World) (s : St) (w : World) (e : Ending) (w' : World) : Prop :=
  ∃ A c D d, e = .returned (.tuple #[.agg #[.slice A (list s).l.length c, .int .i64 (list s).e], .slice D (listV s).length d]) ∧ Sl w0 A (list s).l.length c (list s).l ∧ SlI w' D (listV s).length d (nI (listV s)) ∧ Below w.heap.size w w' ∧ ∀ a, D = some a → w.heap.size ≤ a.block
def NextAt (w : World) (g : Nat) (A : Option Addr) (n c : Nat) (e : Int) : Prop := w.heap[g]? = some (.cells #[.slice A n c, .int .i64 e] 53 (0, 0))
theorem NextAt.facts {w : World} {g n c : Nat} {A : Option Addr} {e : Int} (h : NextAt w g A n c e) : w.cell? ⟨g, 0, none⟩ = some (.slice A n c) ∧ w.cell? ⟨g, 1, none⟩ = some (.int .i64 e) ∧ w.frozen? ⟨g, 0, none⟩ = false ∧ w.frozen? ⟨g, 1, none⟩ = false :=
  ⟨by rw [cell_of_row w g 0 _ _ _ h]; rfl, by rw [cell_of_row w g 1 _ _ _ h]; rfl, frozen_of_row w g 0 _ _ h, frozen_of_row w g 1 _ _ h⟩
theorem NextAt.lt {w : World} {g n c : Nat} {A : Option Addr} {e : Int} (h : NextAt w g A n c e) : g < w.heap.size := (Array.getElem?_eq_some_iff.1 h).1
theorem NextAt.set {w : World} {g n c n' c' : Nat} {A A' : Option Addr} {e e' : Int} (h : NextAt w g A n c e) : NextAt ((w.setCell ⟨g, 0, none⟩ (.slice A' n' c')).setCell ⟨g, 1, none⟩ (.int .i64 e')) g A' n' c' e' := by
  have h1 := heap_setCell_same w g 0 _ _ (.slice A' n' c') h
  have h2 := heap_setCell_same (w.setCell ⟨g, 0, none⟩ (.slice A' n' c')) g 1 _ _ (.int .i64 e') h1
  unfold NextAt
  rw [h2]; rfl
theorem NextAt.kept {w w' : World} {g n c : Nat} {A : Option Addr} {e : Int} {row : Option Nat} (h : NextAt w g A n c e) (hg : w.grownBy w' row) (hr : some g ≠ row) : NextAt w' g A n c e := by
  unfold NextAt
  rw [hg.block g h.lt hr]; exact h

theorem OwnI.alloc {w : World} {B : Nat} {v : Value} {l : List Int} (h : OwnI w B v l) (o : Obj) : OwnI (w.alloc o) B v l := World.ownsRow.alloc h o
theorem own_set2 {w : World} {B g : Nat} {v : Value} {l : List Int} (h : OwnI w B v l) (hg : g < B) (u1 u2 : Value) : OwnI ((w.setCell ⟨g, 0, none⟩ u1).setCell ⟨g, 1, none⟩ u2) B v l :=
  ownsRow_setCell_below (ownsRow_setCell_below h hg _) hg _
theorem wpList_append_numz {w : World} {ops : Array Oper} {rest : List Oper} {op : Oper} {a : Act} {Q : Exit → Act → World → Prop} (hgd : op.guard = none) (s x : Operand)
    (ho : op.op = .call { callee := .builtin .append, args := #[s, x], argTypes := #[49, 49] })
    (base : Nat) (v : Value) (l : List Int) (hs : a.eval s = v) (hown : OwnI w base v l) (X : Int) (z : Nat) (hz : z = w.heap.size) (hx : a.eval x = .slice (some ⟨z, 0, none⟩) 1 1)
    (hl : l.length ≤ 3000000) (hB : base ≤ w.heap.size)
    (h : ∀ v' w', OwnI w' base v' (l ++ [X]) → w.grownBy w' v.ownBlock → wpList Try.prog ops Q rest (a.put op.dst v') w') : wpList Try.prog ops Q (op :: rest) a (w.alloc (.cells #[.int .i64 X] 3)) := by
  subst hz
  exact wpList_append_num hgd s x ho base v l hs hown X hx hl hB h
set_option maxRecDepth 100000 in
set_option maxHeartbeats 3200000 in
theorem refList_get (w0 : World) (A : Option Addr) (c : Nat) (s : St) (w : World) (h0 : Sl w0 A s.l.length c s.l) (hb0 : Below w0.heap.size w0 w) (ho : Okay s) (hl : s.l.length ≤ 1000000) :
    Calls Try.prog 22 #[.agg #[.slice A s.l.length c, .int .i64 s.e]] w (LPost w0 s w) := by
  have NB := Lib.hid (fun WX hb => refNum_any w0 A c s WX h0 hb ho hl)
  have TB := Lib.hid (list_bad (s := s))
  have TG := Lib.hid (list_good (s := s))
  have OK := Lib.hid ho.num
  have HN := Lib.hid (Nat.le_trans (num_len s) hl)
  have B0 := Lib.hid (((Below.refl w.heap.size w).alloc (Nat.le_refl _) (.cells #[.slice A s.l.length c, .int .i64 s.e] 53)).alloc (by simp) (.cells #[.slice none 0 0, .int .i64 0] 53))
  have HB := Lib.hid hb0
  have HNV := Lib.hid (numV_lt s)
  have hv63 : (numV s : Int) ≤ 4611686018427387903 := by have := HNV.out; omega
  clear h0 hb0 ho hl
  generalize s.l.length = n0 at *
  generalize s.e = e0 at *
  generalize num s = N at *
  generalize numV s = m at *
  go_enter Try.func22, Try.ntmps22
  go_wp2_with fail
  (with_reducible refine (NB.out _ (HB.out.trans (B0.out.mono HB.out.size))).mono ?_)
  rintro e w1 ⟨A1, c1, rfl, hs1, hb1⟩
  have S1 := Lib.hid hs1; clear hs1
  have Z1 : Hid (w.heap.size + 2 ≤ w1.heap.size) := by show _ ≤ _; have := hb1.size; simp at this; omega
  obtain ⟨hc, hf⟩ := bcell hb1
  have B1 := Lib.hid hb1; clear hb1
  have z1 : w.heap.size + 1 < w1.heap.size := by have := Z1.out; omega
  by_cases hbad : N.e ≠ 0 ∨ 64 < m
  · have P := Lib.hid (TB.out hbad)
    have BAD := Lib.hid (fun WX => bad_any w0 A1 N.l.length c1 N WX S1.out)
    have hcase : N.e ≠ 0 ∨ (N.e = 0 ∧ 64 < m) := by
      by_cases h1 : N.e = 0
      · exact .inr ⟨h1, by rcases hbad with h | h <;> omega⟩
      · exact .inl h1
    clear hbad TB TG NB
    obtain ⟨ee, hee⟩ : ∃ ee, ee = N.e := ⟨_, rfl⟩
    have EE := Lib.hid hee; clear hee
    rw [← EE.out] at BAD hcase ⊢
    obtain ⟨nl, hnl⟩ : ∃ nl, nl = N.l.length := ⟨_, rfl⟩
    have NL := Lib.hid hnl; clear hnl
    rw [← NL.out] at BAD ⊢
    rcases hcase with hx | ⟨hx, hy⟩
    · have hne : (ee != 0) = true := by rw [bne_iff_ne]; exact hx
      clear hx
      go_wp2_with fail
      (with_reducible refine (BAD.out _).mono ?_)
      rintro e w2 ⟨A2, c2, rfl, hs2, hb2⟩
      have T2 := Lib.hid hs2; clear hs2
      have B2 := Lib.hid (B1.out.trans ((((Below.refl w1.heap.size w1).alloc (Nat.le_refl _) _).trans (hb2.mono (by simp))).mono B1.out.size)); clear hb2 hc hf
      obtain ⟨hc, hf⟩ := bcell B2.out
      have z2 : w.heap.size + 1 < w2.heap.size := by have := B2.out.size; simp at this; omega
      go_wp2_with fail
      exact bodyPost_ret (v := .tuple #[.agg #[.slice A2 (badS N).l.length c2, .int .i64 (badS N).e], .slice none 0 0]) (by simp [results, Try.results22, go_sem, hc]) rfl (by
        unfold LPost
        rw [P.out.1, P.out.2]
        exact ⟨A2, c2, none, 0, rfl, T2.out, SlI.none_ _, ((B0.out.trans (B2.out.mono (by simp; omega))).setCell (by simp) _).setCell (by simp) _, fun a h => by cases h⟩)
    · subst hx
      go_wp2_with fail
      (with_reducible refine (BAD.out _).mono ?_)
      rintro e w2 ⟨A2, c2, rfl, hs2, hb2⟩
      have T2 := Lib.hid hs2; clear hs2
      have B2 := Lib.hid (B1.out.trans ((((Below.refl w1.heap.size w1).alloc (Nat.le_refl _) _).trans (hb2.mono (by simp))).mono B1.out.size)); clear hb2 hc hf
      obtain ⟨hc, hf⟩ := bcell B2.out
      have z2 : w.heap.size + 1 < w2.heap.size := by have := B2.out.size; simp at this; omega
      go_wp2_with fail
      exact bodyPost_ret (v := .tuple #[.agg #[.slice A2 (badS N).l.length c2, .int .i64 (badS N).e], .slice none 0 0]) (by simp [results, Try.results22, go_sem, hc]) rfl (by
        unfold LPost
        rw [P.out.1, P.out.2]
        exact ⟨A2, c2, none, 0, rfl, T2.out, SlI.none_ _, ((B0.out.trans (B2.out.mono (by simp; omega))).setCell (by simp) _).setCell (by simp) _, fun a h => by cases h⟩)
  · have hE : N.e = 0 := by
      by_cases h : N.e = 0
      · exact h
      · exact absurd (.inl h) hbad
    have hm : m ≤ 64 := by omega
    have P := Lib.hid (TG.out hm)
    rw [hE]
    have HE := Lib.hid hE
    clear hbad TB TG NB hE
    have X0 : Hid (NextAt (w1.alloc (.cells #[.slice A1 N.l.length c1, .int .i64 0] 53)) w1.heap.size A1 N.l.length c1 0) := heap_alloc_new w1 _
    have BX : Hid (Below w.heap.size w (w1.alloc (.cells #[.slice A1 N.l.length c1, .int .i64 0] 53))) := by
      have hx := B0.out.trans (B1.out.mono (by simp; omega))
      exact hx.alloc hx.size _
    have RX0 : NextAt (w1.alloc (.cells #[.slice A1 N.l.length c1, .int .i64 0] 53)) (w.heap.size + 1) none 0 0 0 := by
      unfold NextAt
      rw [Below.heap_alloc _ _ _ z1, B1.out.block _ (by simp)]
      have := heap_alloc_new (w.alloc (.cells #[.slice A n0 c, .int .i64 e0] 53)) (.cells #[.slice none 0 0, .int .i64 0] 53)
      rw [show (w.alloc (.cells #[.slice A n0 c, .int .i64 e0] 53)).heap.size = w.heap.size + 1 from by simp] at this
      exact this
    have RX := Lib.hid RX0; clear RX0
    have SX0 : (w1.alloc (.cells #[.slice A1 N.l.length c1, .int .i64 0] 53)).heap.size = w1.heap.size + 1 := by simp
    have SX := Lib.hid SX0; clear SX0
    go_wp2_with fail
    clear hc hf
    generalize w1.alloc (.cells #[.slice A1 N.l.length c1, .int .i64 0] 53) = X at *
    obtain ⟨g, hg⟩ : ∃ g, g = w1.heap.size := ⟨_, rfl⟩
    rw [← hg] at X0 SX z1 ⊢
    clear hg
    have gB : Hid (w.heap.size + 1 < g) := z1
    go_loopw [6, 7] (fun v i wr => ∃ (k : Nat) (A2 : Option Addr) (c2 : Nat), i = .int .i64 k ∧ k ≤ m ∧ (numsAt N k).e = 0 ∧ OwnI wr (g + 1) v (nI (numsV N k)) ∧ NextAt wr g A2 (numsAt N k).l.length c2 0 ∧ Sl w0 A2 (numsAt N k).l.length c2 (numsAt N k).l ∧ X.grownBy wr (some g)) (fun _ i _ => m - (intOf i).toNat)
    case atStart => exact ⟨0, A1, c1, rfl, by omega, HE.out, World.ownsRow_nil _ _ _ _, X0.out, S1.out, World.grownBy.refl _ _⟩
    case round =>
      obtain ⟨k, A2, c2, rfl, hk, he, ho, hnx, hs2, hgr⟩ := hrel
      have E := Lib.hid he; clear he
      have O := Lib.hid ho; clear ho
      have NX := Lib.hid hnx; clear hnx
      have S2 := Lib.hid hs2; clear hs2
      have GG := Lib.hid hgr; clear hgr
      clear S1 X0
      have RW := Lib.hid (RX.out.kept GG.out (by have := gB.out; intro e2; injection e2 with e2; omega))
      have BW := Lib.hid (BX.out.grown GG.out BX.out.size (fun i hi => by injection hi with hi; have := gB.out; omega))
      have HS : Hid (g + 1 ≤ wr.heap.size) := by show _ ≤ _; have := GG.out.size; rw [SX.out] at this; exact this
      obtain ⟨f1, f2, f3, f4⟩ := NX.out.facts
      by_cases hlt : k < m
      · have NB := Lib.hid (refNum_any w0 A2 c2 (numsAt N k) wr S2.out (HB.out.trans (BW.out.mono HB.out.size)) (OK.out.numsAt k) (Nat.le_trans (nums_len N k) HN.out))
        rw [E.out] at NB
        have HX : Hid (nI (numsV N (k + 1)) = nI (numsV N k) ++ [((numV (numsAt N k) : Nat) : Int)]) := nI_snoc _ _
        have HLN : Hid ((nI (numsV N k)).length = k) := by show _ = _; rw [nI_length, numsV_length]
        have HT : Hid (num (numsAt N k) = numsAt N (k + 1)) := rfl
        rw [HT.out] at NB
        generalize numV (numsAt N k) = x at *
        go_wp2_with fail
        (with_reducible refine NB.out.mono ?_)
        rintro e w2 ⟨A3, c3, rfl, hs3, hb3⟩
        have S3 := Lib.hid hs3; clear hs3
        have NX2 := Lib.hid (NX.out.kept (grown_below none hb3) (by simp))
        have RW2 := Lib.hid (RW.out.kept (grown_below none hb3) (by simp))
        have O2 := Lib.hid (OwnI.below O.out hb3)
        have BW2 := Lib.hid (BW.out.trans (hb3.mono BW.out.size))
        have GG2 := Lib.hid (grown_trans GG.out (grown_below (some g) hb3))
        have HS2 := Lib.hid (Nat.le_trans HS.out hb3.size)
        clear hb3 f1 f2 f3 f4
        obtain ⟨f1, f2, f3, f4⟩ := NX2.out.facts
        obtain ⟨r1, r2, r3, r4⟩ := RW2.out.facts
        have gz : g < w2.heap.size := by have := HS2.out; omega
        have rz : w.heap.size + 1 < w2.heap.size := by have := gB.out; omega
        have gr : w.heap.size + 1 ≠ g := by have := gB.out; omega
        by_cases h3 : (numsAt N (k + 1)).e = 0
        · have E3 := Lib.hid h3
          rw [h3]
          clear h3
          obtain ⟨y, hy⟩ : ∃ y, y = (w2.setCell ⟨g, 0, none⟩ (.slice A3 (numsAt N (k + 1)).l.length c3)).setCell ⟨g, 1, none⟩ (.int .i64 0) := ⟨_, rfl⟩
          have NY : Hid (NextAt y g A3 (numsAt N (k + 1)).l.length c3 0) := by rw [hy]; exact NX2.out.set
          have GY : Hid (X.grownBy y (some g)) := by rw [hy]; exact grown_trans GG2.out (grown_trans (grown_set _ _ _ _) (grown_set _ _ _ _))
          have OY := Lib.hid (own_set2 (g := g) O2.out (by omega) (.slice A3 (numsAt N (k + 1)).l.length c3) (.int .i64 0))
          rw [← hy] at OY
          have SY0 : y.heap.size = w2.heap.size := by rw [hy]; simp [World.setCell]
          have SY := Lib.hid SY0; clear SY0
          have HY := Lib.hid hy; clear hy
          go_wp2_with (at_builtin; rw [← HY.out]; refine wpList_append_numz rfl (.tmp 39) (.tmp 41) rfl (g + 1) _ _ rfl (OwnI.alloc OY.out _) _ (w2.heap.size + 1) (by rw [← SY.out]; simp) rfl (by rw [HLN.out]; omega) (by have := HS2.out; have := SY.out; simp; omega) ?_; intro v5 w5 ho5 hg5; have O5 := Lib.hid ho5; have G5 := Lib.hid hg5; clear ho5 hg5)
          have G6 := Lib.hid (grown_trans (World.grownBy_alloc y _ _) G5.out)
          go_roundw
          case rel =>
            refine ⟨k + 1, A3, c3, by go_num, by omega, E3.out, by rw [HX.out]; exact O5.out, ?_, S3.out, ?_⟩
            · exact NY.out.kept G6.out (fun e2 => by have := own_base OY.out g e2.symm; omega)
            · exact grown_other GY.out G6.out (fun i hi => by have := own_base OY.out i hi; rw [SX.out]; exact this)
          case measure => simp [intOf]; omega
        · have hne : ((numsAt N (k + 1)).e != 0) = true := by rw [bne_iff_ne]; exact h3
          have Q : Hid (list s = numsAt N (k + 1) ∧ listV s = []) := by
            have h4 : numsAt N m = numsAt N (k + 1) := by
              have := numsAt_err h3 (m - (k + 1))
              rwa [show k + 1 + (m - (k + 1)) = m by omega] at this
            show _ ∧ _
            rw [P.out.1, P.out.2, h4, if_neg h3]
            exact ⟨rfl, rfl⟩
          clear h3
          go_wp2_with fail
          exact bodyPost_ret (v := .tuple #[.agg #[.slice A3 (numsAt N (k + 1)).l.length c3, .int .i64 (numsAt N (k + 1)).e], .slice none 0 0]) (by simp [results, Try.results22, go_sem, r1, r2, rz]) rfl (by
            unfold LPost
            rw [Q.out.1, Q.out.2]
            refine ⟨A3, c3, none, 0, rfl, S3.out, SlI.none_ _, ?_, fun a h => by cases h⟩
            have hx := (BW2.out.setCell (p := ⟨w.heap.size + 1, 0, none⟩) (by simp) (.slice A3 (numsAt N (k + 1)).l.length c3)).setCell (p := ⟨w.heap.size + 1, 1, none⟩) (by simp) (.int .i64 (numsAt N (k + 1)).e)
            exact hx.alloc hx.size _)
      · obtain rfl : k = m := by omega
        have Q : Hid (list s = numsAt N k ∧ listV s = numsV N k) := by
          show _ ∧ _
          rw [P.out.1, P.out.2, if_pos E.out]
          exact ⟨rfl, rfl⟩
        obtain ⟨r1, r2, r3, r4⟩ := RW.out.facts
        obtain ⟨AL, cL, hv, hsl⟩ := OwnI.sl O.out
        have FA := Lib.hid (OwnI.far O.out hv)
        subst hv
        have SL := Lib.hid hsl; clear hsl
        go_wp2_with fail
        exact bodyPost_ret (v := .tuple #[.agg #[.slice A2 (numsAt N k).l.length c2, .int .i64 0], .slice AL (nI (numsV N k)).length cL]) (by simp [results, Try.results22, go_sem, r1, r2]) rfl (by
          unfold LPost
          rw [Q.out.1, Q.out.2]
          refine ⟨A2, c2, AL, cL, ?_, S2.out, ?_, (BW.out.setCell (by simp) _).setCell (by simp) _, fun a ha => by have := FA.out a ha; have := gB.out; omega⟩
          · rw [E.out, nI_length]
          · have hll := nI_length (numsV N k)
            rw [hll] at SL
            exact (SL.out.apart (r := w.heap.size + 1) (grown_set _ _ _ _) (fun a ha => by have := FA.out a ha; have := gB.out; omega)).apart (r := w.heap.size + 1) (grown_set _ _ _ _) (fun a ha => by have := FA.out a ha; have := gB.out; omega))
end Go.Proofs.Ytifokcpkamdkeaa
