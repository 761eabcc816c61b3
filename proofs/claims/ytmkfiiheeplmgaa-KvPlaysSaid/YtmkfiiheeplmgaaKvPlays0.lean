/-
  The walk of KvPlays over any store that keeps the contracts.
-/
import Derived.Test.YtmkfiiheeplmgaaKvAgain0
namespace Go.Proofs.Ytmkfiiheeplmgaa
open Go.RowKit Go.Deep

/-- What the rounds keep: the store, the document's store by value in block g, its rows in v. -/
structure KPl (K : KPred) (w0 : World) (q g : Nat) (v : Value) (s : Kv.St) (W : World) : Prop where
  ex : ∃ X, K W X q s ∧ (∀ i, X i → w0.heap.size ≤ i ∧ i ≠ g) ∧ ∀ b, v.ownBlock = some b → ¬ X b
  rat : RAt W g v s.rev
  own : OwnEn W w0.heap.size v s.l
  gl : w0.heap.size ≤ g
  gv : v.ownBlock ≠ some g
  below : Below w0.heap.size w0 W
section
variable {K : KPred} {w0 W W' : World} {q g : Nat} {v : Value} {s : Kv.St}
theorem KPl.on (hC : KC K) (h : KPl K w0 q g v s W) (hb : Below W.heap.size W W') : KPl K w0 q g v s W' := by
  obtain ⟨X, h1, h2, h3⟩ := h.ex
  exact ⟨⟨X, hC.below h1 hb, h2, h3⟩, h.rat.on hb, OwnEn.any (h.own.below hb), h.gl, h.gv, h.below.trans (hb.mono h.below.size)⟩
theorem KPl.at_ (h : KPl K w0 q g v s W) : KAt K w0 q s W := by
  obtain ⟨X, h1, h2, h3⟩ := h.ex
  exact ⟨X, h1, fun i hi => (h2 i hi).1, h.below⟩
theorem kpl_start (hC : KC K) (h : KAt K w0 q Kv.St.none W) : KPl K w0 q W.heap.size (.slice none 0 0) Kv.St.none (W.alloc (.cells #[.slice none 0 0, .int .i64 0] 28)) := by
  have hb := (Below.refl W.heap.size W).alloc (Nat.le_refl _) (.cells #[.slice none 0 0, .int .i64 0] 28)
  obtain ⟨X, h1, h2, h3⟩ := h
  refine ⟨⟨X, hC.below h1 hb, fun i hi => ⟨h2 i hi, fun e => ?_⟩, fun b hb => by cases hb⟩, RAt.new W _ 0, OwnR.none_ _ _ _ _, h3.size, (fun h => by cases h), h3.trans (hb.mono h3.size)⟩
  have := hC.lt _ _ _ _ h1 i hi
  omega
/-- The program's change: what stands beside it. -/
structure KMid (K : KPred) (w0 : World) (N q g : Nat) (v : Value) (s s' : Kv.St) (W : World) : Prop where
  ex : ∃ X, K W X q s' ∧ (∀ i, X i → w0.heap.size ≤ i ∧ i ≠ g ∧ i < W.heap.size) ∧ ∀ b, v.ownBlock = some b → ¬ X b
  rat : RAt W g v s.rev
  own : OwnEn W w0.heap.size v s.l
  gl : w0.heap.size ≤ g
  gv : v.ownBlock ≠ some g
  gN : g < N
  below : Below w0.heap.size w0 W
theorem kpl_do (hC : KC K) {N n c : Nat} {A : Option Addr} {ops : List Kv.Po} {W0 : World} (h0 : KPl K w0 q g v s W0) (hN : N = W0.heap.size) (hb : Below W0.heap.size W0 W) (hr : s.rev ≤ 1000) (ho : SlP W A n c ops) (hz : ops.length ≤ 70) :
    Calls Try.prog 12 #[.pointer (some ⟨q, 0, none⟩), .slice A n c] W (fun e w' => e = .returned (.tuple #[.int .i64 (Kv.doN s ops), .int .i64 (Kv.doE s ops : Nat)]) ∧ KMid K w0 N q g v s (Kv.doS s ops) w' ∧ W.heap.size ≤ w'.heap.size ∧ ∀ i, N ≤ i → i < W.heap.size → w'.heap[i]? = W.heap[i]?) := by
  have h := h0.on hC hb
  obtain ⟨X, h1, h2, h3⟩ := h0.ex
  have hlt := hC.lt _ _ _ _ h1
  have hg := h0.rat.cells.2.2
  have hv := h0.own.lt
  have hsz := hb.size
  have hbs := h.below.size
  refine (hC.do_ W X q s n c A ops (hC.below h1 hb) hr ho hz).mono fun _ w' ⟨X', e1, e2, e3, e4⟩ => ?_
  have hbel : Below w0.heap.size w0 w' := h.below.trans (e4.below h.below.size fun i hi => (h2 i hi).1)
  refine ⟨e1, ⟨⟨X', e2, fun i hi => ?_, fun b hb2 hx => ?_⟩, ⟨(e4.block g h.rat.cells.2.2 fun hx => (h2 g hx).2 rfl).trans h.rat.row⟩, OwnEn.any (Kept.row e4 h.own h3), h.gl, h.gv, by omega, hbel⟩, e4.size, fun i hNi hi => e4.block i hi fun hx => by have := hlt i hx; omega⟩
  · have := hC.lt _ _ _ _ e2 i hi
    rcases e3 i hi with hx | hx
    · exact ⟨(h2 i hx).1, (h2 i hx).2, this⟩
    · exact ⟨by omega, by omega, this⟩
  · rcases e3 b hx with hx | hx
    · exact h3 b hb2 hx
    · have := (hv b hb2).2; omega
theorem KMid.fin (hC : KC K) {N : Nat} {s' : Kv.St} (h : KMid K w0 N q g v s s' W) (hb : Below W.heap.size W W') {v' : Value} (ho : OwnEn W' w0.heap.size v' s'.l) (hv : v' = v ∨ ∀ b, v'.ownBlock = some b → W.heap.size ≤ b) :
    KPl K w0 q g v' s' ((W'.setCell ⟨g, 0, none⟩ v').setCell ⟨g, 1, none⟩ (.int .i64 s'.rev)) := by
  obtain ⟨X, h1, h2, h3⟩ := h.ex
  have hg := h.rat.cells.2.2
  have hgv : v'.ownBlock ≠ some g := fun e => by
    rcases hv with rfl | hv
    · exact h.gv e
    · have := hv g e; omega
  refine ⟨⟨X, hC.keep _ _ _ _ _ (hC.below h1 hb) (by simp) fun i hi => block_two _ _ _ _ _ (h2 i hi).2.1, fun i hi => ⟨(h2 i hi).1, (h2 i hi).2.1⟩, fun b hb2 hx => ?_⟩, (h.rat.on hb).set v' _, OwnEn.any (ho.keep fun i hi => block_two _ _ _ _ _ fun e => hgv (by rw [hi, e])), h.gl, hgv, below_two (h.below.trans (hb.mono h.below.size)) h.gl _ _⟩
  rcases hv with rfl | hv
  · exact h3 b hb2 hx
  · have := hv b hb2
    have := (h2 b hx).2.2
    omega
end
set_option maxHeartbeats 6400000 in
set_option maxRecDepth 100000 in
theorem kplays_walk {K : KPred} (hC : KC K) (n c : Nat) (A : Option Addr) (ls : List (List Kv.Po)) (rv : Int) (w : World) (h : SlPs w A n c ls) (hrv : i64In rv) :
    Calls Try.prog 3 #[.slice A n c, .int .i64 rv] w fun e w' => e = .returned (.bool true) ∧ Below w.heap.size w w' := by
  have hn := h.len
  have hmx := h.max
  have hcp := h.cap
  unfold maxLen at hmx
  have HA := Lib.hid h
  have HN := Lib.hid hn
  have RI := Lib.hid hrv
  have L1 := Lib.hid (klives_any hC w)
  clear h hn hrv
  go_enter Try.func3, Try.ntmps3
  go_upto_region 4 with (first
    | (go_at_call 9; (with_reducible refine L1.out.mono ?_); rintro e w1 ⟨rfl, hb1⟩; have B1 := Lib.hid hb1; clear hb1)
    | (go_at_call 10; (with_reducible refine (kat_make hC w w1 B1.out).mono ?_); rintro e w2 ⟨q, rfl, hK1⟩; have K1 := Lib.hid (kpl_start hC hK1); clear hK1))
  go_wp2_with fail
  obtain ⟨g, hg⟩ : ∃ g, g = w2.heap.size := ⟨_, rfl⟩
  rw [← hg] at K1 ⊢
  generalize w2.alloc (.cells #[.slice none 0 0, .int .i64 0] 28) = w3 at *
  clear hg
  go_loopw [7] (fun i wr => ∃ (j : Nat) (v : Value), j ≤ n ∧ j ≤ 40 ∧ i = .int .i64 j ∧ KPl K w q g v (Kv.run (ls.take j)) wr) (fun i _ => 40 - (intOf i).toNat)
  case atStart => exact ⟨0, _, by omega, by omega, rfl, K1.out⟩
  case round =>
    obtain ⟨j, v, hj, hj4, rfl, hk⟩ := hrel
    have KR := Lib.hid hk
    have BW := Lib.hid hk.below
    have GD := Lib.hid (kat_good hC hk.at_)
    have RG : Hid ((Kv.run (ls.take j)).rev ≤ 40) := by
      have h1 := (Kv.run_good (ls.take j)).2
      rw [List.length_take] at h1
      show _ ≤ _; omega
    obtain ⟨A0, c0, rfl⟩ := hk.own.form
    clear hk
    by_cases hlt : j < n ∧ j < 40
    · obtain ⟨h1, h2⟩ := hlt
      have h2' : (j : Int) < 40 := by omega
      obtain ⟨b1, o1, rfl⟩ := HA.out.addr (by have := HN.out; omega)
      have EO : Hid (ls[j]? = some (ls[j]'(by have := HN.out; omega))) := List.getElem?_eq_getElem _
      generalize ls[j]'(by have := HN.out; omega) = l at *
      obtain ⟨A2, n2, c2, p0, hs⟩ := HA.out.row EO.out BW.out
      have HS := Lib.hid hs
      have RS := Lib.hid (Kv.run_snoc EO.out)
      generalize Kv.run (ls.take j) = s at *
      have CL := Lib.hid (Kv.cuts_len l)
      have CO := Lib.hid (kops_any l n2 c2 A2 _ HS.out)
      generalize Kv.cuts l = ops at *
      have GD2 := Lib.hid (Kv.doS_good GD.out ops)
      have RG2 : Hid (s.rev ≤ 1000) := Nat.le_refl 0 |> fun _ => by have := RG.out; show _ ≤ _; omega
      obtain ⟨N, hN⟩ : ∃ N, N = wr.heap.size := ⟨_, rfl⟩
      have HNN := Lib.hid hN
      clear hs hN
      go_upto_region 9 with (go_at_call 11; (with_reducible refine CO.out.mono ?_); rintro e w4 ⟨v4, rfl, ho4, hb4⟩; obtain ⟨A3, c3, rfl⟩ := ho4.form; have O4 := Lib.hid (ho4.lower (Nat.le_of_eq HNN.out)); have B4 := Lib.hid hb4; clear ho4 hb4)
      go_upto_region 10 with (first
        | (go_at_call 13; (with_reducible refine (kas_any _ _ c3 A3 _ O4.out.readP (Nat.le_trans CL.out (by omega))).mono ?_); rintro e w5 ⟨v5, rfl, ho5, hb5⟩; obtain ⟨A5, c5, rfl⟩ := ho5.form; have P5 := Lib.hid ho5; have O5 := Lib.hid (OwnPo.any (w1 := w5) (O4.out.below hb5)); have B5 := Lib.hid (B4.out.trans (hb5.mono B4.out.size)); clear ho5 hb5)
        | (go_at_call 12; (with_reducible refine (kpl_do hC KR.out HNN.out B5.out RG2.out P5.out.readP CL.out).mono ?_); rintro e w6 ⟨rfl, hm6, hz6, hkp6⟩; have O6 := Lib.hid (OwnPo.any (w1 := w6) (O5.out.since (Nat.le_refl _) hkp6)); have M6 := Lib.hid hm6; clear hm6 hz6 hkp6))
      obtain ⟨nl, hnl⟩ : ∃ nl, nl = ops.length := ⟨_, rfl⟩
      have OP : Hid (SlP w6 A3 nl c3 ops) := by rw [hnl]; exact O6.out.readP
      rw [← hnl]
      have NL := Lib.hid hnl
      have hl70 : nl ≤ 70 := by have := CL.out; omega
      have hoc := OP.out.cap
      have hom := OP.out.max
      unfold maxLen at hom
      clear hnl
      have CR := Lib.hid (rdo_any s GD.out RG2.out ops w.heap.size _ c0 nl c3 A0 A3 w6 M6.out.own M6.out.below.size OP.out CL.out)
      obtain ⟨x, hx⟩ : ∃ x, x = Kv.doE s ops := ⟨_, rfl⟩
      obtain ⟨y, hy⟩ : ∃ y, y = Kv.doN s ops := ⟨_, rfl⟩
      unfold RDo at CR
      rw [← hx, ← hy] at CR ⊢
      rw [← RS.out] at CR M6 GD2
      generalize hs2 : Kv.run (ls.take (j + 1)) = s2 at *
      have RS2 := Lib.hid hs2
      obtain ⟨m0, m1, m2⟩ := M6.out.rat.cells
      clear hx hy hs2 p0
      go_upto_region 11 with (go_at_call 14; (with_reducible refine CR.out.mono ?_); rintro e w7 ⟨v7, rfl, ho7, hv7, hb7⟩; obtain ⟨A7, c7, rfl⟩ := ho7.form; have O7 := Lib.hid ho7; have V7 := Lib.hid hv7; have B7 := Lib.hid hb7; have BN := Lib.hid ((Below.refl w7.heap.size w7).alloc (Nat.le_refl _) (.cells #[.slice A7 s2.l.length c7, .int .i64 s2.rev] 28)); clear ho7 hv7 hb7 m0 m1 m2)
      obtain ⟨g3, hg3⟩ : ∃ g3, g3 = w7.heap.size := ⟨_, rfl⟩
      have R8 := Lib.hid (RAt.new w7 (.slice A7 s2.l.length c7) s2.rev)
      rw [← hg3] at R8 ⊢
      have O8 := Lib.hid (OwnEn.any (w1 := w7.alloc (.cells #[.slice A7 s2.l.length c7, .int .i64 s2.rev] 28)) (O7.out.below BN.out))
      have B8 := Lib.hid (B7.out.trans (BN.out.mono B7.out.size))
      have hg3g : g < g3 := by have := M6.out.rat.cells.2.2; have := B7.out.size; omega
      clear hg3 BN O7
      generalize w7.alloc (.cells #[.slice A7 s2.l.length c7, .int .i64 s2.rev] 28) = w8 at *
      have K9 := Lib.hid (M6.out.fin hC B8.out O8.out V7.out)
      have O9 : Hid (OwnPo 42 ((w8.setCell ⟨g, 0, none⟩ (.slice A7 s2.l.length c7)).setCell ⟨g, 1, none⟩ (.int .i64 s2.rev)) N (.slice A3 ops.length c3) ops) := OwnPo.any ((OwnPo.any (w1 := w8) (O6.out.below B8.out)).keep fun i hi => block_two _ _ _ _ _ (by have := (O6.out.lt i hi).1; have := M6.out.gN; omega))
      obtain ⟨r0, r1, r2⟩ := R8.out.cells
      obtain ⟨m0, m1, m2⟩ := (M6.out.rat.on B8.out).cells
      obtain ⟨m3, m4⟩ := (M6.out.rat.on B8.out).cell0
      go_upto_region 12 with fail
      generalize (w8.setCell ⟨g, 0, none⟩ (.slice A7 s2.l.length c7)).setCell ⟨g, 1, none⟩ (.int .i64 s2.rev) = w9 at *
      have OP9 : Hid (SlP w9 A3 nl c3 ops) := by rw [NL.out]; exact O9.out.readP
      have CK : Hid (Calls Try.prog 15 #[.pointer (some ⟨q, 0, none⟩), .agg #[.slice A7 s2.l.length c7, .int .i64 s2.rev]] w9 fun e w' => e = .returned (.bool true) ∧ Below w9.heap.size w9 w') := by
        obtain ⟨X, h1, h2, h3⟩ := K9.out.ex
        exact klike_any hC X q s2 _ c7 A7 w9 h1 K9.out.own.readE
      have CG : Hid (∀ k : ByteArray, k.size ≤ maxLen → ∀ W, Below w9.heap.size w9 W → Calls Try.prog 16 #[.pointer (some ⟨q, 0, none⟩), .string k] W (KGet s2 k W)) := fun k hk W hW => kget_of hC s2 k hk q W (K9.out.on hC hW).at_
      have CF0 : Hid (∀ k : ByteArray, ∀ W, Below w9.heap.size w9 W → Calls Try.prog 17 #[.agg #[.slice A7 s2.l.length c7, .int .i64 s2.rev], .string k] W fun e w' => e = .returned (.tuple #[.string (Kv.valOf s2.l k), .int .i64 (Kv.revOf s2.l k)]) ∧ Below W.heap.size W w') := fun k W hW => rget_any s2.l s2.rev _ c7 A7 k W (K9.out.on hC hW).own.readE
      have XG : Hid (∀ W, Below w9.heap.size w9 W → W.cell? ⟨g, 0, none⟩ = some (.slice A7 s2.l.length c7) ∧ W.cell? ⟨g, 1, none⟩ = some (.int .i64 s2.rev)) := fun W hW => ⟨(K9.out.on hC hW).rat.cells.1, (K9.out.on hC hW).rat.cells.2.1⟩
      generalize s2.l.length = ln at *
      clear m0 m1 m2 m3 m4 r0 r1 r2
      obtain ⟨m0, m1⟩ := XG.out w9 (Below.refl _ _)
      go_wp2_with (go_at_call 15; (with_reducible refine CK.out.mono ?_); rintro e w10 ⟨rfl, hb10⟩; have B10 := Lib.hid hb10; clear hb10)
      go_loopw [14] (fun i wt => ∃ p : Nat, p ≤ nl ∧ i = .int .i64 p ∧ Below w9.heap.size w9 wt) (fun i _ => nl - (intOf i).toNat)
      case atStart => exact ⟨0, by omega, rfl, B10.out⟩
      case round =>
        obtain ⟨p, hp, rfl, hbp⟩ := hrel
        have BP := Lib.hid hbp
        clear hbp m0 m1
        by_cases hpn : p < nl
        · obtain ⟨b3, o3, rfl⟩ := OP9.out.addr (by have := NL.out; omega)
          have EP : Hid (ops[p]? = some (ops[p]'(by have := NL.out; omega))) := List.getElem?_eq_getElem _
          generalize ops[p]'(by have := NL.out; omega) = o at *
          obtain ⟨p0, p1, p2, p3⟩ := OP9.out.po EP.out BP.out
          have OZ : Hid (o.key.size ≤ maxLen) := (OP9.out.poOk (List.mem_of_getElem? EP.out)).1
          have CF := Lib.hid (CF0.out o.key)
          have CH := Lib.hid (CG.out o.key OZ.out)
          unfold KGet at CH
          have X1 : Hid (∀ W, Below w9.heap.size w9 W → W.cell? ⟨g, 0, none⟩ = some (.slice A7 ln c7) ∧ W.cell? ⟨g, 1, none⟩ = some (.int .i64 s2.rev) ∧ W.cell? ⟨b3, o3 + p * 4, none⟩ = some (.string o.key)) := fun W hW => ⟨(XG.out W hW).1, (XG.out W hW).2, (OP9.out.po EP.out hW).1⟩
          generalize Kv.valOf s2.l o.key = vv at *
          generalize Kv.revOf s2.l o.key = rr at *
          have hvv : (vv.toList == vv.toList) = true := Kv.teq.2 rfl
          go_upto_region 18 with (go_at_call 16; (with_reducible refine (CH.out _ BP.out).mono ?_); rintro en w11 ⟨rfl, hb11⟩; have B11 := Lib.hid (BP.out.trans (hb11.mono BP.out.size)); clear hb11 p0 p1 p2 p3)
          refine wp_region_held_drew (S := fun W => Below w9.heap.size w9 W) (by kernel_rfl) B11.out.drew (fun hS => ?_)
          refine tkYes 0 (v := ?_) rfl (by kernel_rfl) (fun _ _ _ h => h) rfl ?_ hS ?_
          rotate_left
          · intro W hW; obtain ⟨x1, x2, x3⟩ := X1.out W hW; go_simp; (try with_reducible rfl)
          simp only [Act.put, List.setIfInBounds_toArray, List.set_cons_zero, List.set_cons_succ]
          refine tkYes 1 (v := ?_) rfl (by kernel_rfl) (fun _ _ _ h => h) rfl ?_ hS ?_
          rotate_left
          · intro W hW; go_simp; (try with_reducible rfl)
          simp only [Act.put, List.setIfInBounds_toArray, List.set_cons_zero, List.set_cons_succ]
          refine tkYes 2 (v := ?_) rfl (by kernel_rfl) (fun _ _ _ h => h) rfl ?_ hS ?_
          rotate_left
          · intro W hW; go_simp; (try with_reducible rfl)
          simp only [Act.put, List.setIfInBounds_toArray, List.set_cons_zero, List.set_cons_succ]
          refine tkYes 3 (v := ?_) rfl (by kernel_rfl) (fun _ _ _ h => h) rfl ?_ hS ?_
          rotate_left
          · intro W hW; go_simp; (try with_reducible rfl)
          simp only [Act.put, List.setIfInBounds_toArray, List.set_cons_zero, List.set_cons_succ]
          refine tkYes 4 (v := ?_) rfl (by kernel_rfl) (fun _ _ _ h => h) rfl ?_ hS ?_
          rotate_left
          · intro W hW; go_simp; (try with_reducible rfl)
          simp only [Act.put, List.setIfInBounds_toArray, List.set_cons_zero, List.set_cons_succ]
          refine tkYes 5 (v := ?_) rfl (by kernel_rfl) (fun _ _ _ h => h) rfl ?_ hS ?_
          rotate_left
          · intro W hW; obtain ⟨x1, x2, x3⟩ := X1.out W hW; go_simp; (try with_reducible rfl)
          simp only [Act.put, List.setIfInBounds_toArray, List.set_cons_zero, List.set_cons_succ]
          refine rnOne 6 rfl (by kernel_rfl) rfl (fun K hK => ?_)
          go_simp
          with_reducible refine (CF.out _ hS).mono ?_
          rintro en wd ⟨rfl, hW⟩
          have hS2 := hS.trans (hW.mono hS.size)
          clear hS hW
          have hS := hS2
          clear hS2
          refine hK.out _ _ hS (fun _ => ?_)
          clear hK K
          try simp only [Act.put, List.setIfInBounds_toArray, List.set_cons_zero, List.set_cons_succ]
          refine tkYes 7 (v := ?_) rfl (by kernel_rfl) (fun _ _ _ h => h) rfl ?_ hS ?_
          rotate_left
          · intro W hW; go_simp; (try with_reducible rfl)
          simp only [Act.put, List.setIfInBounds_toArray, List.set_cons_zero, List.set_cons_succ]
          refine tkYes 8 (v := ?_) rfl (by kernel_rfl) (fun _ _ _ h => h) rfl ?_ hS ?_
          rotate_left
          · intro W hW; go_simp; (try with_reducible rfl)
          simp only [Act.put, List.setIfInBounds_toArray, List.set_cons_zero, List.set_cons_succ]
          refine tkYes 9 (v := ?_) rfl (by kernel_rfl) (fun _ _ _ h => h) rfl ?_ hS ?_
          rotate_left
          · intro W hW; go_simp; (try with_reducible rfl)
          simp only [Act.put, List.setIfInBounds_toArray, List.set_cons_zero, List.set_cons_succ]
          refine tkYes 10 (v := ?_) rfl (by kernel_rfl) (fun _ _ _ h => h) rfl ?_ hS ?_
          rotate_left
          · intro W hW; go_simp; (try with_reducible rfl)
          simp only [Act.put, List.setIfInBounds_toArray, List.set_cons_zero, List.set_cons_succ]
          refine tkYes 11 (v := ?_) rfl (by kernel_rfl) (fun _ _ _ h => h) rfl ?_ hS ?_
          rotate_left
          · intro W hW; go_simp; (try with_reducible rfl)
          simp only [Act.put, List.setIfInBounds_toArray, List.set_cons_zero, List.set_cons_succ]
          refine wpAnyH_done (by kernel_rfl) ?_ _
          have PX := Lib.hid hS
          clear hS
          go_wp2_with fail
          exact ⟨⟨p + 1, by omega, by go_num, PX.out⟩, by simp [intOf]; omega⟩
        · go_wp2_with fail
          exact ⟨⟨j + 1, _, by omega, by omega, by go_num, by rw [RS2.out]; exact K9.out.on hC BP.out⟩, by simp [intOf]; omega⟩
    · have HE : Hid (¬ (j < n ∧ j < 40)) := hlt
      have CS := Lib.hid (fun W (hW : Below wr.heap.size wr W) => ksince_of hC _ rv RI.out q W (KR.out.on hC hW).at_)
      have CT := Lib.hid (fun W (hW : Below wr.heap.size wr W) => rsince_any _ _ c0 A0 rv W (KR.out.on hC hW).own.readE (Nat.le_trans GD.out.len (by omega)))
      have X2 : Hid (∀ W, Below wr.heap.size wr W → W.cell? ⟨g, 0, none⟩ = some (.slice A0 (Kv.run (ls.take j)).l.length c0) ∧ W.cell? ⟨g, 1, none⟩ = some (.int .i64 (Kv.run (ls.take j)).rev)) := fun W hW => ⟨(KR.out.on hC hW).rat.cells.1, (KR.out.on hC hW).rat.cells.2.1⟩
      generalize Kv.run (ls.take j) = s at *
      generalize hln : s.l.length = ln at *
      clear hln
      by_cases hjn : j < n
      · have hj40 : ¬ (j : Int) < 40 := fun h => hlt ⟨hjn, by omega⟩
        clear hlt
        go_upto_region 21 with fail
        refine wp_region_held_drew (S := fun W => Below wr.heap.size wr W) (by kernel_rfl) (Below.refl wr.heap.size wr).drew (fun hS => ?_)
        refine tkYes 0 (v := ?_) rfl (by kernel_rfl) (fun _ _ _ h => h) rfl ?_ hS ?_
        rotate_left
        · intro W hW; go_simp; (try with_reducible rfl)
        simp only [Act.put, List.setIfInBounds_toArray, List.set_cons_zero, List.set_cons_succ]
        refine tkYes 1 (v := ?_) rfl (by kernel_rfl) (fun _ _ _ h => h) rfl ?_ hS ?_
        rotate_left
        · intro W hW; go_simp; (try with_reducible rfl)
        simp only [Act.put, List.setIfInBounds_toArray, List.set_cons_zero, List.set_cons_succ]
        refine tkYes 3 (v := ?_) rfl (by kernel_rfl) (fun _ _ _ h => h) rfl ?_ hS ?_
        rotate_left
        · intro W hW; obtain ⟨x1, x2⟩ := X2.out W hW; go_simp; (try with_reducible rfl)
        simp only [Act.put, List.setIfInBounds_toArray, List.set_cons_zero, List.set_cons_succ]
        refine tkYes 4 (v := ?_) rfl (by kernel_rfl) (fun _ _ _ h => h) rfl ?_ hS ?_
        rotate_left
        · intro W hW; go_simp; (try with_reducible rfl)
        simp only [Act.put, List.setIfInBounds_toArray, List.set_cons_zero, List.set_cons_succ]
        refine rnOne 2 rfl (by kernel_rfl) rfl (fun K hK => ?_)
        go_simp
        with_reducible refine (CS.out _ hS).mono ?_
        rintro en w21 ⟨v21, rfl, ho21, hb21⟩
        obtain ⟨A21, c21, rfl⟩ := ho21.form
        have T21 := Lib.hid ho21
        clear ho21
        have hS2 := hS.trans (hb21.mono hS.size)
        clear hS
        have hS := hS2
        clear hS2 hb21
        refine hK.out _ _ hS (fun _ => ?_)
        clear hK K
        try simp only [Act.put, List.setIfInBounds_toArray, List.set_cons_zero, List.set_cons_succ]
        refine rnOne 5 rfl (by kernel_rfl) rfl (fun K hK => ?_)
        go_simp
        with_reducible refine (CT.out _ hS).mono ?_
        rintro en w22 ⟨v22, rfl, ho22, hb22⟩
        obtain ⟨A22, c22, rfl⟩ := ho22.form
        have T22 := Lib.hid ho22
        have T23 := Lib.hid (OwnTx.any (w1 := w22) (T21.out.below hb22))
        clear ho22
        have hS2 := hS.trans (hb22.mono hS.size)
        clear hS
        have hS := hS2
        clear hS2 hb22
        refine hK.out _ _ hS (fun _ => ?_)
        clear hK K
        try simp only [Act.put, List.setIfInBounds_toArray, List.set_cons_zero, List.set_cons_succ]
        refine rnOne 6 rfl (by kernel_rfl) rfl (fun K hK => ?_)
        go_simp
        with_reducible refine (rsame_any _ _ _ _ _ _ _ _ _ T23.out.readT T22.out.readT).mono ?_
        rintro en w24 ⟨⟨z, rfl, hz⟩, hb24⟩
        obtain rfl : z = true := hz.2 rfl
        clear hz
        have hS2 := hS.trans (hb24.mono hS.size)
        clear hS
        have hS := hS2
        clear hS2 hb24
        refine hK.out _ _ hS (fun _ => ?_)
        clear hK K
        try simp only [Act.put, List.setIfInBounds_toArray, List.set_cons_zero, List.set_cons_succ]
        refine tkYes 7 (v := ?_) rfl (by kernel_rfl) (fun _ _ _ h => h) rfl ?_ hS ?_
        rotate_left
        · intro W hW; go_simp; (try with_reducible rfl)
        simp only [Act.put, List.setIfInBounds_toArray, List.set_cons_zero, List.set_cons_succ]
        refine wpAnyH_done (by kernel_rfl) ?_ _
        have PX := Lib.hid hS
        clear hS
        go_wp2_with fail
        go_ret
        exact ⟨rfl, BW.out.trans (PX.out.mono BW.out.size)⟩
      · clear hlt
        go_upto_region 21 with fail
        refine wp_region_held_drew (S := fun W => Below wr.heap.size wr W) (by kernel_rfl) (Below.refl wr.heap.size wr).drew (fun hS => ?_)
        refine tkYes 0 (v := ?_) rfl (by kernel_rfl) (fun _ _ _ h => h) rfl ?_ hS ?_
        rotate_left
        · intro W hW; go_simp; (try with_reducible rfl)
        simp only [Act.put, List.setIfInBounds_toArray, List.set_cons_zero, List.set_cons_succ]
        refine tkYes 1 (v := ?_) rfl (by kernel_rfl) (fun _ _ _ h => h) rfl ?_ hS ?_
        rotate_left
        · intro W hW; go_simp; (try with_reducible rfl)
        simp only [Act.put, List.setIfInBounds_toArray, List.set_cons_zero, List.set_cons_succ]
        refine tkYes 3 (v := ?_) rfl (by kernel_rfl) (fun _ _ _ h => h) rfl ?_ hS ?_
        rotate_left
        · intro W hW; obtain ⟨x1, x2⟩ := X2.out W hW; go_simp; (try with_reducible rfl)
        simp only [Act.put, List.setIfInBounds_toArray, List.set_cons_zero, List.set_cons_succ]
        refine tkYes 4 (v := ?_) rfl (by kernel_rfl) (fun _ _ _ h => h) rfl ?_ hS ?_
        rotate_left
        · intro W hW; go_simp; (try with_reducible rfl)
        simp only [Act.put, List.setIfInBounds_toArray, List.set_cons_zero, List.set_cons_succ]
        refine rnOne 2 rfl (by kernel_rfl) rfl (fun K hK => ?_)
        go_simp
        with_reducible refine (CS.out _ hS).mono ?_
        rintro en w21 ⟨v21, rfl, ho21, hb21⟩
        obtain ⟨A21, c21, rfl⟩ := ho21.form
        have T21 := Lib.hid ho21
        clear ho21
        have hS2 := hS.trans (hb21.mono hS.size)
        clear hS
        have hS := hS2
        clear hS2 hb21
        refine hK.out _ _ hS (fun _ => ?_)
        clear hK K
        try simp only [Act.put, List.setIfInBounds_toArray, List.set_cons_zero, List.set_cons_succ]
        refine rnOne 5 rfl (by kernel_rfl) rfl (fun K hK => ?_)
        go_simp
        with_reducible refine (CT.out _ hS).mono ?_
        rintro en w22 ⟨v22, rfl, ho22, hb22⟩
        obtain ⟨A22, c22, rfl⟩ := ho22.form
        have T22 := Lib.hid ho22
        have T23 := Lib.hid (OwnTx.any (w1 := w22) (T21.out.below hb22))
        clear ho22
        have hS2 := hS.trans (hb22.mono hS.size)
        clear hS
        have hS := hS2
        clear hS2 hb22
        refine hK.out _ _ hS (fun _ => ?_)
        clear hK K
        try simp only [Act.put, List.setIfInBounds_toArray, List.set_cons_zero, List.set_cons_succ]
        refine rnOne 6 rfl (by kernel_rfl) rfl (fun K hK => ?_)
        go_simp
        with_reducible refine (rsame_any _ _ _ _ _ _ _ _ _ T23.out.readT T22.out.readT).mono ?_
        rintro en w24 ⟨⟨z, rfl, hz⟩, hb24⟩
        obtain rfl : z = true := hz.2 rfl
        clear hz
        have hS2 := hS.trans (hb24.mono hS.size)
        clear hS
        have hS := hS2
        clear hS2 hb24
        refine hK.out _ _ hS (fun _ => ?_)
        clear hK K
        try simp only [Act.put, List.setIfInBounds_toArray, List.set_cons_zero, List.set_cons_succ]
        refine tkYes 7 (v := ?_) rfl (by kernel_rfl) (fun _ _ _ h => h) rfl ?_ hS ?_
        rotate_left
        · intro W hW; go_simp; (try with_reducible rfl)
        simp only [Act.put, List.setIfInBounds_toArray, List.set_cons_zero, List.set_cons_succ]
        refine wpAnyH_done (by kernel_rfl) ?_ _
        have PX := Lib.hid hS
        clear hS
        go_wp2_with fail
        go_ret
        exact ⟨rfl, BW.out.trans (PX.out.mono BW.out.size)⟩
end Go.Proofs.Ytmkfiiheeplmgaa
