/-
  The walk of KvAgain over any store that keeps the contracts.
-/
import Derived.Test.YtmkfiiheeplmgaaKvWhole0
namespace Go.Proofs.Ytmkfiiheeplmgaa
open Go.RowKit Go.Deep

/-- Two stores that share no block; the one's blocks lie below Na, the other's below Nb. -/
def KTwo (K : KPred) (w0 : World) (Na Nb qa qb : Nat) (sa sb : Kv.St) (W : World) : Prop :=
  ∃ Xa Xb, K W Xa qa sa ∧ K W Xb qb sb ∧ (∀ i, Xa i → w0.heap.size ≤ i ∧ i < Na) ∧ (∀ i, Xb i → w0.heap.size ≤ i ∧ i < Nb) ∧ (∀ i, Xa i → ¬ Xb i) ∧ Below w0.heap.size w0 W
section
variable {K : KPred} {w0 W W' : World} {Na Nb qa qb : Nat} {sa sb : Kv.St}
theorem KTwo.swap (h : KTwo K w0 Na Nb qa qb sa sb W) : KTwo K w0 Nb Na qb qa sb sa W := by
  obtain ⟨Xa, Xb, h1, h2, h3, h4, h5, h6⟩ := h
  exact ⟨Xb, Xa, h2, h1, h4, h3, fun i hb ha => h5 i ha hb, h6⟩
theorem KTwo.on (hC : KC K) (h : KTwo K w0 Na Nb qa qb sa sb W) (hb : Below W.heap.size W W') : KTwo K w0 Na Nb qa qb sa sb W' := by
  obtain ⟨Xa, Xb, h1, h2, h3, h4, h5, h6⟩ := h
  exact ⟨Xa, Xb, hC.below h1 hb, hC.below h2 hb, h3, h4, h5, h6.trans (hb.mono h6.size)⟩
theorem KTwo.now (hC : KC K) (h : KTwo K w0 Na Nb qa qb sa sb W) : KTwo K w0 W.heap.size W.heap.size qa qb sa sb W := by
  obtain ⟨Xa, Xb, h1, h2, h3, h4, h5, h6⟩ := h
  exact ⟨Xa, Xb, h1, h2, fun i hi => ⟨(h3 i hi).1, hC.lt _ _ _ _ h1 i hi⟩, fun i hi => ⟨(h4 i hi).1, hC.lt _ _ _ _ h2 i hi⟩, h5, h6⟩
theorem KTwo.a (h : KTwo K w0 Na Nb qa qb sa sb W) : KAt K w0 qa sa W := by
  obtain ⟨Xa, Xb, h1, h2, h3, h4, h5, h6⟩ := h
  exact ⟨Xa, h1, fun i hi => (h3 i hi).1, h6⟩
theorem KTwo.b (h : KTwo K w0 Na Nb qa qb sa sb W) : KAt K w0 qb sb W := h.swap.a
theorem KTwo.below (h : KTwo K w0 Na Nb qa qb sa sb W) : Below w0.heap.size w0 W := h.a.below
theorem ktwo_make (hC : KC K) (hb : Below w0.heap.size w0 W) (ha : KAt K w0 qa sa W) :
    Calls Try.prog 10 #[] W (fun e w' => ∃ q, e = .returned (.pointer (some ⟨q, 0, none⟩)) ∧ KTwo K w0 w'.heap.size w'.heap.size qa q sa Kv.St.none w') := by
  obtain ⟨Xa, h1, h2, h3⟩ := ha
  refine (hC.make W).mono fun _ w' ⟨q, X, e1, e2, e3, e4⟩ => ⟨q, e1, Xa, X, hC.below h1 e4, e2, fun i hi => ⟨h2 i hi, hC.lt _ _ _ _ (hC.below h1 e4) i hi⟩, fun i hi => ⟨Nat.le_trans hb.size (e3 i hi), hC.lt _ _ _ _ e2 i hi⟩, fun i hi hx => ?_, hb.trans (e4.mono hb.size)⟩
  have := hC.lt _ _ _ _ h1 i hi
  have := e3 i hx
  omega
def KDoA (K : KPred) (w0 : World) (Na Nb qa qb : Nat) (sa sb : Kv.St) (ops : List Kv.Po) (W : World) (e : Ending) (w' : World) : Prop :=
  e = .returned (.tuple #[.int .i64 (Kv.doN sa ops), .int .i64 (Kv.doE sa ops : Nat)]) ∧ KTwo K w0 w'.heap.size Nb qa qb (Kv.doS sa ops) sb w' ∧ W.heap.size ≤ w'.heap.size ∧ ∀ i, Na ≤ i → i < W.heap.size → w'.heap[i]? = W.heap[i]?
theorem ktwo_do (hC : KC K) {n c : Nat} {A : Option Addr} {ops : List Kv.Po} (h : KTwo K w0 Na Nb qa qb sa sb W) (hr : sa.rev ≤ 1000) (ho : SlP W A n c ops) (hz : ops.length ≤ 70) :
    Calls Try.prog 12 #[.pointer (some ⟨qa, 0, none⟩), .slice A n c] W (KDoA K w0 Na Nb qa qb sa sb ops W) := by
  obtain ⟨Xa, Xb, h1, h2, h3, h4, h5, h6⟩ := h
  refine (hC.do_ W Xa qa sa n c A ops h1 hr ho hz).mono fun _ w' ⟨X', e1, e2, e3, e4⟩ => ⟨e1, ⟨X', Xb, e2, ?_, fun i hi => ⟨?_, hC.lt _ _ _ _ e2 i hi⟩, h4, fun i hi hx => ?_, h6.trans (e4.below h6.size fun i hi => (h3 i hi).1)⟩, e4.size, fun i hN hi => e4.block i hi fun hx => by have := (h3 i hx).2; omega⟩
  · exact hC.keep _ _ _ _ _ h2 e4.size fun i hi => e4.block i (hC.lt _ _ _ _ h2 i hi) fun hx => h5 i hx hi
  · rcases e3 i hi with h | h
    · exact (h3 i h).1
    · exact Nat.le_trans h6.size h
  · rcases e3 i hi with h | h
    · exact h5 i h hx
    · have := hC.lt _ _ _ _ h2 i hx; omega
end
theorem SlR.take {T : Type} {Z : Nat} {E : World → List Value → T → Prop} {w : World} {A : Option Addr} {n c : Nat} {ts : List T} (h : SlR Z E w A n c ts) {k : Nat} (hk : k ≤ n) : SlR Z E w A k c (ts.take k) :=
  ⟨fun j t hj => h.rd j t (by
    rw [List.getElem?_take] at hj
    split at hj
    · exact hj
    · cases hj), by rw [List.length_take]; have := h.len; omega, by have := h.cap; omega, h.max, h.nil⟩
set_option maxHeartbeats 6400000 in
set_option maxRecDepth 100000 in
theorem kagain_walk {K : KPred} (hC : KC K) (n c : Nat) (A : Option Addr) (ls : List (List Kv.Po)) (w : World) (h : SlPs w A n c ls) :
    Calls Try.prog 8 #[.slice A n c] w fun e w' => e = .returned (.bool true) ∧ Below w.heap.size w w' := by
  have hn := h.len
  have hmx := h.max
  have hcp := h.cap
  unfold maxLen at hmx
  have HA := Lib.hid h
  have HN := Lib.hid hn
  have L1 := Lib.hid (klives_any hC w)
  clear h hn
  go_enter Try.func8, Try.ntmps8
  go_wp2_with (first
    | (go_at_call 9; (with_reducible refine L1.out.mono ?_); rintro e w1 ⟨rfl, hb1⟩; have B1 := Lib.hid hb1; clear hb1)
    | (go_at_call 10; first
        | ((with_reducible refine (ktwo_make hC K1.out.below K1.out).mono ?_); rintro e w3 ⟨qb, rfl, hK2⟩; have K2 := Lib.hid hK2; clear hK2)
        | ((with_reducible refine (kat_make hC w w1 B1.out).mono ?_); rintro e w2 ⟨qa, rfl, hK1⟩; have K1 := Lib.hid hK1; clear hK1)))
  go_loopw [5] (fun i wr => ∃ j : Nat, j ≤ n ∧ j ≤ 30 ∧ i = .int .i64 j ∧ KTwo K w wr.heap.size wr.heap.size qa qb (Kv.run (ls.take j)) (Kv.run (ls.take j)) wr) (fun i _ => 30 - (intOf i).toNat)
  case atStart => exact ⟨0, by omega, by omega, rfl, K2.out⟩
  case round =>
    obtain ⟨j, hj, hj4, rfl, hk⟩ := hrel
    have KR := Lib.hid hk
    have BW := Lib.hid hk.below
    have RG : Hid ((Kv.run (ls.take j)).rev ≤ 1000) := by
      have h1 := (Kv.run_good (ls.take j)).2
      rw [List.length_take] at h1
      show _ ≤ _; omega
    clear hk
    by_cases hlt : j < n ∧ j < 30
    · obtain ⟨h1, h2⟩ := hlt
      have h2' : (j : Int) < 30 := by omega
      obtain ⟨b1, o1, rfl⟩ := HA.out.addr (by have := HN.out; omega)
      have EO : Hid (ls[j]? = some (ls[j]'(by have := HN.out; omega))) := List.getElem?_eq_getElem _
      generalize ls[j]'(by have := HN.out; omega) = l at *
      obtain ⟨A2, n2, c2, p0, hs⟩ := HA.out.row EO.out BW.out
      have HS := Lib.hid hs
      have RS := Lib.hid (Kv.run_snoc EO.out)
      have GD := Lib.hid (kat_good hC KR.out.a)
      have TZ : Hid ((ls.take (j + 1)).length ≤ 100) := by show _ ≤ _; rw [List.length_take]; omega
      have HT : Hid (SlPs w (some ⟨b1, o1, none⟩) (j + 1) c (ls.take (j + 1))) := HA.out.take (by omega)
      have R2 := Lib.hid (Kv.run_good (ls.take (j + 1))).2
      obtain ⟨lt, hltt⟩ : ∃ lt, lt = ls.take (j + 1) := ⟨_, rfl⟩
      rw [← hltt] at RS TZ HT R2
      have LTT := Lib.hid hltt
      clear hltt
      generalize Kv.run (ls.take j) = s at *
      have CL := Lib.hid (Kv.cuts_len l)
      have CO := Lib.hid (kops_any l n2 c2 A2 _ HS.out)
      generalize Kv.cuts l = ops at *
      obtain ⟨N, hN⟩ : ∃ N, N = wr.heap.size := ⟨_, rfl⟩
      rw [← hN] at KR
      have HNN := Lib.hid hN
      clear hs hN
      go_upto_region 8 with (go_at_call 11; (with_reducible refine CO.out.mono ?_); rintro e w2 ⟨v2, rfl, ho2, hb2⟩; obtain ⟨A3, c3, rfl⟩ := ho2.form; have O2 := Lib.hid (ho2.lower (Nat.le_of_eq HNN.out)); have K2 := Lib.hid (KR.out.on hC hb2); clear ho2 hb2)
      go_upto_region 9 with (first
        | (go_at_call 13; (with_reducible refine (kas_any _ _ c3 A3 _ O2.out.readP (Nat.le_trans CL.out (by omega))).mono ?_); rintro e w3 ⟨v3, rfl, ho3, hb3⟩; obtain ⟨A4, c4, rfl⟩ := ho3.form; have P3 := Lib.hid ho3; have O3 := Lib.hid (OwnPo.any (w1 := w3) (O2.out.below hb3)); have K3 := Lib.hid (K2.out.on hC hb3); clear ho3 hb3)
        | (go_at_call 12; (with_reducible refine (ktwo_do hC K3.out RG.out P3.out.readP CL.out).mono ?_); rintro e w4 ⟨rfl, hk4, hz4, hkp4⟩; have O4 := Lib.hid (OwnPo.any (w1 := w4) (O3.out.since (Nat.le_refl _) hkp4)); have K4 := Lib.hid hk4; clear hk4 hz4 hkp4))
      go_upto_region 10 with (first
        | (go_at_call 13; (with_reducible refine (kas_any _ _ c3 A3 _ O4.out.readP (Nat.le_trans CL.out (by omega))).mono ?_); rintro e w5 ⟨v5, rfl, ho5, hb5⟩; obtain ⟨A5, c5, rfl⟩ := ho5.form; have P5 := Lib.hid ho5; have O5 := Lib.hid (OwnPo.any (w1 := w5) (O4.out.below hb5)); have K5 := Lib.hid (K4.out.on hC hb5); clear ho5 hb5)
        | (go_at_call 12; (with_reducible refine (ktwo_do hC K5.out.swap RG.out P5.out.readP CL.out).mono ?_); rintro e w6 ⟨rfl, hk6, hz6, hkp6⟩; have O6 := Lib.hid (OwnPo.any (w1 := w6) (O5.out.since (Nat.le_refl _) hkp6)); have K6 := Lib.hid (hk6.swap.now hC); clear hk6 hz6 hkp6))
      have CKa := Lib.hid (fun W hW => kkeys_of hC (w0 := w) (Kv.doS s ops) qa W hW)
      have CKb := Lib.hid (fun W hW => kkeys_of hC (w0 := w) (Kv.doS s ops) qb W hW)
      obtain ⟨x, hx⟩ : ∃ x, x = Kv.doE s ops := ⟨_, rfl⟩
      obtain ⟨y, hy⟩ : ∃ y, y = Kv.doN s ops := ⟨_, rfl⟩
      rw [← hx, ← hy]
      have HX := Lib.hid hx
      obtain ⟨nl, hnl⟩ : ∃ nl, nl = ops.length := ⟨_, rfl⟩
      have hl70 : nl ≤ 70 := by have := CL.out; omega
      have AG : Hid (x = 0 → (∃ o ∈ ops, 0 ≤ o.rev ∧ o.drop = false) → Kv.doE (Kv.run lt) ops ≠ 0) := fun h0 hp => by
        rw [RS.out, (Kv.doS_ok (hx.symm.trans h0)).1]
        exact Kv.again GD.out (hx.symm.trans h0) hp
      clear hx hy
      have RT : Hid ((Kv.run lt).rev ≤ 1000) := by have := R2.out; have := TZ.out; show _ ≤ _; omega
      rw [← RS.out] at CKa CKb K6
      go_upto_region 12 with (first
        | (go_at_call 22; first
            | ((with_reducible refine (CKb.out _ K7.out.b).mono ?_); rintro en w8 ⟨v8, rfl, ho8, hb8⟩; obtain ⟨A8, c8, rfl⟩ := ho8.form; have T8 := Lib.hid ho8; have T9 := Lib.hid (OwnTx.any (w1 := w8) (T7.out.below hb8)); have O8 := Lib.hid (OwnPo.any (w1 := w8) (O7.out.below hb8)); have K8 := Lib.hid (K7.out.on hC hb8); clear ho8 hb8)
            | ((with_reducible refine (CKa.out _ K6.out.a).mono ?_); rintro en w7 ⟨v7, rfl, ho7, hb7⟩; obtain ⟨A7, c7, rfl⟩ := ho7.form; have T7 := Lib.hid ho7; have O7 := Lib.hid (OwnPo.any (w1 := w7) (O6.out.below hb7)); have K7 := Lib.hid (K6.out.on hC hb7); clear ho7 hb7))
        | (go_at_call 18; (with_reducible refine (rsame_any _ _ _ _ _ _ _ _ _ T9.out.readT T8.out.readT).mono ?_); rintro en w10 ⟨⟨z, rfl, hz⟩, hb10⟩; obtain rfl : z = true := hz.2 rfl; have O10 := Lib.hid (OwnPo.any (w1 := w10) (O8.out.below hb10)); have K10 := Lib.hid (K8.out.on hC hb10); clear hb10 hz))
      have OP : Hid (SlP w10 A3 nl c3 ops) := by rw [hnl]; exact O10.out.readP
      rw [← hnl]
      have NL := Lib.hid hnl
      have hoc := OP.out.cap
      have hom := OP.out.max
      unfold maxLen at hom
      clear hnl
      have CC : Hid (∀ W, Below w.heap.size w W → Calls Try.prog 24 #[.slice (some ⟨b1, o1, none⟩) (j + 1) c] W fun e w' => ∃ q, e = .returned (.pointer (some ⟨q, 0, none⟩)) ∧ KAt K W q (Kv.run lt) w') := fun W hW => kcopy_any hC w (j + 1) c _ lt W hW HT.out TZ.out
      have CD : Hid (∀ w0 W q n c A, KAt K w0 q (Kv.run lt) W → SlP W A n c ops → Calls Try.prog 12 #[.pointer (some ⟨q, 0, none⟩), .slice A n c] W (fun e w' => e = .returned (.tuple #[.int .i64 (Kv.doN (Kv.run lt) ops), .int .i64 (Kv.doE (Kv.run lt) ops : Nat)]) ∧ KAt K w0 q (Kv.doS (Kv.run lt) ops) w')) := fun w0 W q n c A h1 h2 => kat_do hC h1 RT.out h2 CL.out
      go_wp2_with fail
      go_loopw [11, 12] (fun d i wt => ∃ (p : Nat) (z : Bool), p ≤ nl ∧ i = .int .i64 p ∧ d = .bool z ∧ (z = true ↔ ∃ o ∈ ops.take p, 0 ≤ o.rev ∧ o.drop = false) ∧ Below w10.heap.size w10 wt) (fun _ i _ => nl - (intOf i).toNat)
      case atStart => exact ⟨0, false, by omega, rfl, rfl, by simp, Below.refl _ _⟩
      case round =>
        obtain ⟨p, z, hp, rfl, rfl, hz, hbp⟩ := hrel
        have BP := Lib.hid hbp
        have HZ := Lib.hid hz
        clear hbp hz
        by_cases hpn : p < nl
        · obtain ⟨b3, o3, rfl⟩ := OP.out.addr (by have := NL.out; omega)
          have EP : Hid (ops[p]? = some (ops[p]'(by have := NL.out; omega))) := List.getElem?_eq_getElem _
          generalize ops[p]'(by have := NL.out; omega) = o at *
          obtain ⟨p0, p1, p2, p3⟩ := OP.out.po EP.out BP.out
          have ST : Hid (ops.take (p + 1) = ops.take p ++ [o]) := by
            show _ = _
            rw [List.take_add_one, EP.out]; rfl
          cases z with
          | true =>
            go_wp2_with fail
            refine ⟨⟨p + 1, true, by omega, by go_num, rfl, ?_, BP.out⟩, by simp [intOf]; omega⟩
            simp only [true_iff]
            obtain ⟨u, hu, h2⟩ := HZ.out.1 (by first | rfl | trivial)
            exact ⟨u, by rw [ST.out]; exact List.mem_append_left _ hu, h2⟩
          | false =>
            have NOne : Hid (∀ u ∈ ops.take p, ¬ (0 ≤ u.rev ∧ u.drop = false)) := fun u hu h2 => by have := HZ.out.2 ⟨u, hu, h2⟩; cases this
            by_cases h0 : 0 ≤ o.rev
            · cases hd : o.drop with
              | true =>
                rw [hd] at p3
                have HD := Lib.hid hd
                clear hd
                go_wp2_with fail
                refine ⟨⟨p + 1, false, by omega, by go_num, rfl, ?_, BP.out⟩, by simp [intOf]; omega⟩
                simp only [Bool.false_eq_true, false_iff]
                rintro ⟨u, hu, h2⟩
                rw [ST.out] at hu
                rcases List.mem_append.1 hu with hu | hu
                · exact NOne.out u hu h2
                · simp at hu; subst hu; rw [HD.out] at h2; cases h2.2
              | false =>
                rw [hd] at p3
                have HD := Lib.hid hd
                clear hd
                go_wp2_with fail
                refine ⟨⟨p + 1, true, by omega, by go_num, rfl, ?_, BP.out⟩, by simp [intOf]; omega⟩
                simp only [true_iff]
                exact ⟨o, by rw [ST.out]; simp, h0, HD.out⟩
            · go_wp2_with fail
              refine ⟨⟨p + 1, false, by omega, by go_num, rfl, ?_, BP.out⟩, by simp [intOf]; omega⟩
              simp only [Bool.false_eq_true, false_iff]
              rintro ⟨u, hu, h2⟩
              rw [ST.out] at hu
              rcases List.mem_append.1 hu with hu | hu
              · exact NOne.out u hu h2
              · simp at hu; subst hu; have := h2.1; omega
        · have E : Hid (ops.take p = ops) := List.take_of_length_le (by have := NL.out; omega)
          rw [E.out] at HZ
          have KW := Lib.hid (K10.out.on hC BP.out)
          by_cases hx0 : x = 0
          · subst hx0
            cases z with
            | true =>
              have NE := AG.out rfl (HZ.out.1 (by first | rfl | trivial))
              obtain ⟨g, hg⟩ : ∃ g, g = Kv.doE (Kv.run lt) ops := ⟨_, rfl⟩
              rw [← hg] at CD NE
              have hg0 : ((g : Int) == 0) = false := by rw [beq_eq_false_iff_ne]; omega
              have OW := Lib.hid (OwnPo.any (w1 := wr) (O10.out.below BP.out))
              clear hg
              go_wp2_with (first
                | (go_at_call 24; (with_reducible refine (CC.out _ KW.out.below).mono ?_); rintro en w11 ⟨qc, rfl, hk11⟩; have KC11 := Lib.hid hk11; have O11 := Lib.hid (OwnPo.any (w1 := w11) (OW.out.below hk11.below)); clear hk11)
                | (go_at_call 13; (with_reducible refine (kas_any _ _ c3 A3 _ (by rw [NL.out]; exact O11.out.readP) (Nat.le_trans CL.out (by omega))).mono ?_); rintro e w12 ⟨v12, rfl, ho12, hb12⟩; obtain ⟨A12, c12, rfl⟩ := ho12.form; have P12 := Lib.hid ho12; have KC12 := Lib.hid (KC11.out.on hC hb12); clear ho12 hb12)
                | (go_at_call 12; (with_reducible refine (CD.out _ _ _ _ _ _ KC12.out P12.out.readP).mono ?_); rintro e w13 ⟨rfl, hk13⟩; have KC13 := Lib.hid hk13; clear hk13))
              exact ⟨⟨j + 1, by omega, by omega, by go_num, by rw [← LTT.out]; exact (KW.out.on hC KC13.out.below).now hC⟩, by simp [intOf]; omega⟩
            | false =>
              go_wp2_with fail
              exact ⟨⟨j + 1, by omega, by omega, by go_num, by rw [← LTT.out]; exact KW.out.now hC⟩, by simp [intOf]; omega⟩
          · have hx1 : ((x : Int) == 0) = false := by rw [beq_eq_false_iff_ne]; omega
            go_wp2_with fail
            exact ⟨⟨j + 1, by omega, by omega, by go_num, by rw [← LTT.out]; exact KW.out.now hC⟩, by simp [intOf]; omega⟩
    · have CR := Lib.hid (fun W hW => krev_of hC (w0 := w) (Kv.run (ls.take j)) qa W hW)
      have CS := Lib.hid (fun W hW => krev_of hC (w0 := w) (Kv.run (ls.take j)) qb W hW)
      generalize Kv.run (ls.take j) = s at *
      by_cases hjn : j < n
      · have hj40 : ¬ (j : Int) < 30 := fun h => hlt ⟨hjn, by omega⟩
        clear hlt
        go_wp2_with (go_at_call 21; first
          | ((with_reducible refine (CS.out _ KA.out.b).mono ?_); rintro e wb ⟨rfl, hb⟩; have KB := Lib.hid (KA.out.on hC hb); clear hb)
          | ((with_reducible refine (CR.out _ KR.out.a).mono ?_); rintro e wa ⟨rfl, ha⟩; have KA := Lib.hid (KR.out.on hC ha); clear ha))
        go_ret
        exact ⟨rfl, KB.out.below⟩
      · clear hlt
        go_wp2_with (go_at_call 21; first
          | ((with_reducible refine (CS.out _ KA.out.b).mono ?_); rintro e wb ⟨rfl, hb⟩; have KB := Lib.hid (KA.out.on hC hb); clear hb)
          | ((with_reducible refine (CR.out _ KR.out.a).mono ?_); rintro e wa ⟨rfl, ha⟩; have KA := Lib.hid (KR.out.on hC ha); clear ha))
        go_ret
        exact ⟨rfl, KB.out.below⟩
end Go.Proofs.Ytmkfiiheeplmgaa
