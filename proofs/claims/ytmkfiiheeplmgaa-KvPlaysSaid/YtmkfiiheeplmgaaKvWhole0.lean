/-
  The walk of KvWhole over any store that keeps the contracts.
-/
import Derived.Test.YtmkfiiheeplmgaaKvSince0
namespace Go.Proofs.Ytmkfiiheeplmgaa
open Go.RowKit Go.Deep

theorem krev_of {K : KPred} (hC : KC K) {w0 : World} (s : Kv.St) (q : Nat) (W : World) (hk : KAt K w0 q s W) : Calls Try.prog 21 #[.pointer (some ⟨q, 0, none⟩)] W (KInt s.rev W) := by
  obtain ⟨X, h1, h2, h3⟩ := hk
  exact hC.rev W X q s h1
theorem klen_of {K : KPred} (hC : KC K) {w0 : World} (s : Kv.St) (q : Nat) (W : World) (hk : KAt K w0 q s W) : Calls Try.prog 23 #[.pointer (some ⟨q, 0, none⟩)] W (KInt (s.l.length : Nat) W) := by
  obtain ⟨X, h1, h2, h3⟩ := hk
  exact hC.len W X q s h1
theorem kkeys_of {K : KPred} (hC : KC K) {w0 : World} (s : Kv.St) (q : Nat) (W : World) (hk : KAt K w0 q s W) : Calls Try.prog 22 #[.pointer (some ⟨q, 0, none⟩)] W (KTx (Kv.keysOf s.l) W) := by
  obtain ⟨X, h1, h2, h3⟩ := hk
  exact hC.keys W X q s h1
theorem ksince_of {K : KPred} (hC : KC K) {w0 : World} (s : Kv.St) (r : Int) (hr : i64In r) (q : Nat) (W : World) (hk : KAt K w0 q s W) : Calls Try.prog 19 #[.pointer (some ⟨q, 0, none⟩), .int .i64 r] W (KTx (Kv.since s r) W) := by
  obtain ⟨X, h1, h2, h3⟩ := hk
  exact hC.since W X q s r h1 hr
theorem kget_of {K : KPred} (hC : KC K) {w0 : World} (s : Kv.St) (k : ByteArray) (hk : k.size ≤ maxLen) (q : Nat) (W : World) (h : KAt K w0 q s W) : Calls Try.prog 16 #[.pointer (some ⟨q, 0, none⟩), .string k] W (KGet s k W) := by
  obtain ⟨X, h1, h2, h3⟩ := h
  exact hC.get W X q s k h1 hk
/-- A change, and the rows that stay beside it: those made since N. -/
def KDoN (K : KPred) (w0 : World) (N q : Nat) (s : Kv.St) (ops : List Kv.Po) (W : World) (e : Ending) (w' : World) : Prop :=
  e = .returned (.tuple #[.int .i64 (Kv.doN s ops), .int .i64 (Kv.doE s ops : Nat)]) ∧ KAt K w0 q (Kv.doS s ops) w' ∧ W.heap.size ≤ w'.heap.size ∧ ∀ i, N ≤ i → i < W.heap.size → w'.heap[i]? = W.heap[i]?
/-- A store of which nothing was made since N. -/
def KSi (K : KPred) (w0 : World) (N q : Nat) (s : Kv.St) (W : World) : Prop := ∃ X, K W X q s ∧ (∀ i, X i → w0.heap.size ≤ i ∧ i < N) ∧ Below w0.heap.size w0 W
section
variable {K : KPred} {w0 W W' : World} {N q : Nat} {s : Kv.St}
theorem KAt.si (hC : KC K) (h : KAt K w0 q s W) : KSi K w0 W.heap.size q s W := by
  obtain ⟨X, h1, h2, h3⟩ := h
  exact ⟨X, h1, fun i hi => ⟨h2 i hi, hC.lt _ _ _ _ h1 i hi⟩, h3⟩
theorem KSi.on (hC : KC K) (h : KSi K w0 N q s W) (hb : Below W.heap.size W W') : KSi K w0 N q s W' := by
  obtain ⟨X, h1, h2, h3⟩ := h
  exact ⟨X, hC.below h1 hb, h2, h3.trans (hb.mono h3.size)⟩
theorem KSi.at_ (h : KSi K w0 N q s W) : KAt K w0 q s W := by
  obtain ⟨X, h1, h2, h3⟩ := h
  exact ⟨X, h1, fun i hi => (h2 i hi).1, h3⟩
theorem ksi_do (hC : KC K) {n c : Nat} {A : Option Addr} {ops : List Kv.Po} (h : KSi K w0 N q s W) (hr : s.rev ≤ 1000) (ho : SlP W A n c ops) (hz : ops.length ≤ 70) :
    Calls Try.prog 12 #[.pointer (some ⟨q, 0, none⟩), .slice A n c] W (KDoN K w0 N q s ops W) := by
  obtain ⟨X, h1, h2, h3⟩ := h
  refine (hC.do_ W X q s n c A ops h1 hr ho hz).mono fun _ _ ⟨X', e1, e2, e3, e4⟩ => ⟨e1, ⟨X', e2, fun i hi => ?_, h3.trans (e4.below h3.size fun i hi => (h2 i hi).1)⟩, e4.size, fun i hN hi => e4.block i hi fun hx => by have := (h2 i hx).2; omega⟩
  rcases e3 i hi with h | h
  · exact (h2 i h).1
  · exact Nat.le_trans h3.size h
theorem OwnR.since {T : Type} {Z : Nat} {E : World → List Value → T → Prop} {e : TypeId} {w1 : World} {B : Nat} {v : Value} {ts : List T} (h : OwnR Z E e w1 W B v ts) (hB : N ≤ B) (hk : ∀ i, N ≤ i → i < W.heap.size → W'.heap[i]? = W.heap[i]?) : OwnR Z E e w1 W' B v ts :=
  h.keep fun i hi => hk i (Nat.le_trans hB (h.lt i hi).1) (h.lt i hi).2
end
def KDoV (K : KPred) (w0 : World) (N q : Nat) (s : Kv.St) (a b : Int) (W : World) (e : Ending) (w' : World) : Prop :=
  e = .returned (.tuple #[.int .i64 a, .int .i64 b]) ∧ KAt K w0 q s w' ∧ W.heap.size ≤ w'.heap.size ∧ ∀ i, N ≤ i → i < W.heap.size → w'.heap[i]? = W.heap[i]?
theorem ksi_do_ok {K : KPred} {w0 W : World} {N q n c : Nat} {A : Option Addr} {s : Kv.St} {ops : List Kv.Po} (hC : KC K) (h0 : Kv.doE s ops = 0) (h : KSi K w0 N q s W) (hr : s.rev ≤ 1000) (ho : SlP W A n c ops) (hz : ops.length ≤ 70) :
    Calls Try.prog 12 #[.pointer (some ⟨q, 0, none⟩), .slice A n c] W (KDoV K w0 N q (Kv.after s ops) (s.rev + 1) 0 W) := by
  have h1 := ksi_do hC h hr ho hz
  unfold KDoN at h1
  rw [(Kv.doS_ok h0).1, (Kv.doS_ok h0).2, h0] at h1
  exact h1
theorem ksi_do_no {K : KPred} {w0 W : World} {N q n c : Nat} {A : Option Addr} {s : Kv.St} {ops : List Kv.Po} {x : Nat} (hC : KC K) (hx : Kv.doE s ops = x) (h0 : x ≠ 0) (h : KSi K w0 N q s W) (hr : s.rev ≤ 1000) (ho : SlP W A n c ops) (hz : ops.length ≤ 70) :
    Calls Try.prog 12 #[.pointer (some ⟨q, 0, none⟩), .slice A n c] W (KDoV K w0 N q s 0 x W) := by
  have h1 := ksi_do hC h hr ho hz
  unfold KDoN at h1
  rw [(Kv.doS_no (s := s) (ops := ops) (by rw [hx]; exact h0)).1, (Kv.doS_no (s := s) (ops := ops) (by rw [hx]; exact h0)).2, hx] at h1
  exact h1
set_option maxHeartbeats 6400000 in
set_option maxRecDepth 100000 in
theorem kwhole_walk {K : KPred} (hC : KC K) (n c : Nat) (A : Option Addr) (ls : List (List Kv.Po)) (w : World) (h : SlPs w A n c ls) :
    Calls Try.prog 4 #[.slice A n c] w fun e w' => e = .returned (.bool true) ∧ Below w.heap.size w w' := by
  have hn := h.len
  have hmx := h.max
  have hcp := h.cap
  unfold maxLen at hmx
  have HA := Lib.hid h
  have HN := Lib.hid hn
  have L1 := Lib.hid (klives_any hC w)
  clear h hn
  go_enter Try.func4, Try.ntmps4
  go_wp2_with (first
    | (go_at_call 9; (with_reducible refine L1.out.mono ?_); rintro e w1 ⟨rfl, hb1⟩; have B1 := Lib.hid hb1; clear hb1)
    | (go_at_call 10; (with_reducible refine (kat_make hC w w1 B1.out).mono ?_); rintro e w2 ⟨q, rfl, hK1⟩; have K1 := Lib.hid hK1; clear hK1))
  go_loopw [4] (fun i wr => ∃ j : Nat, j ≤ n ∧ j ≤ 40 ∧ i = .int .i64 j ∧ KAt K w q (Kv.run (ls.take j)) wr) (fun i _ => 40 - (intOf i).toNat)
  case atStart => exact ⟨0, by omega, by omega, rfl, K1.out⟩
  case round =>
    obtain ⟨j, hj, hj4, rfl, hk⟩ := hrel
    have KR := Lib.hid hk
    have BW := Lib.hid hk.below
    have RG : Hid ((Kv.run (ls.take j)).rev ≤ 40) := by
      have h1 := (Kv.run_good (ls.take j)).2
      rw [List.length_take] at h1
      show _ ≤ _; omega
    clear hk
    by_cases hlt : j < n ∧ j < 40
    · obtain ⟨h1, h2⟩ := hlt
      have h2' : (j : Int) < 40 := by omega
      obtain ⟨b1, o1, rfl⟩ := HA.out.addr (by have := HN.out; omega)
      have EO : Hid (ls[j]? = some (ls[j]'(by have := HN.out; omega))) := List.getElem?_eq_getElem _
      generalize ls[j]'(by have := HN.out; omega) = l at *
      obtain ⟨A2, n2, c2, p0, hs⟩ := HA.out.row EO.out BW.out
      have HS := Lib.hid hs
      have RS := Lib.hid (Kv.run_snoc EO.out)
      have GD := Lib.hid (kat_good hC KR.out)
      generalize Kv.run (ls.take j) = s at *
      have CL := Lib.hid (Kv.cuts_len l)
      have CO := Lib.hid (kops_any l n2 c2 A2 _ HS.out)
      have DG := Lib.hid (Kv.doS_good GD.out (Kv.cuts l))
      generalize Kv.cuts l = ops at *
      obtain ⟨sl, sr⟩ := s
      have hsr0 : 0 ≤ sr := GD.out.rev0
      have hsr1 : sr ≤ 40 := RG.out
      have SR : Hid (i64In sr) := ⟨by omega, by omega⟩
      have KN := Lib.hid (KR.out.si hC)
      obtain ⟨N, hN⟩ : ∃ N, N = wr.heap.size := ⟨_, rfl⟩
      rw [← hN] at KN
      have HNN := Lib.hid hN
      clear hs hN
      go_upto_region 9 with (first
        | (go_at_call 11; (with_reducible refine CO.out.mono ?_); rintro e w2 ⟨v2, rfl, ho2, hb2⟩; obtain ⟨A3, c3, rfl⟩ := ho2.form; have O2 := Lib.hid ho2; have K2 := Lib.hid (KN.out.on hC hb2); have Z2 := Lib.hid hb2.size; clear ho2 hb2)
        | (go_at_call 21; (with_reducible refine (krev_of hC _ _ _ K2.out.at_).mono ?_); rintro e w3 ⟨rfl, hb3⟩; have O3 := Lib.hid (OwnPo.any (w1 := w3) (O2.out.below hb3)); have K3 := Lib.hid (K2.out.on hC hb3); have Z3 := Lib.hid hb3.size; clear hb3)
        | (go_at_call 22; (with_reducible refine (kkeys_of hC _ _ _ K3.out.at_).mono ?_); rintro e w4 ⟨v4, rfl, ho4, hb4⟩; obtain ⟨A4, c4, rfl⟩ := ho4.form; have T4 := Lib.hid ho4; have O4 := Lib.hid (OwnPo.any (w1 := w4) (O3.out.below hb4)); have K4 := Lib.hid (K3.out.on hC hb4); have Z4 := Lib.hid hb4.size; clear ho4 hb4))
      by_cases h0 : Kv.doE ⟨sl, sr⟩ ops = 0
      · have H0 := Lib.hid h0
        have DGet := Lib.hid (fun (o : Kv.Po) (ho : o ∈ ops) => Kv.done_get h0 ho)
        have DOk := Lib.hid (Kv.doE_zero h0)
        have DS := Lib.hid (Kv.doS_ok h0)
        have DL : Hid ((Kv.after ⟨sl, sr⟩ ops).l.length ≤ 64) := (Kv.doE_zero h0).2.2.2
        clear h0
        go_upto_region 10 with (first
          | (go_at_call 13; (with_reducible refine (kas_any _ _ c3 A3 _ O4.out.readP (Nat.le_trans CL.out (by omega))).mono ?_); rintro e w5 ⟨v5, rfl, ho5, hb5⟩; obtain ⟨A5, c5, rfl⟩ := ho5.form; have P5 := Lib.hid ho5; have O5 := Lib.hid (OwnPo.any (w1 := w5) (O4.out.below hb5)); have K5 := Lib.hid (K4.out.on hC hb5); have Z5 := Lib.hid hb5.size; clear ho5 hb5)
          | (go_at_call 12; (with_reducible refine (ksi_do_ok hC H0.out K5.out (by show sr ≤ 1000; omega) P5.out.readP CL.out).mono ?_); rintro e w6 ⟨rfl, hk6, hz6, hkp⟩; have O6 := Lib.hid (OwnPo.any (w1 := w6) (O5.out.since (Nat.le_of_eq HNN.out) hkp)); have K6 := Lib.hid hk6; clear hk6 hz6 hkp))
        have AR : Hid ((Kv.after ⟨sl, sr⟩ ops).rev = sr + 1) := rfl
        generalize Kv.after ⟨sl, sr⟩ ops = s2 at *
        obtain ⟨nl, hnl⟩ : ∃ nl, nl = ops.length := ⟨_, rfl⟩
        have OP : Hid (SlP w6 A3 nl c3 ops) := by rw [hnl]; exact O6.out.readP
        rw [← hnl]
        have NL := Lib.hid hnl
        have hl70 : nl ≤ 70 := by have := CL.out; omega
        have hoc := OP.out.cap
        have hom := OP.out.max
        unfold maxLen at hom
        have hzz : ((⟨#[]⟩ : ByteArray).toList == (⟨#[]⟩ : ByteArray).toList) = true := Kv.teq.2 rfl
        clear hnl
        go_wp2_with fail
        go_loopw [10] (fun i wt => ∃ p : Nat, p ≤ nl ∧ i = .int .i64 p ∧ KAt K w q s2 wt ∧ Below w6.heap.size w6 wt) (fun i _ => nl - (intOf i).toNat)
        case atStart => exact ⟨0, by omega, rfl, K6.out, Below.refl _ _⟩
        case round =>
          obtain ⟨p, hp, rfl, hkp, hbp⟩ := hrel
          have KP := Lib.hid hkp
          have BP := Lib.hid hbp
          clear hkp hbp
          by_cases hpn : p < nl
          · obtain ⟨b3, o3, rfl⟩ := OP.out.addr (by have := NL.out; omega)
            have EP : Hid (ops[p]? = some (ops[p]'(by have := NL.out; omega))) := List.getElem?_eq_getElem _
            generalize ops[p]'(by have := NL.out; omega) = o at *
            have OM : Hid (o ∈ ops) := List.mem_of_getElem? EP.out
            obtain ⟨p0, p1, p2, p3⟩ := OP.out.po EP.out BP.out
            have DV := DGet.out o OM.out
            have OZ : Hid (o.key.size ≤ maxLen) := (OP.out.poOk OM.out).1
            cases hd : o.drop with
            | true =>
              rw [hd] at p3 DV
              have CG : Hid (∀ W, KAt K w q s2 W → Calls Try.prog 16 #[.pointer (some ⟨q, 0, none⟩), .string o.key] W fun en w' => en = .returned (.tuple #[.string ⟨#[]⟩, .int .i64 0]) ∧ Below W.heap.size W w') := fun W hW => by
                have h4 := kget_of hC s2 o.key OZ.out q W hW
                unfold KGet at h4
                rw [DV.1, DV.2, if_pos rfl, if_pos rfl] at h4
                exact h4
              clear DV
              have HD := Lib.hid hd
              clear hd
              go_wp2_with (go_at_call 16; (with_reducible refine (CG.out _ KP.out).mono ?_); rintro en w7 ⟨rfl, hb7⟩; have K7 := Lib.hid (KP.out.on hC hb7); have B7 := Lib.hid (BP.out.trans (hb7.mono BP.out.size)); clear hb7 p0 p1 p2 p3; obtain ⟨p0, p1, p2, p3⟩ := OP.out.po EP.out B7.out; rw [HD.out] at p3)
              exact ⟨⟨p + 1, by omega, by go_num, K7.out, B7.out⟩, by simp [intOf]; omega⟩
            | false =>
              rw [hd] at p3 DV
              have CG : Hid (∀ W, KAt K w q s2 W → Calls Try.prog 16 #[.pointer (some ⟨q, 0, none⟩), .string o.key] W fun en w' => en = .returned (.tuple #[.string o.val, .int .i64 (sr + 1)]) ∧ Below W.heap.size W w') := fun W hW => by
                have h4 := kget_of hC s2 o.key OZ.out q W hW
                unfold KGet at h4
                rw [DV.1, DV.2, if_neg (by simp), if_neg (by simp)] at h4
                exact h4
              clear DV
              have HD := Lib.hid hd
              have hvv : (o.val.toList == o.val.toList) = true := Kv.teq.2 rfl
              clear hd
              go_wp2_with (go_at_call 16; (with_reducible refine (CG.out _ KP.out).mono ?_); rintro en w7 ⟨rfl, hb7⟩; have K7 := Lib.hid (KP.out.on hC hb7); have B7 := Lib.hid (BP.out.trans (hb7.mono BP.out.size)); clear hb7 p0 p1 p2 p3; obtain ⟨p0, p1, p2, p3⟩ := OP.out.po EP.out B7.out; rw [HD.out] at p3)
              exact ⟨⟨p + 1, by omega, by go_num, K7.out, B7.out⟩, by simp [intOf]; omega⟩
          · have CR := Lib.hid (fun W hW => krev_of hC (w0 := w) s2 q W hW)
            have CN := Lib.hid (fun W hW => klen_of hC (w0 := w) s2 q W hW)
            rw [AR.out] at CR
            have hdl := DL.out
            go_wp2_with (first
              | (go_at_call 21; (with_reducible refine (CR.out _ KP.out).mono ?_); rintro en w8 ⟨rfl, hb8⟩; have K8 := Lib.hid (KP.out.on hC hb8); clear hb8)
              | (go_at_call 23; (with_reducible refine (CN.out _ K8.out).mono ?_); rintro en w9 ⟨rfl, hb9⟩; have K9 := Lib.hid (K8.out.on hC hb9); clear hb9))
            exact ⟨⟨j + 1, by omega, by omega, by go_num, by rw [RS.out, DS.out.1]; exact K9.out⟩, by simp [intOf]; omega⟩
      · have HE := Lib.hid h0
        obtain ⟨x, hx⟩ : ∃ x, x = Kv.doE ⟨sl, sr⟩ ops := ⟨_, rfl⟩
        rw [← hx] at h0
        have hx0 : ((x : Int) == 0) = false := by rw [beq_eq_false_iff_ne]; omega
        have HX := Lib.hid hx
        have HX0 := Lib.hid h0
        have DS := Lib.hid (Kv.doS_no HE.out)
        clear hx
        have S0 : Hid (Kv.since ⟨sl, sr⟩ sr = []) := Kv.since_own GD.out
        have CR := Lib.hid (fun W hW => krev_of hC (w0 := w) ⟨sl, sr⟩ q W hW)
        have CK := Lib.hid (fun W hW => kkeys_of hC (w0 := w) ⟨sl, sr⟩ q W hW)
        have CS := Lib.hid (fun W hW => ksince_of hC (w0 := w) ⟨sl, sr⟩ sr SR.out q W hW)
        rw [S0.out] at CS
        go_upto_region 11 with (first
          | (go_at_call 13; (with_reducible refine (kas_any _ _ c3 A3 _ O4.out.readP (Nat.le_trans CL.out (by omega))).mono ?_); rintro e w5 ⟨v5, rfl, ho5, hb5⟩; obtain ⟨A5, c5, rfl⟩ := ho5.form; have P5 := Lib.hid ho5; have T5 := Lib.hid (OwnTx.any (w1 := w5) (T4.out.below hb5)); have K5 := Lib.hid (K4.out.on hC hb5); have Z5 := Lib.hid hb5.size; clear ho5 hb5)
          | (go_at_call 12; (with_reducible refine (ksi_do_no hC HX.out.symm HX0.out K5.out (by show sr ≤ 1000; omega) P5.out.readP CL.out).mono ?_); rintro e w6 ⟨rfl, hk6, hz6, hkp⟩; have T6 := Lib.hid (OwnTx.any (w1 := w6) (T5.out.since (by have := HNN.out; have := Z2.out; have := Z3.out; omega) hkp)); have K6 := Lib.hid hk6; clear hk6 hz6 hkp))
        go_wp2_with (first
          | (go_at_call 21; (with_reducible refine (CR.out _ K6.out).mono ?_); rintro en w8 ⟨rfl, hb8⟩; have K8 := Lib.hid (K6.out.on hC hb8); have T8 := Lib.hid (OwnTx.any (w1 := w8) (T6.out.below hb8)); clear hb8)
          | (go_at_call 22; (with_reducible refine (CK.out _ K8.out).mono ?_); rintro en w9 ⟨v9, rfl, ho9, hb9⟩; obtain ⟨A9, c9, rfl⟩ := ho9.form; have T9 := Lib.hid ho9; have U9 := Lib.hid (OwnTx.any (w1 := w9) (T8.out.below hb9)); have K9 := Lib.hid (K8.out.on hC hb9); clear hb9 ho9)
          | (go_at_call 18; (with_reducible refine (rsame_any _ _ _ _ _ _ _ _ _ T9.out.readT U9.out.readT).mono ?_); rintro en w10 ⟨⟨y, rfl, hy⟩, hb10⟩; obtain rfl : y = true := hy.2 rfl; have K10 := Lib.hid (K9.out.on hC hb10); clear hb10 hy)
          | (go_at_call 19; (with_reducible refine (CS.out _ K10.out).mono ?_); rintro en w11 ⟨v11, rfl, ho11, hb11⟩; obtain ⟨A11, c11, rfl⟩ := ho11.form; have K11 := Lib.hid (K10.out.on hC hb11); clear hb11 ho11))
        exact ⟨⟨j + 1, by omega, by omega, by go_num, by rw [RS.out, DS.out.1]; exact K11.out⟩, by simp [intOf]; omega⟩
    · by_cases hjn : j < n
      · have hj40 : ¬ (j : Int) < 40 := fun h => hlt ⟨hjn, by omega⟩
        clear hlt
        go_wp2_with fail
        go_ret
        exact ⟨rfl, BW.out⟩
      · clear hlt
        go_wp2_with fail
        go_ret
        exact ⟨rfl, BW.out⟩
end Go.Proofs.Ytmkfiiheeplmgaa
