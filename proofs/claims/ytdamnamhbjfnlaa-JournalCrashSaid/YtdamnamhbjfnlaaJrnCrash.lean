/-
  The walk of the statement JournalCrash, of whatever journal keeps JC.
-/
import Derived.Test.YtdamnamhbjfnlaaJrnJB
import Derived.Test.YtdamnamhbjfnlaaFrMake
import Derived.Test.YtdamnamhbjfnlaaRegion
import Derived.Deep.Cut
import Derived.Deep.DeepCutAuto
namespace Go.Proofs.Ytdamnamhbjfnlaa
open Go.RowKit
set_option linter.unusedSimpArgs false

theorem SlS.drop {w : World} {A : Option Addr} {n c : Nat} {ls : List (List Nat)} (h : SlS w A n c ls) {k : Nat} (hk : k ≤ n) : SlS w (A.map (fun x => x.add k)) (n - k) (c - k) (ls.drop k) := by
  refine ⟨fun hl => ?_, by rw [List.length_drop, ← h.len], by have := h.cap; omega, by have := h.max; omega, fun e => ?_⟩
  · rw [List.length_drop] at hl
    obtain ⟨b, o, rfl, hb, hr⟩ := h.rd (by omega)
    refine ⟨b, o + k, by show some (Addr.add _ _) = _; unfold Addr.add; split <;> simp_all, hb, fun j hj => ?_⟩
    rw [List.length_drop] at hj
    obtain ⟨A', n', c', h1, h2⟩ := hr (k + j) (by omega)
    refine ⟨A', n', c', by rw [Nat.add_assoc]; exact h1, ?_⟩
    rw [List.getD_eq_getElem?_getD, List.getElem?_drop, ← List.getD_eq_getElem?_getD]
    exact h2
  · rw [Option.map_eq_none_iff] at e; have := h.nil e; omega
theorem SlS.dropAll {w : World} {A : Option Addr} {n c : Nat} {ls : List (List Nat)} (h : SlS w A n c ls) {k : Nat} (hk : k ≤ n) (hc : c = k) : SlS w A (n - k) (c - k) (ls.drop k) := by
  have hcap := h.cap
  refine ⟨fun hl => ?_, by rw [List.length_drop, ← h.len], by omega, by have := h.max; omega, fun e => by have := h.nil e; omega⟩
  rw [List.length_drop, ← h.len] at hl
  omega
theorem cr_fits : Dk.fits 10000 = 10000 := rfl
theorem two_facts {W : World} {g : Nat} {x y : Value} {t : TypeId} (h : W.heap[g]? = some (.cells #[x, y] t (0, 0))) : W.cell? ⟨g, 0, none⟩ = some x ∧ W.cell? ⟨g, 1, none⟩ = some y :=
  ⟨by rw [cell_of_row W g 0 _ _ _ h]; rfl, by rw [cell_of_row W g 1 _ _ _ h]; rfl⟩
set_option maxRecDepth 100000 in
set_option maxHeartbeats 6400000 in
theorem jcrash_walk {J : JPred} (hJ : JC J) (n c n' c' : Nat) (A A' : Option Addr) (aa bb : List (List Nat)) (k0 k1 : Int) (hk0 : j64In k0) (hk1 : j64In k1) (w : World) (h : SlS w A n c aa) (h' : SlS w A' n' c' bb) :
    Calls Try.prog 5 #[.slice A n c, .slice A' n' c', .agg #[.int .i64 k0, .int .i64 k1]] w fun e w' => e = .returned (.bool true) ∧ Below w.heap.size w w' := by
  have HJ := Lib.hid hJ
  have H := Lib.hid h
  have H' := Lib.hid h'
  have K0 := Lib.hid hk0
  have K1 := Lib.hid hk1
  have CG : Hid (∀ W n c A aa, SlS W A n c aa → Calls Try.prog 37 #[.slice A n c, .int .i64 5] W (FMPost 5 W)) := fun W n c A aa hs => frMake_any n c 5 A aa W hs (by omega)
  have AB := Lib.hid (alloc_below w (.cells #[.int .i64 k0, .int .i64 k1] 57))
  have G5 := Lib.hid (heap_alloc_new w (.cells #[.int .i64 k0, .int .i64 k1] 57))
  clear hJ h h' hk0 hk1
  go_enter Try.func5, Try.ntmps5
  go_wp2_with fail
  obtain ⟨g5, hg5⟩ : ∃ g5, g5 = w.heap.size := ⟨_, rfl⟩
  rw [← hg5] at G5 ⊢
  generalize w.alloc (.cells #[.int .i64 k0, .int .i64 k1] 57) = w0 at *
  clear hg5
  (with_reducible refine (jlives_any HJ.out _).mono ?_)
  rintro e w1 ⟨rfl, hb1⟩
  have B1 := Lib.hid (AB.out.trans (hb1.mono AB.out.size))
  have G51 : Hid (w1.heap[g5]? = some (.cells #[.int .i64 k0, .int .i64 k1] 57 (0, 0))) := blk_on G5.out hb1
  clear hb1 AB G5
  have C2 := Lib.hid (CG.out w1 n c A aa (H.out.on B1.out))
  go_wp2_with fail
  (with_reducible refine C2.out.mono ?_)
  rintro e w2 ⟨A2, c2, xs, rfl, ho2, hxs, hx5, hb2⟩
  have B2 := Lib.hid (B1.out.trans (hb2.mono B1.out.size))
  have G52 := Lib.hid (blk_on G51.out hb2)
  have OX : Hid (∀ p ∈ xs, Fr.ok p) := fun p hp => (hxs p hp).1
  have PX : Hid (∀ p ∈ xs, p.length ≤ 30) := fun p hp => (hxs p hp).2
  have LX := Lib.hid hx5
  obtain ⟨mx, hmx⟩ : ∃ mx, mx = xs.length := ⟨_, rfl⟩
  rw [← hmx] at ho2 ⊢
  have O2 := Lib.hid (sls_own' hmx ho2)
  have MX := Lib.hid hmx
  clear hb2 hxs hx5 ho2 hmx G51 C2
  have C3 := Lib.hid (CG.out w2 n' c' A' bb (H'.out.on B2.out))
  go_wp2_with fail
  (with_reducible refine C3.out.mono ?_)
  rintro e w3 ⟨A3, c3, ys, rfl, ho3, hys, hy5, hb3⟩
  have B3 := Lib.hid (B2.out.trans (hb3.mono B2.out.size))
  have G53 := Lib.hid (blk_on G52.out hb3)
  have O23 := Lib.hid (O2.out.on hb3)
  have OY : Hid (∀ p ∈ ys, Fr.ok p) := fun p hp => (hys p hp).1
  have PY : Hid (∀ p ∈ ys, p.length ≤ 30) := fun p hp => (hys p hp).2
  have LY := Lib.hid hy5
  obtain ⟨my, hmy⟩ : ∃ my, my = ys.length := ⟨_, rfl⟩
  rw [← hmy] at ho3 ⊢
  have O3 := Lib.hid (sls_own' hmy ho3)
  have MY := Lib.hid hmy
  have CX : Hid (mx ≤ c2) := O2.out.cap
  have CY : Hid (my ≤ c3) := O3.out.cap
  have hmx5 : mx ≤ 5 := by have := MX.out; have := LX.out; omega
  have hmy5 : my ≤ 5 := by have := MY.out; have := LY.out; omega
  have OZ : Hid (∀ p ∈ xs ++ ys, Fr.ok p) := fun p hp => (List.mem_append.1 hp).elim (OX.out p) (OY.out p)
  have AZ : Hid ((Fr.all (xs ++ ys)).length ≤ 10000) := by
    have := Fr.all_small (ls := xs ++ ys) (fun p hp => (List.mem_append.1 hp).elim (PX.out p) (PY.out p))
    rw [List.length_append, ← MX.out, ← MY.out] at this
    show _ ≤ _
    omega
  have AX : Hid ((Fr.all xs).length ≤ 10000) := by
    have := AZ.out
    rw [Fr.all_append, List.length_append] at this
    show _ ≤ _
    omega
  clear hb3 hys hy5 ho3 hmy G52 O2 C3 CG H H' B1 B2
  obtain ⟨g9, hg9⟩ : ∃ g9, g9 = w3.heap.size := ⟨_, rfl⟩
  have BA := Lib.hid (alloc_below w3 (.cells #[.int .i64 0, .int .i64 0] 57))
  have G9 := Lib.hid (heap_alloc_new w3 (.cells #[.int .i64 0, .int .i64 0] 57))
  have L5 : Hid (g5 < g9) := by show _ < _; rw [hg9]; exact (Array.getElem?_eq_some_iff.1 G53.out).1
  rw [← hg9] at G9
  have HG9 := Lib.hid hg9
  clear hg9
  go_wp2_with fail
  rw [← HG9.out]
  generalize w3.alloc (.cells #[.int .i64 0, .int .i64 0] 57) = w4 at *
  go_loopw [10] (fun i wr => ∃ k : Nat, k ≤ 2 ∧ i = .int .i64 k ∧ Below w3.heap.size w3 wr ∧ ∃ l0 l1 : Nat, wr.heap[g9]? = some (.cells #[.int .i64 (l0 : Nat), .int .i64 (l1 : Nat)] 57 (0, 0)) ∧ (1 ≤ k → l0 = Jn.crN mx (xs ++ ys) k0 - mx) ∧ (2 ≤ k → l1 = Jn.crN mx (xs ++ ys) k1 - mx)) (fun i _ => 2 - (intOf i).toNat)
  case atStart => exact ⟨0, by omega, rfl, BA.out, 0, 0, G9.out, by omega, by omega⟩
  case round =>
    obtain ⟨k, hk, rfl, hbr, l0, l1, hg, hl0, hl1⟩ := hrel
    have BR := Lib.hid hbr
    have GR := Lib.hid hg
    have L0 := Lib.hid hl0
    have L1 := Lib.hid hl1
    clear hbr hg hl0 hl1 G9 BA
    by_cases hlt : k < 2
    · obtain ⟨kv, KV, KC⟩ : ∃ kv, Hid (j64In kv) ∧ Hid ((k = 0 ∧ kv = k0) ∨ (k = 1 ∧ kv = k1)) := by
        rcases (show k = 0 ∨ k = 1 by omega) with e | e
        · exact ⟨k0, K0, .inl ⟨e, rfl⟩⟩
        · exact ⟨k1, K1, .inr ⟨e, rfl⟩⟩
      go_wp2_with fail
      (with_reducible refine (dNew_at wr 10000 (Below.refl _ _)).mono ?_)
      rintro e v1 ⟨r, rfl, _, hd1, hb1, _⟩
      have C1 := Lib.hid (jNew_b HJ.out v1 10000 hb1 hd1 (Nat.le_refl _))
      rw [cr_fits] at C1
      clear hd1 hb1
      go_wp2_with fail
      (with_reducible refine C1.out.mono ?_)
      rintro e v2 ⟨q, rfl, hp2⟩
      have P2 := Lib.hid hp2
      clear hp2 C1
      go_wp2_with fail
      go_loopw [13] (fun i W => ∃ j : Nat, j ≤ mx ∧ i = .int .i64 j ∧ JB J wr q r (Jn.Js 10000 0 (xs.take j)) W) (fun i _ => mx - (intOf i).toNat)
      case atStart => exact ⟨0, by omega, rfl, P2.out⟩
      case round =>
        obtain ⟨j, hj, rfl, hp⟩ := hrel
        rename World => W
        have P := Lib.hid hp
        clear hp P2
        by_cases hjl : j < mx
        · have OW := Lib.hid ((O23.out.on BR.out).on P.out.below)
          obtain ⟨b, o, rfl, _, hrow⟩ := OW.out.rd (by have := MX.out; omega)
          obtain ⟨A5, n5, c5, hc5, hs5⟩ := hrow j (by have := MX.out; omega)
          have HS5 := Lib.hid hs5
          have N5 : Hid (n5 ≤ 900000000) := by
            have h1 := hs5.len
            have h2 : j < xs.length := by have := MX.out; omega
            have h3 := PX.out (xs.getD j []) (by rw [List.getD_eq_getElem?_getD, List.getElem?_eq_getElem h2]; exact List.getElem_mem h2)
            show _ ≤ _
            omega
          have E5 := Lib.hid (Jn.js_app_at (R := 10000) (k := 0) (xs := []) OX.out (Nat.zero_le _) (j := j) (by have := MX.out; omega) AX.out)
          simp only [List.nil_append] at E5
          have hcc := CX.out
          clear hrow hs5 OW
          go_wp2_with fail
          refine (jAppend_b HJ.out _ P.out HS5.out N5.out).mono ?_
          rw [E5.out.1, E5.out.2]
          rintro e v5 ⟨rfl, hp5⟩
          have P5 := Lib.hid hp5
          clear hp5
          go_wp2_with fail
          exact ⟨⟨j + 1, by omega, by go_num, P5.out⟩, by simp [intOf]; omega⟩
        · obtain rfl : j = mx := by omega
          have P6 : Hid (JB J wr q r (Jn.Js 10000 0 xs) W) := by
            have e : xs.take j = xs := List.take_of_length_le (by rw [MX.out]; exact Nat.le_refl _)
            have := P.out
            rw [e] at this
            exact this
          have HSY : Hid (Dk.sync (Jn.Js 10000 0 xs) = Jn.Js 10000 j (xs ++ ys.take 0) ∧ Jn.syncN (Jn.Js 10000 0 xs) = (j : Int)) := by
            refine ⟨?_, ?_⟩
            · rw [Jn.js_sync, List.take_zero, List.append_nil, ← MX.out]
            · unfold Jn.syncN
              rw [Jn.js_ents OX.out, Jn.js_safe OX.out (Nat.zero_le _), ← MX.out]
              simp
          clear P
          go_wp2_with fail
          refine (jSync_b HJ.out _ P6.out).mono ?_
          rw [HSY.out.1, HSY.out.2]
          rintro e v7 ⟨rfl, hp7⟩
          have P7 := Lib.hid hp7
          clear hp7 P6 HSY
          go_wp2_with fail
          go_loopw [14] (fun i W => ∃ y : Nat, y ≤ my ∧ i = .int .i64 y ∧ JB J wr q r (Jn.Js 10000 j (xs ++ ys.take y)) W) (fun i _ => my - (intOf i).toNat)
          case atStart => exact ⟨0, by omega, rfl, P7.out⟩
          case round =>
            obtain ⟨y, hy, rfl, hp⟩ := hrel
            rename World => V
            have P := Lib.hid hp
            clear hp P7
            by_cases hyl : y < my
            · have OW := Lib.hid ((O3.out.on BR.out).on P.out.below)
              obtain ⟨b, o, rfl, _, hrow⟩ := OW.out.rd (by have := MY.out; omega)
              obtain ⟨A5, n5, c5, hc5, hs5⟩ := hrow y (by have := MY.out; omega)
              have HS5 := Lib.hid hs5
              have N5 : Hid (n5 ≤ 900000000) := by
                have h1 := hs5.len
                have h2 : y < ys.length := by have := MY.out; omega
                have h3 := PY.out (ys.getD y []) (by rw [List.getD_eq_getElem?_getD, List.getElem?_eq_getElem h2]; exact List.getElem_mem h2)
                show _ ≤ _
                omega
              have E5 := Lib.hid (Jn.js_app_at (R := 10000) (k := j) (xs := xs) OY.out (by rw [MX.out]; exact Nat.le_refl _) (j := y) (by have := MY.out; omega) AZ.out)
              have hcc := CY.out
              clear hrow hs5 OW
              go_wp2_with fail
              refine (jAppend_b HJ.out _ P.out HS5.out N5.out).mono ?_
              rw [E5.out.1, E5.out.2]
              rintro e v5 ⟨rfl, hp5⟩
              have P5 := Lib.hid hp5
              clear hp5
              go_wp2_with fail
              exact ⟨⟨y + 1, by omega, by go_num, P5.out⟩, by simp [intOf]; omega⟩
            · obtain rfl : y = my := by omega
              obtain ⟨zs, hzs⟩ : ∃ zs, zs = xs ++ ys := ⟨_, rfl⟩
              have P8 : Hid (JB J wr q r (Jn.Js 10000 j zs) V) := by
                have e : ys.take y = ys := List.take_of_length_le (by rw [MY.out]; exact Nat.le_refl _)
                have := P.out
                rw [e, ← hzs] at this
                exact this
              rw [← hzs] at OZ L0 L1
              have ZL : Hid (zs.length = j + y) := by show _ = _; rw [hzs, List.length_append, ← MX.out, ← MY.out]
              have HZ := Lib.hid hzs
              have hjz : Hid (j ≤ zs.length) := by show _ ≤ _; rw [ZL.out]; omega
              obtain ⟨hc1, hc2, hc3⟩ := Jn.js_crash (R := 10000) OZ.out hjz.out kv
              obtain ⟨nn, hnn⟩ : ∃ nn, nn = Jn.crN j zs kv := ⟨_, rfl⟩
              rw [← hnn] at hc1 hc2 hc3
              rw [ZL.out] at hc3
              obtain ⟨ee, hee⟩ : ∃ ee, nn = j + ee := ⟨nn - j, by omega⟩
              obtain ⟨lo, hlo⟩ : ∃ lo, y = ee + lo := ⟨y - ee, by omega⟩
              have OT : Hid (∀ p ∈ zs.take nn, Fr.ok p) := fun p hp => OZ.out p (List.mem_of_mem_take hp)
              have LT : Hid ((zs.take nn).length = nn) := by show _ = _; rw [List.length_take, ZL.out]; omega
              have HC : Hid (Jn.crash (Jn.Js 10000 j zs) kv = Jn.Js 10000 nn (zs.take nn) ∧ Jn.lost (Jn.Js 10000 j zs) kv = (lo : Int)) := by
                refine ⟨hc1, ?_⟩
                unfold Jn.lost
                rw [hc1, Jn.js_ents OZ.out, Jn.js_ents OT.out, LT.out, ZL.out]
                omega
              have NN := Lib.hid hnn
              have TX : Hid ((zs.take nn).take j = xs) := by
                show _ = _
                rw [List.take_take, hzs, show min j nn = xs.length from by rw [← MX.out]; omega, List.take_left']
                rfl
              have TY : Hid ((zs.take nn).drop j = ys.take ee) := by
                show _ = _
                rw [hzs, hee, MX.out, List.take_append, List.take_of_length_le (by omega), List.drop_left']
                · congr 1; omega
                · rfl
              have hw1 : IntKind.i64.wrap ((nn : Int) - (j : Int)) = (ee : Int) := by rw [show (nn : Int) - (j : Int) = (ee : Int) from by omega]; exact IntWalk.i64_in _ (by omega)
              have hw2 : IntKind.i64.wrap ((ee : Int) + (lo : Int)) = (y : Int) := by rw [show (ee : Int) + (lo : Int) = (y : Int) from by omega]; exact IntWalk.i64_in _ (by omega)
              have hey : ee ≤ y := by omega
              have hjn : j ≤ nn := hc2
              have hnj : nn - j = ee := by omega
              have HN := Lib.hid hnj
              have hn10 : nn ≤ 10 := by omega
              clear P hzs hc1 hnn hee hlo hc2 hc3
              go_wp2_with fail
              refine (jSafe_b HJ.out _ P8.out).mono ?_
              rw [Jn.js_safe OZ.out hjz.out]
              rintro e v9 ⟨⟨rfl, hp9⟩, _⟩
              have P9 := Lib.hid hp9
              clear hp9 P8
              go_wp2_with fail
              refine (jLen_b HJ.out _ P9.out).mono ?_
              rw [Jn.js_ents OZ.out, ZL.out]
              rintro e v10 ⟨⟨rfl, hp10⟩, _⟩
              have P10 := Lib.hid hp10
              have hkc : v10.cell? ⟨g5, k, none⟩ = some (.int .i64 kv) := by
                have hb := blk_on (blk_on G53.out BR.out) hp10.below
                rcases KC.out with ⟨rfl, rfl⟩ | ⟨rfl, rfl⟩
                · exact (two_facts hb).1
                · exact (two_facts hb).2
              clear hp10 P9
              go_wp2_with fail
              refine (jCrash_b HJ.out _ P10.out KV.out).mono ?_
              rw [HC.out.1, HC.out.2]
              rintro e v11 ⟨rfl, hp11⟩
              have P11 := Lib.hid hp11
              clear hp11 P10 hkc HC
              go_wp2_with fail
              refine (jAll_b HJ.out _ P11.out).mono ?_
              rw [Jn.js_ents OT.out]
              rintro e v12 ⟨A12, c12, rfl, ho12, hp12, _⟩
              have S12 := Lib.hid (sls_own' rfl ho12)
              rw [LT.out] at S12 ⊢
              have P12 := Lib.hid hp12
              have C12 : Hid (nn ≤ c12) := S12.out.cap
              have SX := Lib.hid ((O23.out.on BR.out).on hp12.below)
              have SY := Lib.hid (((O3.out.on BR.out).on hp12.below).take (k := ee) (by omega))
              have S12a : Hid (SlS v12 A12 j c12 xs) := by have := S12.out.take (k := j) (by omega); rw [TX.out] at this; exact this
              have hj12 : j ≤ c12 := by have := C12.out; omega
              have hn12 : nn ≤ c12 := C12.out
              have he3 : ee ≤ c3 := by have := CY.out; omega
              clear hnj ho12 hp12 P11
              go_upto_region 24 with fail
              have PD := Lib.hid (P12.out.on HJ.out (Below.refl v12.heap.size v12).drew)
              have SXD := Lib.hid (SX.out.on (Below.refl v12.heap.size v12).drew)
              have SYD := Lib.hid (SY.out.on (Below.refl v12.heap.size v12).drew)
              have S12D := Lib.hid (S12.out.on (Below.refl v12.heap.size v12).drew)
              have S12aD := Lib.hid (S12a.out.on (Below.refl v12.heap.size v12).drew)
              clear P12 SX SY S12 S12a
              have hee0 : decide ((ee : Int) < 0) = false := decide_eq_false (by omega)
              by_cases hcj : c12 = j
              · have hcj2 : j = c12 := hcj.symm
                subst hcj2
                have H0 : Hid (ee = 0) := by have := HN.out; show _ = _; omega
                have S12b : Hid (SlS v12.drew A12 0 0 (ys.take ee)) := by
                  have := S12D.out.dropAll (k := j) (by omega) rfl
                  rw [TY.out, HN.out, Nat.sub_self] at this
                  have h0 := H0.out
                  show SlS _ _ _ _ _
                  rw [h0] at this ⊢
                  exact this
                clear S12D
                refine wp_region_held_drew (S := fun W => True) (by kernel_rfl) trivial (fun hS => ?_)
                generalize v12.drew = vd at *
                refine tkYes 0 (v := ?_) rfl (by kernel_rfl) (fun _ _ _ h => h) rfl ?_ hS ?_
                rotate_left
                · intro W hW; go_simp; (try with_reducible rfl)
                simp only [Act.put, List.setIfInBounds_toArray, List.set_cons_zero, List.set_cons_succ]
                refine tkYes 1 (v := ?_) rfl (by kernel_rfl) (fun _ _ _ h => h) rfl ?_ hS ?_
                rotate_left
                · intro W hW; go_simp; (try with_reducible rfl)
                simp only [Act.put, List.setIfInBounds_toArray, List.set_cons_zero, List.set_cons_succ]
                refine tkYes 2 (v := ?_) rfl (by kernel_rfl) (fun _ _ _ h => h) rfl ?_ hS ?_
                rotate_left
                · intro W hW; go_simp; (try with_reducible rfl)
                simp only [Act.put, List.setIfInBounds_toArray, List.set_cons_zero, List.set_cons_succ]
                refine tkYes 3 (v := ?_) rfl (by kernel_rfl) (fun _ _ _ h => h) rfl ?_ hS ?_
                rotate_left
                · intro W hW; go_simp; (try with_reducible rfl)
                simp only [Act.put, List.setIfInBounds_toArray, List.set_cons_zero, List.set_cons_succ]
                refine tkYes 4 (v := ?_) rfl (by kernel_rfl) (fun _ _ _ h => h) rfl ?_ hS ?_
                rotate_left
                · intro W hW; go_simp; (try with_reducible rfl)
                simp only [Act.put, List.setIfInBounds_toArray, List.set_cons_zero, List.set_cons_succ]
                refine tkYes 5 (v := ?_) rfl (by kernel_rfl) (fun _ _ _ h => h) rfl ?_ hS ?_
                rotate_left
                · intro W hW; go_simp; (try with_reducible rfl)
                simp only [Act.put, List.setIfInBounds_toArray, List.set_cons_zero, List.set_cons_succ]
                refine tkYes 6 (v := ?_) rfl (by kernel_rfl) (fun _ _ _ h => h) rfl ?_ hS ?_
                rotate_left
                · intro W hW; go_simp; (try with_reducible rfl)
                simp only [Act.put, List.setIfInBounds_toArray, List.set_cons_zero, List.set_cons_succ]
                refine tkYes 7 (v := ?_) rfl (by kernel_rfl) (fun _ _ _ h => h) rfl ?_ hS ?_
                rotate_left
                · intro W hW; go_simp; (try with_reducible rfl)
                simp only [Act.put, List.setIfInBounds_toArray, List.set_cons_zero, List.set_cons_succ]
                refine tkYes 8 (v := ?_) rfl (by kernel_rfl) (fun _ _ _ h => h) rfl ?_ hS ?_
                rotate_left
                · intro W hW; go_simp; (try with_reducible rfl)
                simp only [Act.put, List.setIfInBounds_toArray, List.set_cons_zero, List.set_cons_succ]
                refine tkYes 9 (v := ?_) rfl (by kernel_rfl) (fun _ _ _ h => h) rfl ?_ hS ?_
                rotate_left
                · intro W hW; go_simp; (try with_reducible rfl)
                simp only [Act.put, List.setIfInBounds_toArray, List.set_cons_zero, List.set_cons_succ]
                refine tkYes 10 (v := ?_) rfl (by kernel_rfl) (fun _ _ _ h => h) rfl ?_ hS ?_
                rotate_left
                · intro W hW; go_simp; (try with_reducible rfl)
                simp only [Act.put, List.setIfInBounds_toArray, List.set_cons_zero, List.set_cons_succ]
                refine tkYes 11 (v := ?_) rfl (by kernel_rfl) (fun _ _ _ h => h) rfl ?_ hS ?_
                rotate_left
                · intro W hW; go_simp; (try with_reducible rfl)
                simp only [Act.put, List.setIfInBounds_toArray, List.set_cons_zero, List.set_cons_succ]
                refine tkYes 12 (v := ?_) rfl (by kernel_rfl) (fun _ _ _ h => h) rfl ?_ hS ?_
                rotate_left
                · intro W hW; go_simp; (try with_reducible rfl)
                simp only [Act.put, List.setIfInBounds_toArray, List.set_cons_zero, List.set_cons_succ]
                refine tkYes 13 (v := ?_) rfl (by kernel_rfl) (fun _ _ _ h => h) rfl ?_ hS ?_
                rotate_left
                · intro W hW; go_simp; (try with_reducible rfl)
                simp only [Act.put, List.setIfInBounds_toArray, List.set_cons_zero, List.set_cons_succ]
                refine tkYes 14 (v := ?_) rfl (by kernel_rfl) (fun _ _ _ h => h) rfl ?_ hS ?_
                rotate_left
                · intro W hW; go_simp; (try with_reducible rfl)
                simp only [Act.put, List.setIfInBounds_toArray, List.set_cons_zero, List.set_cons_succ]
                refine tkYes 15 (v := ?_) rfl (by kernel_rfl) (fun _ _ _ h => h) rfl ?_ hS ?_
                rotate_left
                · intro W hW; go_simp; (try with_reducible rfl)
                simp only [Act.put, List.setIfInBounds_toArray, List.set_cons_zero, List.set_cons_succ]
                refine rnOne 16 rfl (by kernel_rfl) rfl (fun K hK => ?_)
                go_simp
                (with_reducible refine (frSame_any j j c2 A12 A2 xs _ S12aD.out SXD.out (by omega)).mono ?_)
                rintro e v13 ⟨rfl, dd, rfl⟩
                have hbX := Below.drewN (Below.refl vd.heap.size vd) dd
                replace PD := Lib.hid (PD.out.on HJ.out hbX)
                replace SXD := Lib.hid (SXD.out.on hbX)
                replace SYD := Lib.hid (SYD.out.on hbX)
                replace S12b := Lib.hid (S12b.out.on hbX)
                clear hS hbX
                have hS : True := trivial
                generalize vd.drewN dd = ve at *
                refine hK.out _ _ hS (fun _ => ?_)
                clear hK K
                try simp only [Act.put, List.setIfInBounds_toArray, List.set_cons_zero, List.set_cons_succ]
                refine tkYes 17 (v := ?_) rfl (by kernel_rfl) (fun _ _ _ h => h) rfl ?_ hS ?_
                rotate_left
                · intro W hW; go_simp; (try with_reducible rfl)
                simp only [Act.put, List.setIfInBounds_toArray, List.set_cons_zero, List.set_cons_succ]
                refine tkYes 18 (v := ?_) rfl (by kernel_rfl) (fun _ _ _ h => h) rfl ?_ hS ?_
                rotate_left
                · intro W hW; go_simp; (try with_reducible rfl)
                simp only [Act.put, List.setIfInBounds_toArray, List.set_cons_zero, List.set_cons_succ]
                refine tkYes 19 (v := ?_) rfl (by kernel_rfl) (fun _ _ _ h => h) rfl ?_ hS ?_
                rotate_left
                · intro W hW; go_simp; (try with_reducible rfl)
                simp only [Act.put, List.setIfInBounds_toArray, List.set_cons_zero, List.set_cons_succ]
                refine tkYes 20 (v := ?_) rfl (by kernel_rfl) (fun _ _ _ h => h) rfl ?_ hS ?_
                rotate_left
                · intro W hW; go_simp; (try with_reducible rfl)
                simp only [Act.put, List.setIfInBounds_toArray, List.set_cons_zero, List.set_cons_succ]
                refine tkYes 21 (v := ?_) rfl (by kernel_rfl) (fun _ _ _ h => h) rfl ?_ hS ?_
                rotate_left
                · intro W hW; go_simp; (try with_reducible rfl)
                simp only [Act.put, List.setIfInBounds_toArray, List.set_cons_zero, List.set_cons_succ]
                refine tkYes 22 (v := ?_) rfl (by kernel_rfl) (fun _ _ _ h => h) rfl ?_ hS ?_
                rotate_left
                · intro W hW; go_simp; (try with_reducible rfl)
                simp only [Act.put, List.setIfInBounds_toArray, List.set_cons_zero, List.set_cons_succ]
                refine tkYes 23 (v := ?_) rfl (by kernel_rfl) (fun _ _ _ h => h) rfl ?_ hS ?_
                rotate_left
                · intro W hW; go_simp; (try with_reducible rfl)
                simp only [Act.put, List.setIfInBounds_toArray, List.set_cons_zero, List.set_cons_succ]
                refine tkYes 24 (v := ?_) rfl (by kernel_rfl) (fun _ _ _ h => h) rfl ?_ hS ?_
                rotate_left
                · intro W hW; go_simp; (try with_reducible rfl)
                simp only [Act.put, List.setIfInBounds_toArray, List.set_cons_zero, List.set_cons_succ]
                refine tkYes 25 (v := ?_) rfl (by kernel_rfl) (fun _ _ _ h => h) rfl ?_ hS ?_
                rotate_left
                · intro W hW; go_simp; (try with_reducible rfl)
                simp only [Act.put, List.setIfInBounds_toArray, List.set_cons_zero, List.set_cons_succ]
                refine tkYes 26 (v := ?_) rfl (by kernel_rfl) (fun _ _ _ h => h) rfl ?_ hS ?_
                rotate_left
                · intro W hW; go_simp; (try with_reducible rfl)
                simp only [Act.put, List.setIfInBounds_toArray, List.set_cons_zero, List.set_cons_succ]
                refine rnOne 27 rfl (by kernel_rfl) rfl (fun K hK => ?_)
                go_simp
                have CS : Calls Try.prog 27 #[.slice A12 0 0, .slice A3 ee c3] ve (fun e w' => e = .returned (.bool true) ∧ ∃ d, w' = ve.drewN d) := by
                  have h1 := S12b.out
                  have h2 := SYD.out
                  rw [H0.out] at h1 h2 ⊢
                  exact frSame_any 0 0 c3 A12 A3 (ys.take 0) _ h1 h2 (by omega)
                (with_reducible refine CS.mono ?_)
                clear CS
                rintro e v14 ⟨rfl, dd2, rfl⟩
                have hbX := Below.drewN (Below.refl ve.heap.size ve) dd2
                replace PD := Lib.hid (PD.out.on HJ.out hbX)
                replace SXD := Lib.hid (SXD.out.on hbX)
                replace SYD := Lib.hid (SYD.out.on hbX)
                replace S12b := Lib.hid (S12b.out.on hbX)
                clear hS hbX
                have hS : True := trivial
                generalize ve.drewN dd2 = vf at *
                refine hK.out _ _ hS (fun _ => ?_)
                clear hK K
                try simp only [Act.put, List.setIfInBounds_toArray, List.set_cons_zero, List.set_cons_succ]
                refine tkYes 28 (v := ?_) rfl (by kernel_rfl) (fun _ _ _ h => h) rfl ?_ hS ?_
                rotate_left
                · intro W hW; go_simp; (try with_reducible rfl)
                simp only [Act.put, List.setIfInBounds_toArray, List.set_cons_zero, List.set_cons_succ]
                refine tkYes 29 (v := ?_) rfl (by kernel_rfl) (fun _ _ _ h => h) rfl ?_ hS ?_
                rotate_left
                · intro W hW; go_simp; (try with_reducible rfl)
                simp only [Act.put, List.setIfInBounds_toArray, List.set_cons_zero, List.set_cons_succ]
                refine tkYes 30 (v := ?_) rfl (by kernel_rfl) (fun _ _ _ h => h) rfl ?_ hS ?_
                rotate_left
                · intro W hW; go_simp; (try with_reducible rfl)
                simp only [Act.put, List.setIfInBounds_toArray, List.set_cons_zero, List.set_cons_succ]
                refine tkYes 31 (v := ?_) rfl (by kernel_rfl) (fun _ _ _ h => h) rfl ?_ hS ?_
                rotate_left
                · intro W hW; go_simp; (try with_reducible rfl)
                simp only [Act.put, List.setIfInBounds_toArray, List.set_cons_zero, List.set_cons_succ]
                refine tkYes 33 (v := ?_) rfl (by kernel_rfl) (fun _ _ _ h => h) rfl ?_ hS ?_
                rotate_left
                · intro W hW; go_simp; (try with_reducible rfl)
                simp only [Act.put, List.setIfInBounds_toArray, List.set_cons_zero, List.set_cons_succ]
                refine tkYes 34 (v := ?_) rfl (by kernel_rfl) (fun _ _ _ h => h) rfl ?_ hS ?_
                rotate_left
                · intro W hW; go_simp; (try with_reducible rfl)
                simp only [Act.put, List.setIfInBounds_toArray, List.set_cons_zero, List.set_cons_succ]
                refine rnOne 32 rfl (by kernel_rfl) rfl (fun K hK => ?_)
                go_simp
                refine (jSafe_b HJ.out _ PD.out).mono ?_
                rw [Jn.js_safe OT.out (by rw [LT.out]; exact Nat.le_refl _)]
                rintro e v15 ⟨⟨rfl, hp15⟩, hbX⟩
                replace PD := Lib.hid (PD.out.on HJ.out hbX)
                replace SXD := Lib.hid (SXD.out.on hbX)
                replace SYD := Lib.hid (SYD.out.on hbX)
                replace S12b := Lib.hid (S12b.out.on hbX)
                clear hS hbX
                have hS : True := trivial
                refine hK.out _ _ hS (fun _ => ?_)
                clear hK K
                try simp only [Act.put, List.setIfInBounds_toArray, List.set_cons_zero, List.set_cons_succ]
                refine tkYes 35 (v := ?_) rfl (by kernel_rfl) (fun _ _ _ h => h) rfl ?_ hS ?_
                rotate_left
                · intro W hW; go_simp; (try with_reducible rfl)
                simp only [Act.put, List.setIfInBounds_toArray, List.set_cons_zero, List.set_cons_succ]
                refine tkYes 36 (v := ?_) rfl (by kernel_rfl) (fun _ _ _ h => h) rfl ?_ hS ?_
                rotate_left
                · intro W hW; go_simp; (try with_reducible rfl)
                simp only [Act.put, List.setIfInBounds_toArray, List.set_cons_zero, List.set_cons_succ]
                refine wpAnyH_done (by kernel_rfl) ?_ _
                have GN := Lib.hid (blk_on GR.out PD.out.below)
                obtain ⟨e0, e1⟩ := two_facts GN.out
                have hex : ∃ x, v15.cell? ⟨g9, k, none⟩ = some x := by
                  rcases KC.out with ⟨rfl, _⟩ | ⟨rfl, _⟩
                  · exact ⟨_, e0⟩
                  · exact ⟨_, e1⟩
                obtain ⟨x9, hx9⟩ := hex
                have hf9 : v15.frozen? ⟨g9, k, none⟩ = false := frozen_of_row v15 g9 k _ _ GN.out
                clear e0 e1
                go_wp2_with fail
                have hset := heap_setCell_same v15 g9 k _ _ (.int .i64 (ee : Nat)) GN.out
                have hbl : Below w3.heap.size w3 (v15.setCell ⟨g9, k, none⟩ (.int .i64 (ee : Nat))) := (BR.out.trans (PD.out.below.mono BR.out.size)).setCell (by show _ ≤ _; rw [HG9.out]; exact Nat.le_refl _) _
                rcases KC.out with ⟨rfl, rfl⟩ | ⟨rfl, rfl⟩
                · exact ⟨⟨1, by omega, by go_num, hbl, ee, l1, hset, fun _ => by rw [← HZ.out, ← NN.out]; exact HN.out.symm, fun hx => by omega⟩, by simp [intOf]⟩
                · exact ⟨⟨2, by omega, by go_num, hbl, l0, ee, hset, fun _ => by rw [← HZ.out]; exact L0.out (by omega), fun _ => by rw [← HZ.out, ← NN.out]; exact HN.out.symm⟩, by simp [intOf]⟩
              · have S12b : Hid (SlS v12.drew (A12.map (fun x => x.add j)) ee (c12 - j) (ys.take ee)) := by have := S12D.out.drop (k := j) (by omega); rw [TY.out, HN.out] at this; exact this
                clear S12D
                refine wp_region_held_drew (S := fun W => True) (by kernel_rfl) trivial (fun hS => ?_)
                generalize v12.drew = vd at *
                refine tkYes 0 (v := ?_) rfl (by kernel_rfl) (fun _ _ _ h => h) rfl ?_ hS ?_
                rotate_left
                · intro W hW; go_simp; (try with_reducible rfl)
                simp only [Act.put, List.setIfInBounds_toArray, List.set_cons_zero, List.set_cons_succ]
                refine tkYes 1 (v := ?_) rfl (by kernel_rfl) (fun _ _ _ h => h) rfl ?_ hS ?_
                rotate_left
                · intro W hW; go_simp; (try with_reducible rfl)
                simp only [Act.put, List.setIfInBounds_toArray, List.set_cons_zero, List.set_cons_succ]
                refine tkYes 2 (v := ?_) rfl (by kernel_rfl) (fun _ _ _ h => h) rfl ?_ hS ?_
                rotate_left
                · intro W hW; go_simp; (try with_reducible rfl)
                simp only [Act.put, List.setIfInBounds_toArray, List.set_cons_zero, List.set_cons_succ]
                refine tkYes 3 (v := ?_) rfl (by kernel_rfl) (fun _ _ _ h => h) rfl ?_ hS ?_
                rotate_left
                · intro W hW; go_simp; (try with_reducible rfl)
                simp only [Act.put, List.setIfInBounds_toArray, List.set_cons_zero, List.set_cons_succ]
                refine tkYes 4 (v := ?_) rfl (by kernel_rfl) (fun _ _ _ h => h) rfl ?_ hS ?_
                rotate_left
                · intro W hW; go_simp; (try with_reducible rfl)
                simp only [Act.put, List.setIfInBounds_toArray, List.set_cons_zero, List.set_cons_succ]
                refine tkYes 5 (v := ?_) rfl (by kernel_rfl) (fun _ _ _ h => h) rfl ?_ hS ?_
                rotate_left
                · intro W hW; go_simp; (try with_reducible rfl)
                simp only [Act.put, List.setIfInBounds_toArray, List.set_cons_zero, List.set_cons_succ]
                refine tkYes 6 (v := ?_) rfl (by kernel_rfl) (fun _ _ _ h => h) rfl ?_ hS ?_
                rotate_left
                · intro W hW; go_simp; (try with_reducible rfl)
                simp only [Act.put, List.setIfInBounds_toArray, List.set_cons_zero, List.set_cons_succ]
                refine tkYes 7 (v := ?_) rfl (by kernel_rfl) (fun _ _ _ h => h) rfl ?_ hS ?_
                rotate_left
                · intro W hW; go_simp; (try with_reducible rfl)
                simp only [Act.put, List.setIfInBounds_toArray, List.set_cons_zero, List.set_cons_succ]
                refine tkYes 8 (v := ?_) rfl (by kernel_rfl) (fun _ _ _ h => h) rfl ?_ hS ?_
                rotate_left
                · intro W hW; go_simp; (try with_reducible rfl)
                simp only [Act.put, List.setIfInBounds_toArray, List.set_cons_zero, List.set_cons_succ]
                refine tkYes 9 (v := ?_) rfl (by kernel_rfl) (fun _ _ _ h => h) rfl ?_ hS ?_
                rotate_left
                · intro W hW; go_simp; (try with_reducible rfl)
                simp only [Act.put, List.setIfInBounds_toArray, List.set_cons_zero, List.set_cons_succ]
                refine tkYes 10 (v := ?_) rfl (by kernel_rfl) (fun _ _ _ h => h) rfl ?_ hS ?_
                rotate_left
                · intro W hW; go_simp; (try with_reducible rfl)
                simp only [Act.put, List.setIfInBounds_toArray, List.set_cons_zero, List.set_cons_succ]
                refine tkYes 11 (v := ?_) rfl (by kernel_rfl) (fun _ _ _ h => h) rfl ?_ hS ?_
                rotate_left
                · intro W hW; go_simp; (try with_reducible rfl)
                simp only [Act.put, List.setIfInBounds_toArray, List.set_cons_zero, List.set_cons_succ]
                refine tkYes 12 (v := ?_) rfl (by kernel_rfl) (fun _ _ _ h => h) rfl ?_ hS ?_
                rotate_left
                · intro W hW; go_simp; (try with_reducible rfl)
                simp only [Act.put, List.setIfInBounds_toArray, List.set_cons_zero, List.set_cons_succ]
                refine tkYes 13 (v := ?_) rfl (by kernel_rfl) (fun _ _ _ h => h) rfl ?_ hS ?_
                rotate_left
                · intro W hW; go_simp; (try with_reducible rfl)
                simp only [Act.put, List.setIfInBounds_toArray, List.set_cons_zero, List.set_cons_succ]
                refine tkYes 14 (v := ?_) rfl (by kernel_rfl) (fun _ _ _ h => h) rfl ?_ hS ?_
                rotate_left
                · intro W hW; go_simp; (try with_reducible rfl)
                simp only [Act.put, List.setIfInBounds_toArray, List.set_cons_zero, List.set_cons_succ]
                refine tkYes 15 (v := ?_) rfl (by kernel_rfl) (fun _ _ _ h => h) rfl ?_ hS ?_
                rotate_left
                · intro W hW; go_simp; (try with_reducible rfl)
                simp only [Act.put, List.setIfInBounds_toArray, List.set_cons_zero, List.set_cons_succ]
                refine rnOne 16 rfl (by kernel_rfl) rfl (fun K hK => ?_)
                go_simp
                (with_reducible refine (frSame_any j c12 c2 A12 A2 xs _ S12aD.out SXD.out (by omega)).mono ?_)
                rintro e v13 ⟨rfl, dd, rfl⟩
                have hbX := Below.drewN (Below.refl vd.heap.size vd) dd
                replace PD := Lib.hid (PD.out.on HJ.out hbX)
                replace SXD := Lib.hid (SXD.out.on hbX)
                replace SYD := Lib.hid (SYD.out.on hbX)
                replace S12b := Lib.hid (S12b.out.on hbX)
                clear hS hbX
                have hS : True := trivial
                generalize vd.drewN dd = ve at *
                refine hK.out _ _ hS (fun _ => ?_)
                clear hK K
                try simp only [Act.put, List.setIfInBounds_toArray, List.set_cons_zero, List.set_cons_succ]
                refine tkYes 17 (v := ?_) rfl (by kernel_rfl) (fun _ _ _ h => h) rfl ?_ hS ?_
                rotate_left
                · intro W hW; go_simp; (try with_reducible rfl)
                simp only [Act.put, List.setIfInBounds_toArray, List.set_cons_zero, List.set_cons_succ]
                refine tkYes 18 (v := ?_) rfl (by kernel_rfl) (fun _ _ _ h => h) rfl ?_ hS ?_
                rotate_left
                · intro W hW; go_simp; (try with_reducible rfl)
                simp only [Act.put, List.setIfInBounds_toArray, List.set_cons_zero, List.set_cons_succ]
                refine tkYes 19 (v := ?_) rfl (by kernel_rfl) (fun _ _ _ h => h) rfl ?_ hS ?_
                rotate_left
                · intro W hW; go_simp; (try with_reducible rfl)
                simp only [Act.put, List.setIfInBounds_toArray, List.set_cons_zero, List.set_cons_succ]
                refine tkYes 20 (v := ?_) rfl (by kernel_rfl) (fun _ _ _ h => h) rfl ?_ hS ?_
                rotate_left
                · intro W hW; go_simp; (try with_reducible rfl)
                simp only [Act.put, List.setIfInBounds_toArray, List.set_cons_zero, List.set_cons_succ]
                refine tkYes 21 (v := ?_) rfl (by kernel_rfl) (fun _ _ _ h => h) rfl ?_ hS ?_
                rotate_left
                · intro W hW; go_simp; (try with_reducible rfl)
                simp only [Act.put, List.setIfInBounds_toArray, List.set_cons_zero, List.set_cons_succ]
                refine tkYes 22 (v := ?_) rfl (by kernel_rfl) (fun _ _ _ h => h) rfl ?_ hS ?_
                rotate_left
                · intro W hW; go_simp; (try with_reducible rfl)
                simp only [Act.put, List.setIfInBounds_toArray, List.set_cons_zero, List.set_cons_succ]
                refine tkYes 23 (v := ?_) rfl (by kernel_rfl) (fun _ _ _ h => h) rfl ?_ hS ?_
                rotate_left
                · intro W hW; go_simp; (try with_reducible rfl)
                simp only [Act.put, List.setIfInBounds_toArray, List.set_cons_zero, List.set_cons_succ]
                refine tkYes 24 (v := ?_) rfl (by kernel_rfl) (fun _ _ _ h => h) rfl ?_ hS ?_
                rotate_left
                · intro W hW; go_simp; (try with_reducible rfl)
                simp only [Act.put, List.setIfInBounds_toArray, List.set_cons_zero, List.set_cons_succ]
                refine tkYes 25 (v := ?_) rfl (by kernel_rfl) (fun _ _ _ h => h) rfl ?_ hS ?_
                rotate_left
                · intro W hW; go_simp; (try with_reducible rfl)
                simp only [Act.put, List.setIfInBounds_toArray, List.set_cons_zero, List.set_cons_succ]
                refine tkYes 26 (v := ?_) rfl (by kernel_rfl) (fun _ _ _ h => h) rfl ?_ hS ?_
                rotate_left
                · intro W hW; go_simp; (try with_reducible rfl)
                simp only [Act.put, List.setIfInBounds_toArray, List.set_cons_zero, List.set_cons_succ]
                refine rnOne 27 rfl (by kernel_rfl) rfl (fun K hK => ?_)
                go_simp
                have CS : Calls Try.prog 27 #[.slice (A12.map (fun x => x.add j)) (nn - j) (c12 - j), .slice A3 ee c3] ve (fun e w' => e = .returned (.bool true) ∧ ∃ d, w' = ve.drewN d) := by
                  rw [HN.out]
                  exact frSame_any ee (c12 - j) c3 _ A3 (ys.take ee) _ S12b.out SYD.out (by omega)
                (with_reducible refine CS.mono ?_)
                clear CS
                rintro e v14 ⟨rfl, dd2, rfl⟩
                have hbX := Below.drewN (Below.refl ve.heap.size ve) dd2
                replace PD := Lib.hid (PD.out.on HJ.out hbX)
                replace SXD := Lib.hid (SXD.out.on hbX)
                replace SYD := Lib.hid (SYD.out.on hbX)
                replace S12b := Lib.hid (S12b.out.on hbX)
                clear hS hbX
                have hS : True := trivial
                generalize ve.drewN dd2 = vf at *
                refine hK.out _ _ hS (fun _ => ?_)
                clear hK K
                try simp only [Act.put, List.setIfInBounds_toArray, List.set_cons_zero, List.set_cons_succ]
                refine tkYes 28 (v := ?_) rfl (by kernel_rfl) (fun _ _ _ h => h) rfl ?_ hS ?_
                rotate_left
                · intro W hW; go_simp; (try with_reducible rfl)
                simp only [Act.put, List.setIfInBounds_toArray, List.set_cons_zero, List.set_cons_succ]
                refine tkYes 29 (v := ?_) rfl (by kernel_rfl) (fun _ _ _ h => h) rfl ?_ hS ?_
                rotate_left
                · intro W hW; go_simp; (try with_reducible rfl)
                simp only [Act.put, List.setIfInBounds_toArray, List.set_cons_zero, List.set_cons_succ]
                refine tkYes 30 (v := ?_) rfl (by kernel_rfl) (fun _ _ _ h => h) rfl ?_ hS ?_
                rotate_left
                · intro W hW; go_simp; (try with_reducible rfl)
                simp only [Act.put, List.setIfInBounds_toArray, List.set_cons_zero, List.set_cons_succ]
                refine tkYes 31 (v := ?_) rfl (by kernel_rfl) (fun _ _ _ h => h) rfl ?_ hS ?_
                rotate_left
                · intro W hW; go_simp; (try with_reducible rfl)
                simp only [Act.put, List.setIfInBounds_toArray, List.set_cons_zero, List.set_cons_succ]
                refine tkYes 33 (v := ?_) rfl (by kernel_rfl) (fun _ _ _ h => h) rfl ?_ hS ?_
                rotate_left
                · intro W hW; go_simp; (try with_reducible rfl)
                simp only [Act.put, List.setIfInBounds_toArray, List.set_cons_zero, List.set_cons_succ]
                refine tkYes 34 (v := ?_) rfl (by kernel_rfl) (fun _ _ _ h => h) rfl ?_ hS ?_
                rotate_left
                · intro W hW; go_simp; (try with_reducible rfl)
                simp only [Act.put, List.setIfInBounds_toArray, List.set_cons_zero, List.set_cons_succ]
                refine rnOne 32 rfl (by kernel_rfl) rfl (fun K hK => ?_)
                go_simp
                refine (jSafe_b HJ.out _ PD.out).mono ?_
                rw [Jn.js_safe OT.out (by rw [LT.out]; exact Nat.le_refl _)]
                rintro e v15 ⟨⟨rfl, hp15⟩, hbX⟩
                replace PD := Lib.hid (PD.out.on HJ.out hbX)
                replace SXD := Lib.hid (SXD.out.on hbX)
                replace SYD := Lib.hid (SYD.out.on hbX)
                replace S12b := Lib.hid (S12b.out.on hbX)
                clear hS hbX
                have hS : True := trivial
                refine hK.out _ _ hS (fun _ => ?_)
                clear hK K
                try simp only [Act.put, List.setIfInBounds_toArray, List.set_cons_zero, List.set_cons_succ]
                refine tkYes 35 (v := ?_) rfl (by kernel_rfl) (fun _ _ _ h => h) rfl ?_ hS ?_
                rotate_left
                · intro W hW; go_simp; (try with_reducible rfl)
                simp only [Act.put, List.setIfInBounds_toArray, List.set_cons_zero, List.set_cons_succ]
                refine tkYes 36 (v := ?_) rfl (by kernel_rfl) (fun _ _ _ h => h) rfl ?_ hS ?_
                rotate_left
                · intro W hW; go_simp; (try with_reducible rfl)
                simp only [Act.put, List.setIfInBounds_toArray, List.set_cons_zero, List.set_cons_succ]
                refine wpAnyH_done (by kernel_rfl) ?_ _
                have GN := Lib.hid (blk_on GR.out PD.out.below)
                obtain ⟨e0, e1⟩ := two_facts GN.out
                have hex : ∃ x, v15.cell? ⟨g9, k, none⟩ = some x := by
                  rcases KC.out with ⟨rfl, _⟩ | ⟨rfl, _⟩
                  · exact ⟨_, e0⟩
                  · exact ⟨_, e1⟩
                obtain ⟨x9, hx9⟩ := hex
                have hf9 : v15.frozen? ⟨g9, k, none⟩ = false := frozen_of_row v15 g9 k _ _ GN.out
                clear e0 e1
                go_wp2_with fail
                have hset := heap_setCell_same v15 g9 k _ _ (.int .i64 (ee : Nat)) GN.out
                have hbl : Below w3.heap.size w3 (v15.setCell ⟨g9, k, none⟩ (.int .i64 (ee : Nat))) := (BR.out.trans (PD.out.below.mono BR.out.size)).setCell (by show _ ≤ _; rw [HG9.out]; exact Nat.le_refl _) _
                rcases KC.out with ⟨rfl, rfl⟩ | ⟨rfl, rfl⟩
                · exact ⟨⟨1, by omega, by go_num, hbl, ee, l1, hset, fun _ => by rw [← HZ.out, ← NN.out]; exact HN.out.symm, fun hx => by omega⟩, by simp [intOf]⟩
                · exact ⟨⟨2, by omega, by go_num, hbl, l0, ee, hset, fun _ => by rw [← HZ.out]; exact L0.out (by omega), fun _ => by rw [← HZ.out, ← NN.out]; exact HN.out.symm⟩, by simp [intOf]⟩
    · obtain rfl : k = 2 := by omega
      have e0 := L0.out (by omega)
      have e1 := L1.out (by omega)
      have hmono : k0 ≤ k1 → l0 ≤ l1 := fun hle => by
        have := Jn.crN_mono (k := mx) OZ.out hle
        omega
      obtain ⟨f0, f1⟩ := two_facts GR.out
      obtain ⟨f2, f3⟩ := two_facts (blk_on G53.out BR.out)
      have B9 := Lib.hid (B3.out.trans (BR.out.mono B3.out.size))
      by_cases hle : k0 ≤ k1
      · have hll := Lib.hid (hmono hle)
        clear e0 e1 hmono L0 L1
        go_wp2_with fail
        go_ret
        exact ⟨ret_bool (by rw [Bool.or_eq_true]; exact .inr (decide_eq_true (by have := hll.out; omega))), B9.out⟩
      · clear e0 e1 hmono L0 L1
        have hgt : k1 < k0 := by omega
        go_wp2_with fail
        go_ret
        exact ⟨rfl, B9.out⟩
end Go.Proofs.Ytdamnamhbjfnlaa
