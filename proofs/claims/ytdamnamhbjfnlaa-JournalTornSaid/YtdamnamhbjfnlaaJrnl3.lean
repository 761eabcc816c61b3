/-
  Package journal: Crash, Torn and Swap, of a journal in memory; and what a journal keeps, by all its calls.
-/
import Derived.Test.YtdamnamhbjfnlaaJrnl2
import Derived.Lib.MinMax
namespace Go.Proofs.Ytdamnamhbjfnlaa
open Go.RowKit Fr

section
variable {W : World} {X : Nat → Prop} {q r : Nat} {d : Dk.St} (h : Jrn W X q r d) (hX : ∀ i, W.heap.size ≤ i → X i)
include h hX
set_option maxHeartbeats 800000 in
theorem jCrash_x {keep : Int} (hk : j64In keep) : Calls Try.prog 22 #[.pointer (some ⟨q, 0, none⟩), .int .i64 keep] W fun e w' => e = .returned (.int .i64 (Jn.lost d keep)) ∧ Jrn w' X q r (Jn.crash d keep) ∧ Kept X W w' := by
  have H := Lib.hid h
  have HX := Lib.hid hX
  have HK := Lib.hid hk
  have hok := h.dsk.okay
  have HL : Hid (Jn.lost d keep = ((Jn.ents d).length : Nat) - ((Jn.ents (Jn.crash d keep)).length : Nat)) := rfl
  have HE : Hid (Jn.ents d = (scan d.l).1) := rfl
  have HW := Lib.hid (h.whole.crash keep)
  have HO : Hid (Jn.crash d keep = Jn.opened (Dk.crash d keep)) := rfl
  have HY := Lib.hid (h.whole.byt.crash keep)
  have s1 : (Jn.ents d).length ≤ 1048576 := Jn.scan_small hok
  have s2 : (Jn.ents (Jn.crash d keep)).length ≤ 1048576 := Jn.scan_small (by rw [HO.out]; exact Jn.okay_opened (hok.crash keep) HY.out)
  clear h hX hok hk
  generalize Jn.lost d keep = lo at *
  go_enter Try.func22, Try.ntmps22
  go_wp2_with fail
  refine (jlen_ask H.out.ask).mono ?_
  rintro e w1 ⟨rfl, hb1⟩
  have H1 := Lib.hid (H.out.below hb1)
  have B1 := Lib.hid hb1
  rw [← HE.out]
  clear hb1
  generalize (Jn.ents d).length = a at *
  go_wp2_with fail
  refine (jdisk_any w1 q _ H1.out.blk).mono ?_
  rintro e w1' ⟨rfl, rfl⟩
  go_wp2_with fail
  (with_reducible refine (dCrash_x w1' H1.out.dsk (H1.out.fresh fun i hi => HX.out i (Nat.le_trans B1.out.size hi)) (keep := keep) HK.out).mono ?_)
  rintro e w2 ⟨rfl, hd2, hk2⟩
  have D2 := Lib.hid hd2
  have K2 := Lib.hid hk2
  have F2 : Hid (∀ i, w2.heap.size ≤ i → X i ∧ i ≠ q) := fun i hi => H1.out.fresh (fun i hi => HX.out i (Nat.le_trans B1.out.size hi)) i (Nat.le_trans hk2.size hi)
  clear hd2 hk2
  go_wp2_with fail
  (with_reducible refine (jleave_x w2 D2.out F2.out HY.out).mono ?_)
  rintro e w3 hp
  obtain ⟨rfl, hj, hk⟩ := H1.out.step (hp.before K2.out) (by rw [← HO.out]; exact HW.out)
  rw [← HO.out] at hj
  have J3 := Lib.hid hj
  have K3 := Lib.hid ((Kept.of_below (F := X) B1.out).trans hk fun i _ hi => hi)
  clear hp hj hk K2 D2 F2
  go_wp2_with fail
  refine (jlen_ask J3.out.ask).mono ?_
  rintro e w4 ⟨rfl, hb4⟩
  have J4 := Lib.hid (J3.out.below hb4)
  have K4 := Lib.hid (K3.out.trans (Kept.of_below (F := X) hb4) fun i _ hi => hi)
  have E2 : Hid ((scan (Jn.crash d keep).l).1.length = (Jn.ents (Jn.crash d keep)).length) := rfl
  rw [E2.out]
  clear hb4
  generalize (Jn.ents (Jn.crash d keep)).length = b at *
  go_wp2_with fail
  go_ret
  exact ⟨by rw [HL.out]; rfl, J4.out, K4.out⟩
set_option maxHeartbeats 800000 in
theorem jTorn_x {n c : Nat} {A : Option Addr} {p : List Nat} (hs : Sl W A n c p) (hn : n ≤ 900000000) {keep : Int} :
    Calls Try.prog 24 #[.pointer (some ⟨q, 0, none⟩), .slice A n c, .int .i64 keep] W fun e w' => e = .returned (.int .i64 (Jn.tornE d p)) ∧ Jrn w' X q r (Jn.torn d p keep) ∧ Kept X W w' := by
  have H := Lib.hid h
  have HX := Lib.hid hX
  have C1 := Lib.hid (jfit_ask h.ask rfl h.dsk.okay rfl n c A p hs hn)
  have HP : Hid (∀ x ∈ p, x < 256) := hs.rd.1
  have HW := Lib.hid (h.whole.torn hs.rd.1 keep)
  have hok := h.dsk.okay
  clear h hX hs
  by_cases h0 : Jn.appE d p = 0
  · obtain ⟨kk, hkk⟩ : ∃ kk, kk = Jn.keptN p keep := ⟨_, rfl⟩
    have hm : kk ≤ (fr p).length := by rw [hkk]; unfold Jn.keptN; omega
    have hmx : max 0 (min keep (((fr p).length : Nat) : Int)) = (kk : Nat) := by rw [hkk]; unfold Jn.keptN; omega
    have E0 : Hid (Jn.torn d p keep = Jn.opened (Dk.sync (Dk.write d ((fr p).take kk)))) := by show Jn.torn d p keep = _; unfold Jn.torn; rw [if_neg (by omega), ← hkk]
    have T0 : Hid (Jn.tornE d p = 13) := by show _ = _; unfold Jn.tornE; rw [if_neg (by omega)]
    have HY : Hid (Jn.Byt (Dk.write d ((fr p).take kk))) := H.out.whole.byt.write fun x hx => fr_byte HP.out x (List.mem_of_mem_take hx)
    have HC := Lib.hid (Jn.crash_all (Dk.write d ((fr p).take kk)) (hok.write _))
    have hfl : (fr p).length ≤ 1048576 := by
      rw [fr_length]
      unfold Jn.appE at h0
      by_cases hp : putE p = 0
      · have := (Jn.put_ok hp).2; omega
      · rw [if_pos hp] at h0; omega
    have hwl : (Dk.write d ((fr p).take kk)).l.length ≤ 1048576 := Nat.le_trans (hok.write _).2.1 (hok.write _).2.2
    rw [h0] at C1
    clear hkk h0 hok
    obtain ⟨f, hf0⟩ : ∃ f, f = fr p := ⟨_, rfl⟩
    rw [← hf0] at hm hmx E0 HY HC hfl hwl
    have HF0 := Lib.hid hf0
    clear hf0
    generalize Jn.tornE d p = te at *
    go_enter Try.func24, Try.ntmps24
    go_wp2_with fail
    refine C1.out.mono ?_
    rintro e w1 ⟨A1, c1, f1, rfl, ho1, hf, hb1⟩
    obtain rfl : f1 = f := (hf (by trivial)).trans HF0.out.symm
    have B1 := Lib.hid hb1
    have S1 := Lib.hid ((ho1.sls).take (k := kk) hm)
    have H1 := Lib.hid (H.out.below hb1)
    have hcap := ho1.sls.cap
    have hmax := ho1.sls.max
    unfold maxLen at hmax
    clear ho1 hb1 hf C1
    go_wp2_with fail
    refine (jdisk_any w1 q _ H1.out.blk).mono ?_
    rintro e w1' ⟨rfl, rfl⟩
    go_wp2_with fail
    (with_reducible refine (dWrite_x w1' H1.out.dsk (H1.out.fresh fun i hi => HX.out i (Nat.le_trans B1.out.size hi)) S1.out).mono ?_)
    rintro e w2 ⟨rfl, hd2, hk2⟩
    have D2 := Lib.hid hd2
    have K2 := Lib.hid hk2
    have F2 : Hid (∀ i, w2.heap.size ≤ i → X i ∧ i ≠ q) := fun i hi => H1.out.fresh (fun i hi => HX.out i (Nat.le_trans B1.out.size hi)) i (Nat.le_trans hk2.size hi)
    clear hd2 hk2
    obtain ⟨d2, hd2⟩ : ∃ d2, d2 = Dk.write d (f1.take kk) := ⟨_, rfl⟩
    rw [← hd2] at E0 HY HC hwl D2
    generalize Dk.writeE d (f1.take kk) = we at *
    clear hd2
    go_wp2_with fail
    refine (dLen_x w2 D2.out).mono ?_
    rintro e w3 ⟨rfl, hb3⟩
    have D3 := Lib.hid (D2.out.below hb3)
    have K3 := Lib.hid (K2.out.trans (Kept.of_below (F := fun i => X i ∧ i ≠ q) hb3) fun i _ hi => hi)
    have F3 : Hid (∀ i, w3.heap.size ≤ i → X i ∧ i ≠ q) := fun i hi => F2.out i (Nat.le_trans hb3.size hi)
    clear hb3 F2 K2 D2
    have CC := Lib.hid (dCrash_x w3 D3.out F3.out (keep := (d2.l.length : Nat)) (by omega))
    rw [HC.out] at CC
    go_wp2_with fail
    (with_reducible refine CC.out.mono ?_)
    rintro e w4 ⟨rfl, hd4, hk4⟩
    have D4 := Lib.hid hd4
    have K4 := Lib.hid (K3.out.trans hk4 fun i _ hi => hi)
    have F4 : Hid (∀ i, w4.heap.size ≤ i → X i ∧ i ≠ q) := fun i hi => F3.out i (Nat.le_trans hk4.size hi)
    clear hd4 hk4 CC F3 D3 K3
    generalize Dk.lost d2 (d2.l.length : Nat) = lo at *
    go_wp2_with fail
    (with_reducible refine (jleave_x w4 D4.out F4.out HY.out.sync).mono ?_)
    rintro e w5 hp
    obtain ⟨rfl, hj, hk⟩ := H1.out.step (hp.before K4.out) (by rw [← E0.out]; exact HW.out)
    rw [← E0.out] at hj
    have J5 := Lib.hid hj
    have K5 := Lib.hid ((Kept.of_below (F := X) B1.out).trans hk fun i _ hi => hi)
    clear hp hj hk
    go_wp2_with fail
    go_ret
    exact ⟨by rw [T0.out]; rfl, J5.out, K5.out⟩
  · have E0 : Hid (Jn.torn d p keep = d ∧ Jn.tornE d p = Jn.appE d p) := by
      show _ ∧ _
      unfold Jn.torn Jn.tornE
      rw [if_pos h0, if_pos h0]; exact ⟨rfl, rfl⟩
    have hne : (Jn.appE d p != 0) = true := by rw [bne_iff_ne]; exact h0
    rw [E0.out.2]
    obtain ⟨y, hy⟩ : ∃ y, y = Jn.appE d p := ⟨_, rfl⟩
    rw [← hy] at C1 hne ⊢
    clear h0 hy
    go_enter Try.func24, Try.ntmps24
    go_wp2_with fail
    refine C1.out.mono ?_
    rintro e w1 ⟨A1, c1, f, rfl, ho1, hf, hb1⟩
    have B1 := Lib.hid hb1
    clear ho1 hb1 hf C1
    go_wp2_with fail
    go_ret
    exact ⟨rfl, by rw [E0.out.1]; exact H.out.below B1.out, Kept.of_below B1.out⟩
set_option maxHeartbeats 800000 in
theorem jSwap_x {n c : Nat} {A : Option Addr} {ls : List (List Nat)} (hs : SlS W A n c ls) (hl : ls.length ≤ 1000) (hpl : ∀ p ∈ ls, p.length ≤ 900000000) :
    Calls Try.prog 26 #[.pointer (some ⟨q, 0, none⟩), .slice A n c] W fun e w' => e = .returned (.int .i64 (Jn.swapE d ls)) ∧ Jrn w' X q r (Jn.swap d ls) ∧ Kept X W w' := by
  have H := Lib.hid h
  have HX := Lib.hid hX
  have HS := Lib.hid hs
  have hnl : n = ls.length := hs.len
  have hn1000 : n ≤ 1000 := by omega
  have HN := Lib.hid hnl
  have HPL := Lib.hid hpl
  have HB : Hid (∀ p ∈ ls, ∀ x ∈ p, x < 256) := fun p hp => by
    obtain ⟨j, hj, rfl⟩ := List.mem_iff_getElem.1 hp
    obtain ⟨b, o, _, _, hc⟩ := hs.rd (by omega)
    obtain ⟨A', n', c', _, h2⟩ := hc j hj
    have := h2.rd.1
    rwa [getD_at hj] at this
  have HW := Lib.hid (h.whole.swap HB.out)
  clear h hX hs hl hnl hpl
  go_enter Try.func26, Try.ntmps26
  go_wp2_with fail
  refine (jdisk_any W q _ H.out.blk).mono ?_
  rintro e W' ⟨rfl, rfl⟩
  go_wp2_with fail
  go_loopw [6, 17] (fun v i wr => ∃ (m : Nat) (A' : Option Addr) (c' y : Nat), m ≤ n ∧ i = .int .i64 m ∧ (∀ j, j < m → putE (ls.getD j []) = 0) ∧ v = .slice A' y c' ∧ y = (all (ls.take m)).length ∧ OwnB wr W'.heap.size (.slice A' y c') (all (ls.take m)) ∧ Below W'.heap.size W' wr) (fun _ i _ => n - (intOf i).toNat)
  case atStart => exact ⟨0, none, 0, 0, by omega, rfl, fun j hj => absurd hj (by omega), rfl, rfl, OwnB.none_ _ _, Below.refl _ _⟩
  case round =>
    obtain ⟨m, A', c', y, hm, rfl, hput, rfl, hyl, hown, hb⟩ := hrel
    have O := Lib.hid hown
    have B := Lib.hid hb
    have P := Lib.hid hput
    have YL := Lib.hid hyl
    have hy : y ≤ 1006 * m := by rw [hyl]; exact Jn.all_len (by rw [← HN.out]; exact hm) hput
    clear hown hb hput hyl
    by_cases hlt : m < n
    · have hml : m < ls.length := by rw [← HN.out]; exact hlt
      obtain ⟨b, o, rfl, hbb, hc⟩ := HS.out.rd (by omega)
      obtain ⟨A2, n2, c2, hcell, hs2⟩ := hc m hml
      have c0 := (B.out.cell (p := ⟨b, o + m, none⟩) hbb).trans hcell
      have hp9 : n2 ≤ 900000000 := by rw [hs2.len, getD_at hml]; exact HPL.out _ (List.getElem_mem hml)
      have C2 := Lib.hid (fput_any 0 0 n2 c2 none A2 [] (ls.getD m []) wr (Sl.none_ _) (hs2.on B.out) (by omega) hp9)
      have SN := Lib.hid (all_take_snoc hml)
      have PM := Lib.hid (fun he => Jn.bad_at P.out hml he)
      clear hc hcell hs2 hp9
      have i1 : (0 : Int) ≤ (m : Int) := by omega
      have i2 : (m : Int) < (n : Int) := by omega
      obtain ⟨x, hx⟩ : ∃ x, x = all (ls.take m) := ⟨_, rfl⟩
      rw [← hx] at O YL SN
      have HXx := Lib.hid hx
      clear hx
      by_cases he : putE (ls.getD m []) = 0
      · have HE := Lib.hid he
        have hpo := Jn.put_ok he
        have hL : putL [] (ls.getD m []) = fr (ls.getD m []) := (put_yes hpo.1 hpo.2).2
        rw [hL, he] at C2
        have HFL : Hid ((fr (ls.getD m [])).length ≤ 1006) := by show _ ≤ _; rw [fr_length]; omega
        obtain ⟨z, hz⟩ : ∃ z, z = (fr (ls.getD m [])).length := ⟨_, rfl⟩
        unfold BEPost at C2
        rw [← hz] at C2 HFL
        have HZ := Lib.hid hz
        clear he hpo hL hz
        go_wp2_with fail
        (with_reducible refine C2.out.mono ?_)
        rintro e w4 ⟨A4, c4, rfl, ho4, hb4⟩
        have S4 := Lib.hid ho4.sls
        have O4 := Lib.hid (O.out.below hb4)
        have B4 := Lib.hid (B.out.trans (hb4.mono B.out.size))
        have LZ : Hid (x.length + (fr (ls.getD m [])).length ≤ 140737488355328) := by show _ ≤ _; have h1 := HFL.out; have h2 := YL.out; have h3 := HZ.out; omega
        have LX : Hid (y + z = (x ++ fr (ls.getD m [])).length) := by show _ = _; rw [List.length_append, YL.out, HZ.out]
        clear ho4 hb4 C2
        obtain ⟨f, hf⟩ : ∃ f, f = fr (ls.getD m []) := ⟨_, rfl⟩
        rw [← hf] at S4 LZ SN LX
        clear hf HZ
        go_wp2_with (at_builtin; refine wpList_append_own_rd rfl (.tmp 29) (.tmp 30) rfl W'.heap.size _ x rfl O4.out z c4 A4 f rfl S4.out LZ.out B4.out.size ?_; intro v5 w5 ho5 hb5; have O5 := Lib.hid ho5; have B5 := Lib.hid (B4.out.trans hb5); obtain ⟨A5, c5, rfl, _⟩ := ho5.sl; clear ho5 hb5)
        rw [← LX.out] at O5
        go_roundw
        case rel => exact ⟨m + 1, A5, c5, y + z, by omega, by go_num, (fun j hj => by rcases Nat.lt_or_ge j m with h | h; exact P.out j h; rw [show j = m from by omega]; exact HE.out), by rw [LX.out, List.length_append], by rw [SN.out, LX.out], by rw [SN.out]; exact O5.out, B5.out⟩
        case measure => simp [intOf]; omega
      · have HBD := Lib.hid (PM.out he)
        have hne : (((putE (ls.getD m []) : Nat) : Int) != 0) = true := by rw [bne_iff_ne]; omega
        have HXX : Hid (Jn.swap d ls = d ∧ Jn.swapE d ls = (putE (ls.getD m []) : Nat)) := by
          show _ ∧ _
          unfold Jn.swap Jn.swapE
          rw [HBD.out, if_pos he, if_pos he]; exact ⟨rfl, rfl⟩
        obtain ⟨z, hz⟩ : ∃ z, z = (putL [] (ls.getD m [])).length := ⟨_, rfl⟩
        unfold BEPost at C2
        rw [← hz] at C2
        clear he hz HBD PM
        generalize putE (ls.getD m []) = ee at *
        go_wp2_with fail
        (with_reducible refine C2.out.mono ?_)
        rintro e w4 ⟨A4, c4, rfl, _, hb4⟩
        have B4 := Lib.hid (B.out.trans (hb4.mono B.out.size))
        clear hb4
        go_wp2_with fail
        go_ret
        exact ⟨by rw [HXX.out.2]; rfl, by rw [HXX.out.1]; exact H.out.below B4.out, Kept.of_below B4.out⟩
    · obtain rfl : m = n := by omega
      have HT : Hid (ls.take m = ls) := by show _ = _; rw [HN.out, List.take_length]
      have h0 := Jn.bad_none (fun j hj => P.out j (by rw [HN.out]; exact hj))
      have HXX : Hid (Jn.swap d ls = Dk.swap d (all ls) ∧ Jn.swapE d ls = Dk.swapE d (all ls)) := by
        show _ ∧ _
        unfold Jn.swap Jn.swapE
        rw [h0, if_neg (by omega), if_neg (by omega)]; exact ⟨rfl, rfl⟩
      have S := Lib.hid O.out.sls
      rw [HT.out] at S
      have H1 := Lib.hid (H.out.below B.out)
      clear h0 HT O YL
      go_wp2_with fail
      (with_reducible refine (dSwap_x wr H1.out.dsk (H1.out.fresh fun i hi => HX.out i (Nat.le_trans B.out.size hi)) S.out).mono ?_)
      rw [← HXX.out.1, ← HXX.out.2]
      rintro e w2 hp
      obtain ⟨rfl, hj, hk⟩ := H1.out.step hp HW.out
      have J2 := Lib.hid hj
      have K2 := Lib.hid ((Kept.of_below (F := X) B.out).trans hk fun i _ hi => hi)
      clear hp hj hk
      obtain ⟨ee, hee⟩ : ∃ ee, ee = Jn.swapE d ls := ⟨_, rfl⟩
      rw [← hee]
      have HEE := Lib.hid hee
      clear hee
      go_wp2_with fail
      go_ret
      exact ⟨by rw [← HEE.out]; rfl, J2.out, K2.out⟩
end
end Go.Proofs.Ytdamnamhbjfnlaa
