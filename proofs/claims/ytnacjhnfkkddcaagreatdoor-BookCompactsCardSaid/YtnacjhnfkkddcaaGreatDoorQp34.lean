import Derived.Test.YtnacjhnfkkddcaaGreatDoorQp33
import Derived.Test.YtnacjhnfkkddcaaGreatDoorTie
import Derived.Test.YtnacjhnfkkddcaaGreatDoorCards
import Derived.ShutString
import Derived.ChangeOld
import Derived.LaidMore
import Derived.SevenTiedAt
import Derived.Deep.Matrix
set_option maxHeartbeats 6400000
set_option maxRecDepth 100000
set_option linter.unusedSimpArgs false
set_option linter.unusedVariables false
namespace Go.Proofs.YtnacjhnfkkddcaaGreatDoor
open Go.RowKit
theorem jhc (s : Bk.St) (l : List Rc.R) : (Bk.taken s l).length ≤ l.length := by
 induction l generalizing s with
 | nil => exact Nat.le_refl _
 | cons r l ih =>
  have := ih (Bk.app s r)
  unfold Bk.taken
  split <;> simp <;> omega
theorem dgo_mem {l : List Rc.R} : ∀ {b : Bk.St} {r : Rc.R}, r ∈ Bk.dgo b l → r ∈ l := by
 induction l with
 | nil => intro b r h; exact h
 | cons x l ih =>
  intro b r h
  rw [Bk.dgo] at h
  split at h
  ·exact List.mem_cons_of_mem _ (ih h)
  ·rcases List.mem_cons.1 h with rfl | h
   ·exact List.mem_cons_self ..
   ·exact List.mem_cons_of_mem _ (ih h)
theorem jid {m : Int} {l : List Rc.R} {r : Rc.R} (h : r ∈ Bk.compact m l) : r ∈ l := by
 rw [Bk.compact_dgo] at h
 exact dgo_mem h
theorem jdx (m : Int) (A : Option Addr) (k c : Nat) (l : List Rc.R) (hin : ∀ r ∈ l, Rc.In r) (W : World) (hs : SlF Bk.rcC W A k c l) (ht : BT W) : Calls Tryz.prog 7 #[.int .i64 m, .slice A k c] W (BRet (.bool true) W) := by
 have T0 := zh ht
 have S0 := zh hs
 have hz := ja9
 have CLV := zh (jmv W ht)
 have CSH : Hid (∀ w, SlF Bk.rcC w A k c l → Calls Tryz.prog 12 #[.slice A k c, .int .i64 40] w (jd9 w 40)) := fun w h => jhu A k c 40 l hin w h (by omega)
 have CON : Hid (∀ w A k c l, SlF Bk.rcC w A k c l → (∀ r ∈ l, Rc.In r) → k ≤ 1000 → Calls Tryz.prog 13 #[.int .i64 m, .slice A k c] w (jd9 w k)) := fun w A k c l h1 h2 h3 => jnm m A k c l h2 w h1 h3
 have CNW := zh (fun w => bp_new w m)
 clear ht hs hin
 go_enter Tryz.func7, Tryz.ntmps7
 go_upto_region 4 with (first
  | (go_at_call 11; (with_reducible refine CLV.out.mono ?_); rintro e w1 ⟨rfl, hb⟩; have B1 := zh hb; have S1 := zh (S0.out.on hb); clear hb)
  | (go_at_call 12; (with_reducible refine (CSH.out _ S1.out).mono ?_); rintro e w2 ⟨A2, c2, l2, rfl, h1, h2, h3, h4⟩; have S2 := zh h1; have I2 := zh h2; have N2 := zh h3; have B2 := zh (B1.out.trans (h4.mono B1.out.size)); clear h1 h2 h3 h4)
  | (go_at_call 13; (with_reducible refine (CON.out _ _ _ _ _ S2.out I2.out (by have := N2.out; omega)).mono ?_); rintro e w3 ⟨A3, c3, l3, rfl, h1, h2, h3, h4⟩; have S3 := zh h1; have I3 := zh h2; have N3 := zh (Nat.le_trans h3 N2.out); have B3 := zh (B2.out.trans (h4.mono B2.out.size)); clear h1 h2 h3 h4))
 clear S0 S1 S2 I2 N2 B1 B2 CLV CSH CON
 have T3 := zh (T0.out.on B3.out)
 clear T0
 have hcap := S3.out.cap
 have n60 : ((l3.length : Nat) : Int) ≤ 40 := by have := N3.out; omega
 go_upto_region 5 with fail
 generalize hv0 : Value.slice none 0 0 = v0
 have HV := zh hv0
 clear hv0
 go_upto_region 6 with (go_at_call 20; (with_reducible refine (CNW.out _).mono ?_); rintro e w4 ⟨q, rfl, hd⟩; have D4 := zh hd; clear hd)
 clear CNW
 go_wp2_with fail
 go_loopw [5, 7] (fun v i wr => ∃ j : Nat, j ≤ l3.length ∧ i = .int .i64 j ∧ BP w3 (fun b => v.ownBlock = some b) q (Bk.run (Bk.new m) (l3.take j)) wr ∧ OwF Bk.rcC 18 53 wr w3.heap.size v (Bk.taken (Bk.new m) (l3.take j))) (fun _ i _ => l3.length - (intOf i).toNat)
 case atStart => exact ⟨0, Nat.zero_le _, rfl, jdb D4.out (fun b hb => by rw [← HV.out] at hb; cases hb), HV.out ▸ OwF.none_ _ _ _⟩
 case round =>
  clear D4
  obtain ⟨j, hj, rfl, hd, ho⟩ := hrel
  have D := zh hd
  have O := zh ho
  clear hd ho
  have i1 : (0 : Int) ≤ (j : Int) := by omega
  by_cases hlt : j < l3.length
  ·have hx : l3[j]? = some (l3[j]'hlt) := List.getElem?_eq_getElem _
   have HT := zh (Bk.take_run (Bk.new m) l3 (k := j) hlt).1
   have HO : Hid (Bk.taken (Bk.new m) (l3.take (j + 1)) = Bk.taken (Bk.new m) (l3.take j) ++ if Bk.chk (Bk.run (Bk.new m) (l3.take j)) (l3[j]'hlt) = 0 then [l3[j]'hlt] else []) := by
    show _ = _
    rw [List.take_succ_eq_append_getElem hlt, Bk.taken_snoc]
   have LO := zh (jhc (Bk.new m) (l3.take j))
   rw [List.length_take] at LO
   generalize l3[j]'hlt = r at hx HT HO
   have HR : Hid (Rc.In r) := I3.out r (List.mem_of_getElem? hx)
   obtain ⟨b, o, rfl, hbl, hrg⟩ := jbl S3.out hx
   have RG := zh hrg
   have HB := zh hbl
   have HLT := zh hlt
   have i2 : (j : Int) < (l3.length : Nat) := by omega
   clear hx hrg hbl hlt
   generalize Bk.run (Bk.new m) (l3.take j) = s at *
   generalize Bk.taken (Bk.new m) (l3.take j) = own at *
   generalize hw9 : Bk.taken (Bk.new m) (l3.take (j + 1)) = own2 at *
   have HW2 := zh hw9
   clear hw9
   have CP := zh (fun F w (h : BP w3 F q s w) => jf2 h (T3.out.on (jat h)) HR.out)
   obtain ⟨s2, hs2⟩ : ∃ s2, s2 = Bk.app s r := ⟨_, rfl⟩
   obtain ⟨z, hz⟩ : ∃ z, z = Bk.chk s r := ⟨_, rfl⟩
   rw [← hs2, ← hz] at CP
   rw [← hs2] at HT
   rw [← hz] at HO
   clear hs2 hz
   have RG5 := zh (jbg RG.out ((jat D.out).block b HB.out))
   by_cases hc : z = 0
   ·have q2 : (z == 0) = true := by simp [hc]
    have HO2 := zh (HO.out.trans (by rw [if_pos hc]))
    clear hc HO
    go_wp2_with (first
     | ((with_reducible show zL 31); refine jaq rfl (.tmp 30) rfl b (o + j * 18) (by simp [Act.eval, go_sem]) r RG5.out ?_)
     | (go_at_call 22; (with_reducible refine (CP.out _ _ D.out).mono ?_); rintro e w7 hp; obtain ⟨rfl, hd2, hkk⟩ := hp; have D3 := zh hd2; have O3 := zh (O.out.keep hkk); have RG7 := zh (jbg RG.out ((jat D3.out).block b HB.out)); clear hd2 hkk D O RG5)
     | ((with_reducible show zL 38); refine jaq rfl (.tmp 37) rfl b (o + j * 18) (by simp [Act.eval, go_sem]) r RG7.out ?_)
     | ((with_reducible show zB 39); refine jag Tryz.underlying22 jak (by omega) (by omega) rfl (.tmp 38) rfl (Rc.cells r) rfl rfl ?_)
     | (at_builtin; refine jad Bk.rcC_len Bk.rcC_one Tryz.underlying22 jak rfl (by omega) rfl (.tmp 34) (.tmp 39) rfl w3.heap.size _ own rfl O3.out r rfl (by have := LO.out; have := N3.out; unfold maxLen; omega) (by have := LO.out; have := N3.out; omega) (jat D3.out).size ?_; intro v9 w9 ho9 hb9 hg9 hv9; have O4 := zh ho9; have D4 := zh (jdo D3.out hg9 ho9 hv9 (fun k e => (O3.out.lt k e).1)); clear ho9 hb9 hg9 hv9 D3 O3 RG7))
    rw [← HO2.out] at O4
    exact ⟨⟨j + 1, by have := HLT.out; omega, by go_num, by rw [HT.out]; exact D4.out, by rw [HW2.out]; exact O4.out⟩, by simp [intOf]; have := HLT.out; omega⟩
   ·have q2 : (z == 0) = false := by simpa using hc
    have HO2 : Hid (own2 = own) := HO.out.trans (by rw [if_neg hc, List.append_nil])
    clear hc HO
    go_wp2_with (first
     | ((with_reducible show zL 31); refine jaq rfl (.tmp 30) rfl b (o + j * 18) (by simp [Act.eval, go_sem]) r RG5.out ?_)
     | (go_at_call 22; (with_reducible refine (CP.out _ _ D.out).mono ?_); rintro e w7 hp; obtain ⟨rfl, hd2, hkk⟩ := hp; have D3 := zh hd2; have O3 := zh (O.out.keep hkk); have RG7 := zh (jbg RG.out ((jat D3.out).block b HB.out)); clear hd2 hkk D O RG5))
    rw [← HO2.out] at O3
    exact ⟨⟨j + 1, by have := HLT.out; omega, by go_num, by rw [HT.out]; exact D3.out, by rw [HW2.out]; exact O3.out⟩, by simp [intOf]; have := HLT.out; omega⟩
  ·obtain rfl : j = l3.length := by omega
   have i2 : ((l3.length : Nat) : Int) ≤ ((l3.length : Nat) : Int) := Int.le_refl _
   have TKL : Hid (l3.take l3.length = l3) := List.take_of_length_le (Nat.le_refl _)
   rw [TKL.out] at D O
   have CT := Bk.compact_taken m l3
   have TR := Bk.taken_run l3 (Bk.new m)
   have LT := zh (jhc (Bk.new m) l3)
   have IA : Hid (∀ r ∈ Bk.taken (Bk.new m) l3, Rc.In r) := fun r hr => I3.out r (Bk.taken_mem hr)
   have E1 : Hid (Bk.all m (Bk.taken (Bk.new m) l3) = Bk.all m l3) := TR.1
   have C1 := zh CT.1
   have C2 := zh CT.2.1
   have C3 := zh CT.2.2
   have ES : Hid (Bk.run (Bk.new m) l3 = Bk.all m l3) := rfl
   rw [ES.out] at D
   obtain ⟨al, hal⟩ : ∃ al, al = Bk.taken (Bk.new m) l3 := ⟨_, rfl⟩
   rw [← hal] at O LT IA E1 C1 C2 C3
   clear hal CT TR ES TKL hlt
   obtain ⟨AF, cF, rfl⟩ := O.out.form
   have N40 : Hid (al.length ≤ 40) := by have := LT.out; have := N3.out; show _ ≤ _; omega
   have SA := zh O.out.sl
   have hcF := SA.out.cap
   have TR := zh (T3.out.on (jat D.out))
   have CC := zh (jhb m AF al.length cF al IA.out _ SA.out (by have := N40.out; omega) TR.out)
   have IC : Hid (∀ r ∈ Bk.compact m al, Rc.In r) := fun r hr => IA.out r (jid hr)
   unfold jd2 at CC
   obtain ⟨cl, hcl⟩ : ∃ cl, cl = Bk.compact m al := ⟨_, rfl⟩
   rw [← hcl] at CC C1 C2 C3 IC
   clear hcl
   go_upto_region 12 with (go_at_call 18; (with_reducible refine CC.out.mono ?_); rintro e w8 ⟨A8, c8, rfl, h1, h2, _⟩; have S8 := zh h1; have D8 := zh (jbj D.out h2); have SA8 := zh (SA.out.on h2); clear h1 h2 D SA CC)
   have N41 : Hid (cl.length ≤ 40) := by have := C3.out; have := N40.out; show _ ≤ _; omega
   have hc8 := S8.out.cap
   have T8 := zh (T3.out.on (jat D8.out))
   have CAL := zh (jf0 m A8 cl.length c8 cl IC.out _ S8.out (by have := N41.out; omega) T8.out)
   go_upto_region 13 with (go_at_call 14; (with_reducible refine CAL.out.mono ?_); rintro e w9 hp; obtain ⟨q2, rfl, hd⟩ := jmq hp; have DC9 := zh hd; have DB9 := zh (jbj D8.out (jat hd)); have SA9 := zh (SA8.out.on (jat hd)); clear hp hd CAL D8 SA8)
   have CRL := zh (jmt m AF al.length cF al IA.out _ SA9.out (by have := N40.out; omega))
   go_upto_region 14 with (first
    | (go_at_call 15; (with_reducible refine CRL.out.mono ?_); rintro e w5 ⟨L, V, H, rfl, hrd, hb⟩; have RD := zh hrd; have DB5 := zh (jbj DB9.out hb); have DC5 := zh (jbj DC9.out hb); have Z5 := zh (BkAt.zero w5); clear hrd hb DB9 DC9 CRL)
    | ((with_reducible show zW); refine jab rfl (.tmp 11) (.tmp 54) rfl rfl rfl Z5.out RD.out.one ?_))
   rw [World.setRow_alloc_new]
   have hb6 : Below w5.heap.size w5 (w5.alloc (.cells (Bk.cells (Bk.all m al) L V H) 40)) := (Below.refl _ _).alloc (Nat.le_refl _) _
   have G6 := zh (BkAt.new w5 (Bk.all m al) L V H)
   have DB := zh (jbj DB5.out hb6)
   have DC := zh (jbj DC5.out hb6)
   have RD6 := zh (RD.out.on hb6)
   clear DB5 DC5 RD Z5 hb6
   generalize w5.alloc (.cells (Bk.cells (Bk.all m al) L V H) 40) = w6 at *
   generalize w5.heap.size = g6 at *
   rw [E1.out] at G6 RD6
   rw [E1.out]
   have ON : Hid (∀ X, Below w6.heap.size w6 X → BT X ∧ Below W.heap.size W X) := fun X hX => by
    have h := jat (jbj DB.out hX)
    exact ⟨T3.out.on h, B3.out.trans (h.mono B3.out.size)⟩
   have K1 := zh (fun X (hX : Below w6.heap.size w6 X) => jfi C2.out L V H (jbj DC.out hX) (ON.out X hX).1 (RD6.out.on hX))
   have K2 := zh (fun X (hX : Below w6.heap.size w6 X) => jfi (Bk.Like.refl (Bk.all m l3)) L V H (jbj DB.out hX) (ON.out X hX).1 (RD6.out.on hX))
   have K3 := zh (fun X (hX : Below w6.heap.size w6 X) => je2 (jbj DB.out hX) (jbj DC.out hX) (ON.out X hX).1)
   have K4 := zh (fun X (hX : Below w6.heap.size w6 X) => je2 (jbj DC.out hX) (jbj DB.out hX) (ON.out X hX).1)
   have c1 : ((Bk.allN m cl : Nat) : Int) = ((cl.length : Nat) : Int) := by rw [C1.out]
   have c3 : ((cl.length : Nat) : Int) ≤ ((al.length : Nat) : Int) := by have := C3.out; omega
   generalize Bk.allN m cl = ap at *
   generalize Bk.all m l3 = sa at *
   generalize Bk.all m cl = sc at *
   go_wp2_with (first
    | ((with_reducible show zL 69); refine jci (by rfl) 40 (.tmp 11) rfl g6 0 rfl (Bk.cells _ _ _ _) _ (jfm G6.out.row) jb9 rfl (jir _ _ _ _) ?_)
    | ((with_reducible show zL 74); refine jci (by rfl) 40 (.tmp 11) rfl g6 0 rfl (Bk.cells _ _ _ _) _ (jfm (G6.out.on B7.out).row) jb9 rfl (jir _ _ _ _) ?_)
    | (go_at_call 16; (with_reducible refine (K1.out _ (Below.refl _ _)).mono ?_); rintro e w7 ⟨rfl, hb⟩; have B7 := zh hb; clear hb K1)
    | (go_at_call 16; (with_reducible refine (K2.out _ B7.out).mono ?_); rintro e w8 ⟨rfl, hb⟩; have B8 := zh (B7.out.trans (hb.mono B7.out.size)); clear hb K2)
    | (go_at_call 25; (with_reducible refine (K3.out _ B8.out).mono ?_); rintro e w9 ⟨⟨zz, rfl, hzz⟩, hb⟩; obtain rfl : zz = true := hzz.2 C2.out.symm; have B8b := zh (B8.out.trans (hb.mono B8.out.size)); clear hzz hb K3)
    | (go_at_call 25; (with_reducible refine (K4.out _ B8b.out).mono ?_); rintro e w10 ⟨⟨zz, rfl, hzz⟩, hb⟩; obtain rfl : zz = true := hzz.2 C2.out; have B9 := zh ((ON.out _ B8b.out).2.trans (hb.mono (ON.out _ B8b.out).2.size)); clear hzz hb K4))
   go_ret
   exact ⟨rfl, B9.out⟩
open Go
theorem jj6 : leaf3 (Rows.laid_pacesetter_phase_leads : DataW Unit) = jlk := by kernel_rfl
theorem jj7 : jnx (Rows.laid_pacesetter_phase_words : DataW Unit) = jll := by kernel_rfl
theorem joi : Rows.laid_internal_strconv_uint64pow10 = (Lib.tabData .u64 Lib.pow10Tab : DataW Unit) := by kernel_rfl
theorem tb_ofE {W : World} (hL : laidMetH Tryz.prog Rows.bookNilRow.laid W) (_ : W.ShapedOpen Tryz.prog) : BT W := by
 rw [MakeChecks.laidMetH_plain _ _ _ (by kernel_rfl)] at hL
 refine ⟨⟨?_⟩, ?_, ?_⟩
 ·have h3 := hL.tail.tail
  exact Lib.tabIs_of_head (n := 20) (t := 245) (e := 178) g_pow (by kernel_rfl) (by kernel_rfl) Tryz.underlying178 (by kernel_rfl) (by kernel_rfl) (joi ▸ h3)
 ·have := jil (name := "pacesetter/phase.leads") (d := Rows.laid_pacesetter_phase_leads) (L := leaf3) (t := 196) hL (by simp [Rows.bookNilRow]) jh7 (by kernel_rfl)
   (fun _ _ _ _ => jeu (fun _ => rfl) (jeu (n := 9) (e := 3) (L := jlf) (fun _ => rfl) (jlh Tryz.underlying3) Tryz.underlying195 (by kernel_rfl)) Tryz.underlying196 (by kernel_rfl))
  rw [jj6] at this
  exact this
 ·have := jil (name := "pacesetter/phase.words") (d := Rows.laid_pacesetter_phase_words) (L := jnx) (t := 194) hL (by simp [Rows.bookNilRow]) jfx (by kernel_rfl)
   (fun _ _ _ _ => jeu (fun _ => rfl) (jli Tryz.underlying9) Tryz.underlying194 (by kernel_rfl))
  rw [jj7] at this
  exact this
end Go.Proofs.YtnacjhnfkkddcaaGreatDoor
namespace Go.Proofs.YtnacjhnfkkddcaaGreatDoor.bookCompacts
open Go.ChangeShapes Go.WideShapes Go.ChangeAt Go.RowKit Go.Deep
open Go.ChangeMaps (open_string shut_string)
theorem own : ownKnob Tryz.prog.godebug = none := by kernel_rfl
theorem laidOut : laidOutB Tryz.prog = true := by kernel_rfl
theorem lifted (os : Os) (started : os.Started) (H : Type) (enc : TypeId × Value → H) :
  ReturnsInHanded {} Tryz.checked os 7 .any (fun w args => (Rows.bookCompactsSpec.pre enc Tryz.prog Tryz.f7 Rows.bookCompactsRow.domain false w args ∧ laidMetH Tryz.prog Rows.bookCompactsRow.laid w) ∧ sizedMet enc Tryz.prog Tryz.f7 (OpenSpec.ofChange Rows.bookCompactsSpec) false w args)
   (Rows.bookCompactsSpec.post enc Tryz.prog Tryz.f7 false true false false) := by
 refine jdc (C := Tryz.checked) (X := fun w _ => laidMetH Tryz.prog Rows.bookCompactsRow.laid w) (fun _ _ _ hh h => h.of_heap hh) own started (by kernel_rfl) Tryz.func7
  (ChangeSpec.witness_shaped (enc := enc) (C := Tryz.checked) (os := os) (X := fun w _ => laidMetH Tryz.prog Rows.bookCompactsRow.laid w) false (World.laidAll Tryz.prog os Rows.bookCompactsRow.laid) #[.int .i64 0, .slice none 0 0] 8 (World.laidAll_os _ _ _)
   (World.shaped_of_ZipB (by kernel_rfl) (by kernel_rfl)) (by kernel_rfl) (by kernel_rfl) (by kernel_rfl)
   (by rw [MakeChecks.laidMetH_plain _ _ _ (by kernel_rfl)]; exact laidMet_laidAll _ (by kernel_rfl) (by kernel_rfl))) ?_
 intro W base args ds gs before hval0 hW hL hsh
 have TB : BT W := tb_ofE hL hsh
 have hval : ∀ (j : Nat) t v, Tryz.f7.params[j]? = some t → args[j]? = some v → Value.okWide Tryz.prog W .any base t v := hval0
 have hW' := hW
 obtain ⟨p, q, hA0, hV, rfl, hfz, hnd⟩ := hW
 have hA : DataW.TrodAll enc Tryz.prog W 0 (fun _ => true) true Tryz.f7.params.toList args.toList ds p := hA0
 rw [Tryz.params7] at hA hval
 obtain ⟨v0, vs0, d0, ds0, p0, q0, hargs, rfl, rfl, h0, r0⟩ := trodAll_cons hA
 obtain ⟨v1, vs1, d1, ds1, p1, q1, rfl, rfl, rfl, h1, r1⟩ := trodAll_cons r0
 obtain ⟨rfl, rfl, rfl⟩ := trodAll_nil r1
 obtain rfl : args = #[v0, v1] := by cases args; simp_all
 obtain ⟨rfl, rfl⟩ := trodVars_none hV
 obtain ⟨a0, rfl, rfl, rfl, w0⟩ := open_int Tryz.underlying3 (hval 0 3 v0 rfl rfl) h0
 obtain ⟨a1, len1, cap1, rfl⟩ := okWide_slice Tryz.underlying22 (hval 1 22 v1 rfl rfl)
 have k1 := h1
 have lt1 : ∀ x ∈ p1, x.block < W.heap.size := by obtain ⟨m, hm⟩ := k1; exact DataW.trod_lt m _ _ _ hm
 obtain ⟨l1, s1⟩ : ∃ ts, SlF Bk.rcC W a1 len1 cap1 ts ∧ ∀ r ∈ ts, Rc.In r := by
  obtain ⟨fuel, hf⟩ := h1
  exact recs_of hf
 clear hA0 hval0
 refine (jdx a0 a1 len1 cap1 l1 s1.2 W s1.1 TB).mono fun e W' ⟨he, bel⟩ => ?_
 subst he
 exact ⟨_, rfl, _, _, _, [], _, [], hW', trodAll_mk1 (shut_bool Tryz.underlying4 _), (trodAll_cons_mk (shut_int Tryz.underlying3 w0) (trodAll_cons_mk (Below.trod laidOut (by kernel_rfl) (of_decide_eq_true (by kernel_rfl)) k1 bel lt1) trodAll_mk0)), rfl, bel.frame _, fun h => by cases h⟩
theorem over : Rows.bookCompactsRow.holds Tryz.pinned (OpenSpec.ofChange Rows.bookCompactsSpec) :=
 OpenClaim.holds_of_wide 7 Tryz.f7 rfl rfl rfl rfl rfl rfl rfl ⟨rfl, rfl, rfl, rfl, rfl⟩ rfl rfl rfl rfl rfl (by kernel_rfl) Tryz.func7 (by kernel_rfl)
  (of_decide_eq_true (by kernel_rfl)) (by unfold Func.isWrapper; first | (rw [if_pos (by decide +kernel)]; kernel_rfl) | (rw [if_neg (by decide +kernel)]; exact ⟨rfl, rfl⟩))
  (fun os started H enc _ => lifted os started H enc)
theorem proved : Rows.BookCompactsCardSaid :=
 Claim7.holds_tied_plain_at .later [] [.data, .data, .data, .data, .data, .sentinel, .sentinel] true (true, "c5c1848f9e642c3994f925240c50aea25b5ca66c5be079995ae028e73a4b7396") true over (fun _ h => by cases h) (by kernel_rfl) (fun _ h => by cases h) bookCompacts_row_tie rfl ⟨rfl, rfl⟩ (by kernel_rfl) rfl
  (fun f fn hf hfn => by
   obtain rfl : f = 7 := Option.some.inj ((show Tryz.prog.funcNamed Rows.bookCompactsRow.func = some 7 by kernel_rfl).symm.trans hf) |>.symm
   obtain rfl : fn = Tryz.f7 := (Option.some.inj (Tryz.func7.symm.trans hfn)).symm
   exact ⟨by kernel_rfl, fun j t ht => by
    rw [Tryz.params7] at ht
    have hm : t ∈ [3, 22] := by simpa using Array.mem_of_getElem? ht
    have hall : ([3, 22].all fun u => !Tryz.prog.wantsStandIn u) = true := by kernel_rfl
    exact (show Tryz.prog.wantsStandIn t = false by simpa using List.all_eq_true.1 hall t hm)⟩)
  (by kernel_rfl)
end Go.Proofs.YtnacjhnfkkddcaaGreatDoor.bookCompacts
