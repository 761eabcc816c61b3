import Derived.Test.YtnacjhnfkkddcaaGreatDoorQp15
import Derived.Test.YtnacjhnfkkddcaaGreatDoorQp28
import Derived.Sort.OwnSortedInts
import Derived.Handed
import Derived.HandedShaped
import Derived.Stop.LaidErr
import Derived.Shelf.Vars
import Derived.MakeChecks
import Derived.Lay
set_option maxHeartbeats 6400000
set_option maxRecDepth 100000
set_option linter.unusedSimpArgs false
set_option linter.unusedVariables false
namespace Go.Proofs.YtnacjhnfkkddcaaGreatDoor
open Go.RowKit Go.Deep Go.Maps
def Bd.ru0 : Nat → Bk.Un := fun _ => ⟨0, 0, false⟩
theorem new_bd (w : World) (m : Int) (q : Nat) (hat : BdAt w q (Bk.new m) Bd.ru0 0 (.map none) (.map none) (.slice none 0 0)) : BdIs w q (Bk.new m) Bd.ru0 0 none none (.slice none 0 0) Kv.St.none where
 at_ := hat
 ls := ⟨fun _ => rfl, rfl⟩
 kv := rfl
 kg := Kv.Good.none_
 kr := rfl
 kb := Int.le_refl _
 dg := Bd.none_digs
 raw := Bd.new_raw
 h := OwF.none_ _ _ _
 lk := fun m e => by cases e
 lok := ⟨Bk.new_ok m, fun h => absurd rfl h⟩
theorem jn4 (m : Int) (w : World) : Calls Tryz.prog 20 #[.int .i64 m] w (fun e w' => ∃ q, e = .returned (.pointer (some ⟨q, 0, none⟩)) ∧ BdIs w' q (Bk.new m) Bd.ru0 0 none none (.slice none 0 0) Kv.St.none ∧ w.heap.size ≤ q ∧ Below w.heap.size w w') := by
 have C := zh (jgn w m)
 generalize hmm : (Ls.new m).margin = mm at *
 have HM := zh hmm
 clear hmm
 go_enter Tryz.func20, Tryz.ntmps20
 go_wp2_with (go_at_call 37; (with_reducible refine C.out.mono ?_); rintro e w1 ⟨rfl, hi, hb⟩; have B1 := zh hb; obtain ⟨c0, c1, f1, hq⟩ := hi.cells; rw [HM.out] at c0; clear hi hb)
 go_ret
 refine ⟨w1.heap.size, rfl, new_bd _ m _ ⟨?_⟩, B1.out.size, B1.out.trans (((Below.refl w1.heap.size w1).alloc (Nat.le_refl _) _).mono B1.out.size)⟩
 have e : (Bk.new m).m = mm := HM.out
 unfold Bd.cells
 rw [e]
 exact heap_alloc_new w1 _
theorem jfy {T : Type} {enc : T → List Value} {k : Nat} {e : TypeId} (w : World) : OwF enc k e (w.alloc (.cells #[] e)) w.heap.size (.slice (some ⟨w.heap.size, 0, none⟩) 0 0) [] := ⟨by simp, .inr ⟨w.heap.size, 0, #[], rfl, Nat.le_refl _, heap_alloc_new w _, Nat.le_refl _, Nat.zero_le _, by simp, by simp⟩⟩
theorem slnil {T : Type} {enc : T → List Value} {w : World} {n c : Nat} {l : List T} (h : SlF enc w none n c l) : l = [] ∧ n = 0 ∧ c = 0 := by
 have h0 := h.nil rfl
 have h1 := h.cap
 have h2 := h.len
 exact ⟨List.eq_nil_of_length_eq_zero (by omega), by omega, h0⟩
theorem jma (u : Bk.Un) : (Bk.unC u).length = 3 := rfl
theorem unC_one (u : Bk.Un) : ∀ x ∈ Bk.unC u, x.oneCell' = true := by intro x hx; simp [Bk.unC] at hx; rcases hx with rfl | rfl | rfl <;> rfl
theorem jju (w : World) (A : Option Addr) (n c : Nat) (l : List Rc.R) (hs : SlF Bk.rcC w A n c l) (hn : n ≤ 1000) : Calls Tryz.prog 47 #[.slice A n c] w (jd2 Bk.rcC l w) := by
 have hl := hs.len
 have hcap := hs.cap
 have hmax := hs.max
 have hc63 : (c : Int) ≤ 9223372036854775807 := by unfold maxLen at hmax; omega
 have hnil := fun W a n c => Lib.run_eql_slice_nil (P := Tryz.prog) W 22 53 a n c 0 0 Tryz.underlying22
 cases A with
 | none =>
  obtain ⟨rfl, rfl, rfl⟩ := slnil hs
  clear hl hcap hmax hc63 hs hn
  go_enter Tryz.func47, Tryz.ntmps47
  go_wp2_with fail
  go_ret
  exact ⟨none, 0, rfl, SlF.none_ w, Below.refl _ _, fun b o e => by cases e⟩
 | some ad =>
  have O0 := zh (jfy (enc := Bk.rcC) (k := 18) (e := 53) w)
  have hb1 : Below w.heap.size w (w.alloc (.cells #[] 53)) := (Below.refl _ _).alloc (Nat.le_refl _) _
  have S1 := zh (hs.on hb1)
  have B1 := zh hb1
  have HN := zh hn
  have HL := zh hl
  clear hs hn hl hb1 hmax
  go_enter Tryz.func47, Tryz.ntmps47
  go_upto_region 3 with fail
  go_wp2_with (at_builtin; refine ja4 Bk.rcC_len Bk.rcC_one Tryz.underlying22 jak rfl (by omega) rfl (.tmp 5) (.tmp 6) rfl w.heap.size _ [] l rfl O0.out rfl S1.out (by have := HN.out; have := HL.out; simp; unfold maxLen; omega) (by have := HN.out; have := HL.out; simp; omega) (by have := B1.out.size; omega) ?_; intro v1 w1 ho1 hb1 _ _; have O1 := zh ho1; have B2 := zh hb1; clear ho1 hb1)
  go_ret
  obtain ⟨A9, c9, hf⟩ := O1.out.form
  have ho := O1.out
  rw [hf] at ho ⊢
  rw [List.nil_append] at ho
  refine ⟨A9, c9, rfl, ho.sl, B1.out.trans B2.out, fun b o e => ?_⟩
  subst e
  exact (ho.lt b rfl).1
theorem jmb (q : Nat) (s : Bk.St) (ru : Nat → Bk.Un) (rv : Int) (lo ko : Option Nat) (H : Value) (K : Kv.St) (w : World) (h : BdIs w q s ru rv lo ko H K) : Calls Tryz.prog 21 #[.pointer (some ⟨q, 0, none⟩)] w (BRet (.agg (Bk.viewC s)) w) := by
 have A0 := zh h.at_
 clear h
 go_enter Tryz.func21, Tryz.ntmps21
 have lq := A0.out.lt
 have hb1 : Below w.heap.size w (w.alloc (.cells #[.int .i64 0, .int .i64 0, .int .i64 0, .int .i64 0, .int .i64 0, .int .i64 0, .int .i64 0, .int .i64 0, .int .i64 0, .int .i64 0, .int .i64 0, .int .i64 0, .int .i64 0, .int .i64 0, .int .i64 0, .int .i64 0, .int .i64 0, .int .i64 0, .int .i64 0, .int .i64 0, .int .i64 0, .int .i64 0] 48)) := (Below.refl _ _).alloc (Nat.le_refl _) _
 have A1 := zh (A0.out.on hb1)
 have R1 := heap_alloc_new w (.cells #[.int .i64 0, .int .i64 0, .int .i64 0, .int .i64 0, .int .i64 0, .int .i64 0, .int .i64 0, .int .i64 0, .int .i64 0, .int .i64 0, .int .i64 0, .int .i64 0, .int .i64 0, .int .i64 0, .int .i64 0, .int .i64 0, .int .i64 0, .int .i64 0, .int .i64 0, .int .i64 0, .int .i64 0, .int .i64 0] 48)
 go_upto_region 3 with fail
 have B1 := zh hb1
 obtain ⟨g, hg⟩ : ∃ g, g = w.heap.size := ⟨_, rfl⟩
 rw [← hg] at R1 ⊢
 clear hb1 lq
 have GE : Hid (w.heap.size ≤ g) := Nat.le_of_eq hg.symm
 clear hg
 have lq := A1.out.lt
 generalize w.alloc (.cells #[.int .i64 0, .int .i64 0, .int .i64 0, .int .i64 0, .int .i64 0, .int .i64 0, .int .i64 0, .int .i64 0, .int .i64 0, .int .i64 0, .int .i64 0, .int .i64 0, .int .i64 0, .int .i64 0, .int .i64 0, .int .i64 0, .int .i64 0, .int .i64 0, .int .i64 0, .int .i64 0, .int .i64 0, .int .i64 0] 48) = W1 at *
 go_wp2_with (first
  | ((with_reducible show zL 9); refine wpList_load_mid rfl 48 (.tmp 8) rfl q 4 rfl (Bk.viewC s).toList _ (jc1 A1.out) jas rfl (ja7 s) ?_)
  | ((with_reducible show zW); refine jbt (s := s) rfl (.tmp 2) (.tmp 9) rfl rfl rfl R1 rfl ?_))
 exact bodyPost_ret (v := .agg (Bk.viewC s)) (results_cell_row (P := Tryz.prog) Tryz.results21 _ _ g 48 (Bk.viewC s) (0, 0) _ rfl (setRow_heap W1 g _ _ _ _ R1) jas rfl (jfe s)) rfl ⟨rfl, below_setRow B1.out GE.out _⟩
theorem jmc (q : Nat) (s : Bk.St) (ru : Nat → Bk.Un) (rv : Int) (lo ko : Option Nat) (H : Value) (K : Kv.St) (w : World) (h : BdIs w q s ru rv lo ko H K) : Calls Tryz.prog 26 #[.pointer (some ⟨q, 0, none⟩)] w (jd2 Bk.rcC s.h w) := by
 have A0 := zh h.at_
 have H0 := zh h
 obtain ⟨A, c, hH⟩ := h.form
 have b74 := A0.out.cs.c74
 rw [hH] at b74
 have lq := A0.out.lt
 have hs := h.h
 rw [hH] at hs
 have CC := zh (jju w A s.h.length c s.h hs.sl (by have := h.lok.ok.hl; omega))
 clear h hH hs
 generalize s.h.length = n at b74 CC
 go_enter Tryz.func26, Tryz.ntmps26
 go_wp2_with (go_at_call 47; (with_reducible refine CC.out.mono ?_); rintro e w1 hp; obtain ⟨A9, c9, rfl, p1, p2, p3⟩ := hp; have P1 := zh p1; have P2 := zh p2; have P3 := zh p3; clear p1 p2 p3)
 go_ret
 exact ⟨A9, c9, rfl, P1.out, P2.out, P3.out⟩
theorem jfz {w w' : World} {X : Nat → Prop} {q : Nat} {s : Bk.St} (h : BdP w X q s) (hz : w.heap.size ≤ w'.heap.size) (hk : ∀ i, X i → w'.heap[i]? = w.heap[i]?) : BdP w' X q s := by
 obtain ⟨ru, rv, lo, ko, H, K, h1, h2, h3⟩ := h
 exact ⟨ru, rv, lo, ko, H, K, h1.keep (hk _ (h2 _ (.inl rfl))) (fun m e => hk _ (h2 _ (.inr (.inl e)))) (fun m e => hk _ (h2 _ (.inr (.inr (.inl e))))) (fun m e => hk _ (h2 _ (.inr (.inr (.inr e))))), h2, fun i hi => Nat.lt_of_lt_of_le (h3 i hi) hz⟩
theorem jdn {w : World} {X : Nat → Prop} {q : Nat} {s : Bk.St} (h : BdP w X q s) : ∀ i, X i → i < w.heap.size := by
 obtain ⟨ru, rv, lo, ko, H, K, h1, h2, h3⟩ := h
 exact h3
theorem bdp_ok {w : World} {X : Nat → Prop} {q : Nat} {s : Bk.St} (h : BdP w X q s) : Bk.Ok s := by
 obtain ⟨ru, rv, lo, ko, H, K, h1, h2, h3⟩ := h
 exact h1.lok.ok
theorem jbx {w w' : World} {X : Nat → Prop} {q : Nat} {s : Bk.St} (h : BdP w X q s) (hb : Below w.heap.size w w') : BdP w' X q s := jfz h hb.size fun i hi => hb.block i (jdn h i hi)
theorem jex {W : World} {X : Nat → Prop} {q : Nat} {s : Bk.St} (h : BdP W X q s) (ht : BT W) (r : Rc.R) (hr : Rc.In r) : Calls Tryz.prog 22 #[.pointer (some ⟨q, 0, none⟩), .agg (Rc.cells r)] W (BTurn BdP X q (Bk.app s r) (.int .i64 (Bk.chk s r)) W) := by
 obtain ⟨ru, rv, lo, ko, H, K, h1, h2, h3⟩ := h
 exact (jjt q s ru rv lo ko H K W h1 ht r hr).mono fun e w' hp => hp.turn h2 h3
structure DA (w0 : World) (q : Nat) (s : Bk.St) (W : World) : Prop where
 bd : ∃ X, BdP W X q s ∧ ∀ i, X i → w0.heap.size ≤ i
 below : Below w0.heap.size w0 W
theorem DA.on {w0 W W' : World} {q : Nat} {s : Bk.St} (h : DA w0 q s W) (hb : Below W.heap.size W W') : DA w0 q s W' := by
 obtain ⟨X, h1, h2⟩ := h.bd
 exact ⟨⟨X, jbx h1 hb, h2⟩, h.below.trans (hb.mono h.below.size)⟩
theorem DA.app {w0 W : World} {q : Nat} {s : Bk.St} (h : DA w0 q s W) (ht : BT W) (r : Rc.R) (hr : Rc.In r) : Calls Tryz.prog 22 #[.pointer (some ⟨q, 0, none⟩), .agg (Rc.cells r)] W (fun e w' => e = .returned (.int .i64 (Bk.chk s r)) ∧ DA w0 q (Bk.app s r) w') := by
 obtain ⟨X, h1, h2⟩ := h.bd
 refine (jex h1 ht r hr).mono fun e w' hp => ?_
 obtain ⟨X', e1, e2, e3, e4⟩ := hp
 refine ⟨e1, ⟨X', e2, fun i hi => ?_⟩, h.below.trans (e4.below h.below.size h2)⟩
 rcases e3 i hi with h5 | h5
 ·exact h2 i h5
 ·exact Nat.le_trans h.below.size h5
theorem DA.new (w : World) (m : Int) : Calls Tryz.prog 20 #[.int .i64 m] w (fun e w' => ∃ q, e = .returned (.pointer (some ⟨q, 0, none⟩)) ∧ DA w q (Bk.new m) w') := by
 refine (jn4 m w).mono fun e w' hp => ?_
 obtain ⟨q, rfl, h1, h2, h3⟩ := hp
 refine ⟨q, rfl, ⟨BdF q none none (.slice none 0 0), ⟨_, _, _, _, _, _, h1, fun i hi => hi, h1.ltF⟩, fun i hi => ?_⟩, h3⟩
 rcases hi with rfl | e | e | e
 ·exact h2
 ·cases e
 ·cases e
 ·cases e
theorem jf0 (m : Int) (A : Option Addr) (k c : Nat) (l : List Rc.R) (hin : ∀ r ∈ l, Rc.In r) (w : World) (hs : SlF Bk.rcC w A k c l) (hk : k ≤ 100000) (ht : BT w) : Calls Tryz.prog 14 #[.int .i64 m, .slice A k c] w (jnp BdP (Bk.all m l) (fun p => .tuple #[p, .int .i64 (Bk.allN m l : Nat)]) w) := by
 have CN := zh (DA.new w m)
 have S0 := zh hs
 have HI := zh hin
 have HL := zh hs.len
 have T0 := zh ht
 have hcap := hs.cap
 clear hs hin ht
 go_enter Tryz.func14, Tryz.ntmps14
 go_upto_region 2 with (go_at_call 20; (with_reducible refine CN.out.mono ?_); rintro e w1 ⟨q, rfl, hd⟩; have D1 := zh hd; clear hd)
 go_wp2_with fail
 go_loopw [7, 14] (fun v i wr => ∃ j : Nat, j ≤ k ∧ i = .int .i64 j ∧ v = .int .i64 (Bk.cnt (Bk.new m) (l.take j) : Nat) ∧ DA w q (Bk.run (Bk.new m) (l.take j)) wr) (fun _ i _ => k - (intOf i).toNat)
 case atStart => exact ⟨0, Nat.zero_le _, rfl, rfl, D1.out⟩
 case round =>
  obtain ⟨j, hj, rfl, rfl, hd⟩ := hrel
  have D := zh hd
  clear hd
  have i1 : (0 : Int) ≤ (j : Int) := by omega
  by_cases hlt : j < k
  ·have hx : l[j]? = some (l[j]'(by have := HL.out; omega)) := List.getElem?_eq_getElem _
   have HT := zh (Bk.take_run (Bk.new m) l (k := j) (by have := HL.out; omega))
   generalize l[j]'(by have := HL.out; omega) = r at hx HT
   have HR : Hid (Rc.In r) := HI.out r (List.mem_of_getElem? hx)
   have cl : (Bk.cnt (Bk.new m) (l.take j) : Int) ≤ 100000 := by
    have := Bk.cnt_le (Bk.new m) (l.take j)
    rw [List.length_take] at this
    omega
   have cl0 : (0 : Int) ≤ (Bk.cnt (Bk.new m) (l.take j) : Int) := by omega
   have S1 := zh (S0.out.on D.out.below)
   have q1 : ((j : Nat) : Int) < (k : Nat) := by omega
   have q2 : ((k : Nat) : Int) ≤ 100000 := by omega
   have HLT := zh hlt
   obtain ⟨b, o, rfl, hbl, hrg⟩ := jbl S1.out hx
   have RG := zh hrg
   clear hx hrg hlt
   generalize Bk.run (Bk.new m) (l.take j) = s at *
   generalize Bk.cnt (Bk.new m) (l.take j) = cn at *
   go_upto_region 5 with (first
    | ((with_reducible show zL 17); refine jaq rfl (.tmp 16) rfl b (o + j * 18) (by simp [Act.eval, go_sem]) r RG.out ?_)
    | ((with_reducible show zW); refine jac rfl (.tmp 9) (.tmp 17) rfl wr.heap.size r Rc.none_ rfl rfl ⟨heap_alloc_new wr _⟩ ?_))
   rw [World.setRow_alloc_new]
   have RA := zh (RcAt.new wr r)
   have hb : Below wr.heap.size wr (wr.alloc (.cells (Rc.cells r) 53)) := (Below.refl _ _).alloc (Nat.le_refl _) _
   have D2 := zh (D.out.on hb)
   clear RG S1
   obtain ⟨g, hg⟩ : ∃ g, g = wr.heap.size := ⟨_, rfl⟩
   rw [← hg] at RA ⊢
   clear hg hb
   generalize wr.alloc (.cells (Rc.cells r) 53) = w2 at *
   have CP := zh (D2.out.app (T0.out.on D2.out.below) r HR.out)
   have CK : Hid (Bk.chk s r = 0 ∨ Bk.chk s r ≠ 0) := Decidable.em _
   have HC : Hid (∃ z, z = Bk.chk s r) := ⟨_, rfl⟩
   obtain ⟨z, hz⟩ := HC.out
   rw [← hz] at CP HT CK
   have HZ := zh hz
   clear hz HC
   rcases CK.out with h0 | h0
   ·have q3 : (z == 0) = true := by simpa using h0
    have E1 := zh (HT.out.2.trans (by rw [if_pos h0]))
    clear h0
    go_wp2_with (first
     | ((with_reducible show zL 19); refine zR (.tmp 9) RA.out ?_)
     | (go_at_call 22; (with_reducible refine CP.out.mono ?_); rintro e w3 ⟨rfl, hd⟩; have D3 := zh hd; clear hd))
    exact ⟨⟨j + 1, by have := HLT.out; omega, by go_num, by rw [E1.out]; go_num, by rw [HT.out.1]; exact D3.out⟩, by simp [intOf]; have := HLT.out; omega⟩
   ·have q3 : (z == 0) = false := by simpa using h0
    have E1 := zh (HT.out.2.trans (by rw [if_neg h0]))
    clear h0
    go_wp2_with (first
     | ((with_reducible show zL 19); refine zR (.tmp 9) RA.out ?_)
     | (go_at_call 22; (with_reducible refine CP.out.mono ?_); rintro e w3 ⟨rfl, hd⟩; have D3 := zh hd; clear hd))
    exact ⟨⟨j + 1, by have := HLT.out; omega, by go_num, by rw [E1.out]; go_num, by rw [HT.out.1]; exact D3.out⟩, by simp [intOf]; have := HLT.out; omega⟩
  ·have q1 : ((k : Nat) : Int) ≤ (j : Nat) := by omega
   have e : l.take j = l := List.take_of_length_le (by have := HL.out; omega)
   rw [e] at D ⊢
   go_wp2_with fail
   go_ret2
   obtain ⟨⟨X, h1, h2⟩, h3⟩ := D.out
   exact ⟨q, X, rfl, h1, h2, h3⟩
end Go.Proofs.YtnacjhnfkkddcaaGreatDoor
namespace Go.Proofs.YtnacjhnfkkddcaaGreatDoor
open Go.RowKit Go.Maps Go.Proofs
def toL (k : ByteArray) : List UInt8 := k.data.toList
theorem toL_inj {a b : ByteArray} (h : toL a = toL b) : a = b := ByteArray.ext (Array.ext' h)
theorem toL_eq (k : ByteArray) : k.toList = toL k := ByteArray.toList_eq k
def ofL (x : List UInt8) : ByteArray := ⟨x.toArray⟩
theorem ofL_toL (k : ByteArray) : ofL (toL k) = k := by unfold ofL toL; simp
theorem enc_toL (k : ByteArray) : encStr (toL k) = .string k := by show Value.string (ofL (toL k)) = _; rw [ofL_toL]
theorem jmd (ks : List ByteArray) : (ks.map toL).map encStr = ks.map Value.string := by
 rw [List.map_map]
 exact List.map_congr_left fun k _ => enc_toL k
theorem bl_lt : ∀ x y : List UInt8, Op.bytesLess x y = decide (x < y)
 | [], [] => rfl
 | [], _ :: _ => by simp [Op.bytesLess]
 | _ :: _, [] => by simp [Op.bytesLess]
 | a :: x, b :: y => by
  simp only [Op.bytesLess, bl_lt x y, List.cons_lt_cons_iff]
  by_cases h : a < b <;> by_cases h2 : a = b <;> simp [h, h2]
theorem lt_iff {a b : ByteArray} : Kv.lt a b ↔ toL a < toL b := by
 unfold Kv.lt
 rw [toL_eq, toL_eq, bl_lt, decide_eq_true_eq]
def jf1 (ks : List ByteArray) : List ByteArray := ((ks.map toL).mergeSort leB).map ofL
theorem jgz (ks : List ByteArray) : (jf1 ks).map toL = (ks.map toL).mergeSort leB := by
 unfold jf1
 rw [List.map_map]
 conv => rhs; rw [← List.map_id ((ks.map toL).mergeSort leB)]
 refine List.map_congr_left fun x _ => ?_
 show toL (ofL x) = x
 unfold toL ofL
 simp
theorem jd0 (ks : List ByteArray) : (jf1 ks).length = ks.length := by unfold jf1; simp
theorem jn5 {ks ts : List ByteArray} (hn : ks.Nodup) (hr : ts.Pairwise Kv.lt) (hm : ∀ k, k ∈ ks ↔ k ∈ ts) : jf1 ks = ts := by
 have hnt : ts.Nodup := hr.imp fun h => Kv.lt_ne h
 have hp : ks.Perm ts := (List.perm_ext_iff_of_nodup hn hnt).2 hm
 have tr : ∀ a b c : List UInt8, leB a b = true → leB b c = true → leB a c = true := fun a b c h1 h2 => by simp only [leB, decide_eq_true_eq] at *; exact List.le_trans h1 h2
 have tot : ∀ a b : List UInt8, (leB a b || leB b a) = true := fun a b => by simp only [leB, Bool.or_eq_true, decide_eq_true_eq]; exact List.le_total a b
 have e : (ks.map toL).mergeSort leB = ts.map toL := by
  refine List.Perm.eq_of_pairwise (le := fun a b => leB a b = true) (fun a b _ _ h1 h2 => ?_) (List.pairwise_mergeSort tr tot _) (List.pairwise_map.2 (hr.imp fun {a b} h => ?_)) ((List.mergeSort_perm _ leB).trans (hp.map toL))
  ·simp only [leB, decide_eq_true_eq] at h1 h2
   exact List.le_antisymm h1 h2
  ·simp only [leB, decide_eq_true_eq]
   exact List.le_of_lt (lt_iff.1 h)
 have h2 := jgz ks
 rw [e] at h2
 refine List.ext_getElem? fun i => ?_
 have h3 := congrArg (fun l => l[i]?) h2
 simp only [List.getElem?_map] at h3
 cases h4 : (jf1 ks)[i]? with
 | none => rw [h4] at h3; cases h5 : ts[i]? with
  | none => rfl
  | some y => rw [h5] at h3; cases h3
 | some x =>
  rw [h4] at h3
  cases h5 : ts[i]? with
  | none => rw [h5] at h3; cases h3
  | some y => rw [h5] at h3; exact congrArg some (toL_inj (Option.some.inj h3))
theorem jjv {l : List Kv.En} (h : Kv.Rise l) (s r : Int) : (Kv.since ⟨l, s⟩ r).Pairwise Kv.lt := by
 unfold Kv.since
 exact List.pairwise_map.2 (List.Pairwise.filter _ h)
theorem jme {l : List Kv.En} (h : Kv.Rise l) {s r : Int} {k : ByteArray} : k ∈ Kv.since ⟨l, s⟩ r ↔ ∃ e, Kv.find l k = some e ∧ r < e.rev := by
 unfold Kv.since
 rw [List.mem_map]
 constructor
 ·rintro ⟨e, he, rfl⟩
  rw [List.mem_filter, decide_eq_true_eq] at he
  exact ⟨e, Kv.find_mem h he.1, he.2⟩
 ·rintro ⟨e, he, hr⟩
  have := Kv.find_some he
  exact ⟨e, List.mem_filter.2 ⟨this.1, by simpa using hr⟩, this.2⟩
def Coll (l : List Kv.En) (r : Int) (left : Lit → Bool) (ks : List ByteArray) : Prop := ks.Nodup ∧ ∀ k, k ∈ ks ↔ (∃ e, Kv.find l k = some e ∧ r < e.rev) ∧ left (kl k) = false
theorem Coll.start {D : DataW Unit} {l : List Kv.En} (h : DIs D l) (r : Int) : Coll l r (Maps.has D) [] := by
 refine ⟨List.nodup_nil, fun k => ?_⟩
 simp only [List.not_mem_nil, false_iff, not_and]
 rintro ⟨e, he, _⟩ h2
 have := h.has k
 rw [he, h2] at this
 cases this
theorem same_kl {k x : ByteArray} : (kl k).sameKey (kl x) = decide (k = x) := by
 by_cases h : k = x
 ·subst h; rw [WideAt.sameKey_self (jcx k)]; simp
 ·rw [Maps.sameKey_ne (fun e => h (jem e))]; simp [h]
theorem Coll.step {l : List Kv.En} {r : Int} {left : Lit → Bool} {ks : List ByteArray} (h : Coll l r left ks) {x : ByteArray} {e : Kv.En} (hx : left (kl x) = true) (he : Kv.find l x = some e) :
  Coll l r (fun z => left z && !z.sameKey (kl x)) (if r < e.rev then ks ++ [x] else ks) := by
 have hnew : x ∉ ks := fun hm => by have := ((h.2 x).1 hm).2; rw [hx] at this; cases this
 by_cases hr : r < e.rev
 ·rw [if_pos hr]
  refine ⟨List.nodup_append.2 ⟨h.1, by simp, fun a ha b hb => by simp at hb; subst hb; exact fun e => hnew (e ▸ ha)⟩, fun k => ?_⟩
  rw [List.mem_append, h.2 k]
  show _ ↔ _ ∧ (left (kl k) && !(kl k).sameKey (kl x)) = false
  rw [same_kl]
  by_cases hk : k = x
  ·subst hk; simp [he, hr]
  ·simp [hk]
 ·rw [if_neg hr]
  refine ⟨h.1, fun k => ?_⟩
  rw [h.2 k]
  show _ ↔ _ ∧ (left (kl k) && !(kl k).sameKey (kl x)) = false
  rw [same_kl]
  by_cases hk : k = x
  ·subst hk; simp [he, hr]
  ·simp [hk]
theorem Coll.all {l : List Kv.En} {r : Int} {left : Lit → Bool} {ks : List ByteArray} (h : Coll l r left ks) (hl : ∀ z, left z = false) (hr : Kv.Rise l) (s : Int) : jf1 ks = Kv.since ⟨l, s⟩ r :=
 jn5 h.1 (jjv hr s r) fun k => by rw [h.2 k, jme hr]; simp [hl]
theorem DIs.entry {D : DataW Unit} {l : List Kv.En} (h : DIs D l) {x v : ByteArray} {r : Int} (hat : ∀ z, D.atKey (kl x) z = eD v r) : ∃ e, Kv.find l x = some e ∧ e.val = v ∧ e.rev = r := by
 have h1 := h.has x
 rw [Maps.has_true_of_atKey hat] at h1
 cases hf : Kv.find l x with
 | none => rw [hf] at h1; cases h1
 | some e =>
  obtain ⟨e1, e2⟩ := jk1 ((h.at_ x e hf (eD v r)).symm.trans (hat _))
  exact ⟨e, rfl, e1, e2⟩
structure SortC (P : Program) (f : FuncId) : Prop where
 row : ∀ (blk off cap : Nat) (ss : List (List UInt8)) (w : World), Sort.Holds encStr w blk off ss.toArray → blk < w.heap.size → ss.length < 4611686018427387904 → Calls P f #[.slice (some ⟨blk, off, none⟩) ss.length cap] w fun e w' =>
  e = .returned (.tuple #[]) ∧ ∃ n os, w' = Sort.grow (Sort.putRow encStr (Sort.ahead w n) blk off (ss.mergeSort fun x y => decide (x ≤ y)).toArray) os
 none_ : ∀ w, Calls P f #[.slice none 0 0] w fun e w' => e = .returned (.tuple #[]) ∧ w' = w
theorem jn6 {P : Program} {f : FuncId} (hS : SortC P f) {e : TypeId} {w : World} {B : Nat} {v : Value} {ks : List ByteArray} (h : OwnR 1 (fun _ cs (s : ByteArray) => cs = [.string s]) e w w B v ks) (hz : ks.length ≤ 1000000) :
  Calls P f #[v] w fun en w' => en = .returned (.tuple #[]) ∧ OwnR 1 (fun _ cs (s : ByteArray) => cs = [.string s]) e w' w' B v (jf1 ks) ∧ w.grownBy w' v.ownBlock := by
 obtain ⟨xs, h1, h2⟩ := h
 have hxs : xs = ks.map Value.string := by
  have hl := h1.1
  refine List.ext_getElem? fun i => ?_
  by_cases hi : i < ks.length
  ·obtain ⟨cs, _, hc, he⟩ := h2 i ks[i] (List.getElem?_eq_getElem hi)
   have := hc 0 (by omega)
   rw [Nat.mul_one, Nat.add_zero, he] at this
   rw [this]
   simp [hi]
  ·rw [List.getElem?_eq_none (by omega), List.getElem?_eq_none (by simpa using Nat.le_of_not_lt hi)]
 have own_of : ∀ (w' : World) (ts : List ByteArray), ts.length = ks.length → w'.ownsRow B e 1 v ks.length (ts.map Value.string) → OwnR 1 (fun _ cs (s : ByteArray) => cs = [.string s]) e w' w' B v ts := fun w' ts hl ho => by
  refine ⟨_, by rw [hl]; exact ho, fun j t hj => ⟨[.string t], rfl, fun i hi => ?_, rfl⟩⟩
  obtain rfl : i = 0 := by omega
  rw [Nat.mul_one, Nat.add_zero, List.getElem?_map, hj]
  rfl
 rcases h1.2 with ⟨rfl, h0⟩ | ⟨g, cap, cur, rfl, hbase, hb, c1, c2, c3, c4⟩
 ·obtain rfl : ks = [] := List.eq_nil_of_length_eq_zero h0
  refine (hS.none_ w).mono fun en w' ⟨he, hw⟩ => ⟨he, ?_, ?_⟩
  ·have : jf1 [] = [] := List.eq_nil_of_length_eq_zero (jd0 [])
   rw [this]
   exact OwnR.none_ _ _ _ _
  ·subst hw
   exact ⟨rfl, rfl, rfl, Nat.le_refl _, fun i hi _ => rfl⟩
 ·rw [Nat.mul_one] at c4
  have hk : (ks.map toL).map encStr = xs := by rw [jmd, hxs]
  have h5 := hS.row g 0 cap (ks.map toL) w (holds_of_block hb (by rw [List.length_map, hk]; exact c4)) (Array.getElem?_eq_some_iff.1 hb).1 (by rw [List.length_map]; omega)
  rw [List.length_map] at h5
  refine h5.mono fun en w' ⟨he, n, os, hw⟩ => ⟨he, ?_, ?_⟩
  ·subst hw
   have h6 := ownsRow_sorted (base := B) (g := g) (cap := cap) (n := n) (os := os) (ss := ks.map toL) (ts := (ks.map toL).mergeSort leB) (by simp) hbase hb (by rw [List.length_map]; exact c1) c2 c3
   rw [List.length_map] at h6
   refine own_of _ _ (jd0 ks) ?_
   rw [← jmd, jgz]
   exact h6
  ·subst hw
   exact grownBy_sorted _
end Go.Proofs.YtnacjhnfkkddcaaGreatDoor
namespace Go.Proofs.YtnacjhnfkkddcaaGreatDoor
open Go.RowKit Go.Deep Go.Maps
theorem jg0 : SortC Tryz.prog 114 := ⟨Tryz.slices_Sort_string, Tryz.slices_Sort_string_none none 0⟩
theorem Z_own {w w0 : World} {B : Nat} {v : Value} {l : List ByteArray} (h : OwnR 1 ETx 9 w0 w B v l) : w.ownsRow B 9 1 v l.length (h.choose) := h.choose_spec.1
theorem jd5 {w w' : World} (h : w.grownBy w' none) : Below w.heap.size w w' := (Below.refl w.heap.size w).grown h (Nat.le_refl _) (fun k hk => by cases hk)
def mkK (x : ByteArray) : Value := .string x
def mkV (c : ByteArray × Int) : Value := .agg #[.string c.1, .int .i64 c.2]
theorem invK (key : Value) (z : Lit) (h : keyOf Tryz.prog 9 key = some z) : ∃ x, key = mkK x := by
 obtain ⟨x, rfl, _⟩ := Maps.keyOf_str Tryz.underlying9 h
 exact ⟨ofL x, rfl⟩
theorem key_is {x : ByteArray} {z : Lit} (h : keyOf Tryz.prog 9 (.string x) = some z) : z = kl x ∧ x.size ≤ maxLen := by
 obtain ⟨y, hy, rfl, hl⟩ := Maps.keyOf_str Tryz.underlying9 h
 have : x = ofL y := by
  have h1 : Value.string x = Value.string (ofL y) := hy
  injection h1
 subst this
 refine ⟨by unfold kl ofL; simp, ?_⟩
 show (ofL y).data.size ≤ _
 unfold ofL
 simpa using hl
theorem invV (v : Value) (y : DataW Unit × List MemPlace) (h : eR v = some y) : ∃ c, v = mkV c := by
 obtain ⟨s, r, rfl, _⟩ := jk0 h
 exact ⟨(s, r), rfl⟩
theorem jg1 (W : World) (p : Value) (m : Nat) (s : Kv.St) (r : Int) (h : EAt W p (some m) s) : Calls Tryz.prog 77 #[p, .int .i64 r] W (KTx (Kv.since s r) W) := by
 have G := zh h.good
 have CE := zh (jbn W p (some m) s h)
 obtain ⟨D, hD, hI⟩ := show jbm Tryz.prog 9 W m s.l from h.map
 have HD := zh hD
 have HI := zh hI
 have HML : Hid (m < W.heap.size) := h.map.lt
 clear h hD hI
 go_enter Tryz.func77, Tryz.ntmps77
 go_wp2_with (first | (go_at_call 75; (with_reducible refine CE.out.mono ?_); rintro e w1 ⟨rfl, hw⟩; subst hw) | (at_range; refine wpList_range_own _ rfl _ _ rfl _ _ (string_keyed Tryz.underlying9) Tryz.underlying81 eR m _ D rfl HD.out ?_; intro w0 hrg0 hg0 hs0; have RG0 := zh hrg0; have G0 := zh hg0; have S0 := zh hs0; clear hrg0 hg0 hs0; go_frame))
 have B0 := zh (jd5 G0.out)
 obtain ⟨it, hit⟩ : ∃ it, it = w1.heap.size := ⟨_, rfl⟩
 rw [← hit] at RG0 ⊢
 have HIT := zh hit
 have MS := zh HI.out.size
 clear hit
 go_loopw [5] (fun v wr => ∃ left cnt ks, wr.ranges Tryz.prog 9 eR m it s.l.length D left cnt ∧ jhy wr w0.heap.size v ks ∧ Coll s.l r left ks ∧ ks.length + cnt ≤ s.l.length ∧ Below w1.heap.size w1 wr ∧ w0.heap.size ≤ wr.heap.size) (fun _ wr => wr.rangeLeft m it)
 case atStart => exact ⟨_, _, [], RG0.out, OwnR.none_ _ _ _ _, Coll.start HI.out r, by rw [MS.out]; simp, B0.out, Nat.le_refl _⟩
 case round =>
  obtain ⟨left, cnt, ks, hrg, hown, hcoll, hlen, hbr, hsz⟩ := hrel
  have RG := zh hrg
  have O := zh hown
  have CO := zh hcoll
  have LE := zh hlen
  have B := zh hbr
  have SZ := zh hsz
  clear hrg hown hcoll hlen hbr hsz
  go_wp2_with (at_next; refine wpList_next_ranges _ rfl _ rfl 9 (string_keyed Tryz.underlying9) eR mkK mkV invK invV m it _ D left cnt rfl RG.out ?_ ?_)
  ·intro _ hl0
   have ES := zh (CO.out.all hl0 G.out.rise s.rev)
   have LN : Hid (ks.length ≤ 1000000) := by have := LE.out; have := G.out.len; show _ ≤ _; omega
   have CS := zh (jn6 jg0 O.out LN.out)
   go_wp2_with (go_at_call 114; (with_reducible refine CS.out.mono ?_); rintro en w9 ⟨rfl, ho9, hg9⟩; have O9 := zh ho9; have G9 := zh hg9; clear ho9 hg9)
   go_ret
   rw [ES.out] at O9
   have B9 : Below w1.heap.size w1 w9 := B.out.grown G9.out B.out.size (fun k hk => by have := (O.out.lt k hk).1; have := S0.out; omega)
   exact ⟨_, rfl, OwnR.lower O9.out (by have := S0.out; omega), B9⟩
  ·intro x c1 c2 z y1 y2 wx cnt1 hk hl hv hat hrg1 hlt hg1 hs1 hen
   obtain ⟨rfl, hkx⟩ := key_is hk
   obtain ⟨rfl, rfl⟩ : y1 = eD c1 c2 ∧ y2 = [] := by
    have h1 := (Option.some.inj hv).symm
    exact ⟨congrArg Prod.fst h1, congrArg Prod.snd h1⟩
   obtain ⟨e, he, e3, e4⟩ := HI.out.entry hat
   subst e3 e4
   have RG1 := zh hrg1
   have HS1 := zh hs1
   have B1 := zh (B.out.grown hg1 B.out.size (fun k hk => by injection hk with hk; have := HIT.out; omega))
   have HLT := zh hlt
   have HL := zh hl
   have hen2 : (Instr.entry (.pointer (some ⟨it, 0, none⟩))).run Tryz.prog wx = .ok (.tuple #[.string x, .agg #[.string e.val, .int .i64 e.rev]]) wx := hen
   have CO1 := zh (CO.out.step hl he)
   have hne : some it ≠ u5.ownBlock := row_ne_iter (Z_own O.out) RG.out
   have O1 := zh (jhy.any (w1 := wx) (O.out.kept hg1 (fun e => hne e.symm)))
   have S1 : Hid (w0.heap.size ≤ wx.heap.size) := by have := SZ.out; show _ ≤ _; omega
   have BN := zh ((Below.refl wx.heap.size wx).alloc (Nat.le_refl _) (.cells #[.string e.val, .int .i64 e.rev] 123))
   have RN := zh (heap_alloc_new wx (.cells #[.string e.val, .int .i64 e.rev] 123))
   have RG2 := zh (hrg1.alloc (.cells #[.string e.val, .int .i64 e.rev] 123))
   have hw : wr.rangeLeft m it = cnt := RG.out.left_eq
   have HW := zh hw
   have LN : Hid (ks.length ≤ 1000000) := by have := LE.out; have := G.out.len; show _ ≤ _; omega
   clear hk hv hl hat hrg1 hlt hg1 hs1 hen hne hw
   simp only [mkK, mkV]
   go_upto_region 5 with fail
   obtain ⟨gn, hgn⟩ : ∃ gn, gn = wx.heap.size := ⟨_, rfl⟩
   rw [← hgn] at RN ⊢
   have O2 := zh (jhy.any (w1 := wx.alloc (.cells #[.string e.val, .int .i64 e.rev] 123)) (O1.out.below BN.out))
   have B2 := zh (B1.out.trans (BN.out.mono B1.out.size))
   have S2 := zh (Nat.le_trans S1.out BN.out.size)
   have en1 : (wx.alloc (.cells #[.string e.val, .int .i64 e.rev] 123)).cell? ⟨gn, 1, none⟩ = some (.int .i64 e.rev) := by rw [cell_of_row _ gn 1 _ _ _ RN.out]; rfl
   clear hgn BN RN hen2
   generalize wx.alloc (.cells #[.string e.val, .int .i64 e.rev] 123) = wy at *
   by_cases hr : r < e.rev
   ·rw [if_pos hr] at CO1
    go_wp2_with (at_builtin; refine jd3 rfl (.tmp 20) (.tmp 22) rfl w0.heap.size _ _ rfl O2.out x rfl LN.out S2.out ?_; intro v3 w3 ho3 hb3 hg3; have O3 := zh ho3; have B3 := zh hb3; have G3 := zh hg3; clear ho3 hb3 hg3)
    have RG3 := RG2.out.kept G3.out (fun e => by have := (O2.out.lt m e.symm).1; have := HML.out; have := S0.out; omega) (row_ne_iter (Z_own O2.out) RG2.out)
    exact ⟨⟨_, _, _, RG3, O3.out, CO1.out, by have := LE.out; have := HLT.out; simp only [List.length_append, List.length_singleton]; omega, B2.out.trans (B3.out.mono (by have := S0.out; omega)), Nat.le_trans S2.out (G3.out.size)⟩, by rw [RG3.left_eq, HW.out]; exact HLT.out⟩
   ·rw [if_neg hr] at CO1
    go_wp2_with fail
    exact ⟨⟨_, _, _, RG2.out, O2.out, CO1.out, by have := LE.out; have := HLT.out; omega, B2.out, S2.out⟩, by rw [RG2.out.left_eq, HW.out]; exact HLT.out⟩
theorem jg2 (W : World) (p : Value) (s : Kv.St) (r : Int) (h : EAt W p none s) : Calls Tryz.prog 77 #[p, .int .i64 r] W (KTx [] W) := by
 have CE := zh (jbn W p none s h)
 have hrg := run_range_nilMap (P := Tryz.prog) W _ _ _ Tryz.underlying81
 have hnx := fun ty => run_next_nilMap (P := Tryz.prog) W ty 0 0 #[]
 have B1 := zh ((Below.refl W.heap.size W).alloc (Nat.le_refl _) (.mapIter none 0 #[] 0))
 have CS := zh (jg0.none_ (W.alloc (.mapIter none 0 #[] 0)))
 clear h
 go_enter Tryz.func77, Tryz.ntmps77
 go_wp2_with (go_at_call 75; (with_reducible refine CE.out.mono ?_); rintro e w1 ⟨rfl, hw⟩; subst hw)
 go_loopw [5] (fun v wr => v = .slice none 0 0 ∧ wr = w1.alloc (.mapIter none 0 #[] 0)) (fun _ _ => 0)
 case atStart => exact ⟨rfl, rfl⟩
 case round =>
  obtain ⟨rfl, rfl⟩ := hrel
  go_wp2_with (go_at_call 114; (with_reducible refine CS.out.mono ?_); rintro en w9 ⟨rfl, hw⟩; have HW := zh hw; clear hw)
  go_ret
  exact ⟨_, rfl, OwnR.none_ _ _ _ _, by rw [HW.out]; exact B1.out⟩
theorem jh8 (W : World) (p : Value) (mo : Option Nat) (s : Kv.St) (r : Int) (h : EAt W p mo s) : Calls Tryz.prog 77 #[p, .int .i64 r] W (KTx (Kv.since s r) W) := by
 cases mo with
 | some m => exact jg1 W p m s r h
 | none =>
  have e : s.l = [] := h.map
  have : Kv.since s r = [] := by unfold Kv.since; rw [e]; rfl
  rw [this]
  exact jg2 W p s r h
theorem jfg (W : World) (p : Value) (mo : Option Nat) (s : Kv.St) (h : EAt W p mo s) : Calls Tryz.prog 41 #[p] W (KTx (Kv.keysOf s.l) W) := by
 have C := zh (jh8 W p mo s 0 h)
 have E := zh (Kv.since_zero h.good)
 rw [E.out] at C
 clear h
 go_enter Tryz.func41, Tryz.ntmps41
 go_wp2_with (go_at_call 77; (with_reducible refine C.out.mono ?_); rintro e w1 ⟨v, rfl, ho, hb⟩; have O := zh ho; have B := zh hb; clear ho hb)
 go_ret
 exact ⟨_, rfl, O.out, B.out⟩
def inC (n : Int) : List Value := [.int .i64 n]
theorem inC_len (n : Int) : (inC n).length = 1 := rfl
theorem inC_one (n : Int) : ∀ u ∈ inC n, u.oneCell' = true := by intro u hu; rw [List.mem_singleton.1 hu]; rfl
theorem jmf (l : List Int) : l.flatMap inC = l.map (Value.int .i64) := by
 induction l with
 | nil => rfl
 | cons x l ih => rw [List.flatMap_cons, ih]; rfl
theorem jmg : (Tryz.prog.info? 3).map (fun i => (i.zero, i.size, i.bytes)) = some (some (.int .i64 0), 1, 8) := by kernel_rfl
def jjw (l : List Int) : List Int := l.mergeSort fun x y => decide (x ≤ y)
theorem jcr (l : List Int) : (jjw l).length = l.length := List.length_mergeSort l
theorem jjx {l L : List Int} (h : l.Perm L) (hr : L.Pairwise fun a b => a < b) : jjw l = L := by
 unfold jjw
 refine List.Perm.eq_of_pairwise (le := fun a b => decide (a ≤ b) = true) (fun a b _ _ h1 h2 => ?_) (List.pairwise_mergeSort (fun a b c h1 h2 => ?_) (fun a b => ?_) _) (hr.imp fun {a b} h => ?_) ((List.mergeSort_perm l _).trans h)
 ·rw [decide_eq_true_eq] at h1 h2; omega
 ·rw [decide_eq_true_eq] at *; omega
 ·rw [Bool.or_eq_true, decide_eq_true_eq, decide_eq_true_eq]; omega
 ·rw [decide_eq_true_eq]; omega
theorem jmh {w : World} {B : Nat} {v : Value} {ns : List Int} (h : OwF inC 1 3 w B v ns) (hz : ns.length ≤ 1000000) :
  Calls Tryz.prog 43 #[v] w fun en w' => en = .returned (.tuple #[]) ∧ OwF inC 1 3 w' B v (jjw ns) ∧ w.grownBy w' v.ownBlock := by
 rcases h.2 with ⟨rfl, h0⟩ | ⟨g, cap, cur, rfl, hbase, hb, c1, c2, c3, c4⟩
 ·obtain rfl : ns = [] := List.eq_nil_of_length_eq_zero h0
  refine (Tryz.slices_Sort_int_none none 0 w).mono fun en w' ⟨he, hw⟩ => ⟨he, ?_, ?_⟩
  ·rw [show jjw [] = [] from List.eq_nil_of_length_eq_zero (jcr [])]
   exact OwF.none_ _ _ _
  ·subst hw
   exact ⟨rfl, rfl, rfl, Nat.le_refl _, fun i hi _ => rfl⟩
 ·rw [Nat.mul_one, jmf] at c4
  refine (Tryz.slices_Sort_int g 0 cap ns w (holds_of_blockI hb c4) (Array.getElem?_eq_some_iff.1 hb).1 (by omega)).mono fun en w' ⟨he, n, os, hw⟩ => ⟨he, ?_, ?_⟩
  ·subst hw
   have h6 := ownsRow_sortedI (base := B) (g := g) (cap := cap) (n := n) (os := os) (ss := ns) (ts := jjw ns) (jcr ns) hbase hb c1 c2 c3
   unfold OwF
   rw [jcr, jmf]
   exact h6
  ·subst hw
   exact grownBy_sortedI _
def jc9 (t : ByteArray) : Int := (Lib.atoi t.data.toList).getD 0
theorem jg3 (n : Int) : Lib.atoi (Bd.key n).data.toList = some n := by
 unfold Bd.key
 rw [Spc.txt_bts, ← Spc.itoa_is, Spc.atoi_itoa]
structure Nums (K : Kv.St) (vs : List Bk.Vn) : Prop where
 perm : ((Kv.keysOf K.l).map jc9).Perm (vs.map (·.n))
 key : ∀ k ∈ Kv.keysOf K.l, k.size ≤ 18 ∧ Lib.atoi k.data.toList = some (jc9 k)
theorem jmi {K : Kv.St} {vs : List Bk.Vn} (h : Bd.Digs K vs) (hv : ∀ v ∈ vs, 1 ≤ v.n ∧ v.n ≤ 1048576 ∧ v.t.size ≤ 64) : Nums K vs := by
 refine ⟨?_, fun k hk => ?_⟩
 ·refine (h.keys.map jc9).trans ?_
  rw [List.map_map]
  have : (jc9 ∘ fun v : Bk.Vn => Bd.key v.n) = fun v => v.n := by funext v; show jc9 (Bd.key v.n) = v.n; unfold jc9; rw [jg3]; rfl
  rw [this]
 ·obtain ⟨v, hm, rfl⟩ := List.mem_map.1 (h.keys.mem_iff.1 hk)
  have h1 := hv v hm
  refine ⟨?_, ?_⟩
  ·have := Bd.key_ten (n := v.n) (by omega) (by omega)
   unfold Bd.key
   rw [jcc]
   omega
  ·unfold jc9
   rw [jg3]
   rfl
theorem jn7 {k : ByteArray} (h : k.size ≤ 18 ∧ Lib.atoi k.data.toList = some (jc9 k)) (w : World) : Calls Tryz.prog 42 #[.string k] w (BRet (.tuple #[.int .i64 (jc9 k), .nilIface]) w) := by
 refine (Tryz.strconv_Atoi k (jc9 k) h.1 h.2 w).mono ?_
 rintro e w' ⟨rfl, t, rfl⟩
 exact ⟨rfl, Joins.below_bytesWorld _ _ _ _ (Nat.le_refl _)⟩
theorem jmj (q : Nat) (s : Bk.St) (ru : Nat → Bk.Un) (rv : Int) (lo ko : Option Nat) (H : Value) (K : Kv.St) (w : World) (h : BdIs w q s ru rv lo ko H K) : Calls Tryz.prog 24 #[.pointer (some ⟨q, 0, none⟩)] w (jd2 (fun n : Int => [.int .i64 n]) (s.vs.map (·.n)) w) := by
 have CK := zh (jfg w _ ko K h.kvIs.ask)
 have NP := zh (jmi h.dg h.lok.ok.vs).perm
 have NK := zh (jmi h.dg h.lok.ok.vs).key
 have RI := zh h.lok.ok.rise
 have HL : Hid ((Kv.keysOf K.l).length ≤ 64) := by show _ ≤ _; unfold Kv.keysOf; rw [List.length_map]; exact h.kg.len
 have H0 := zh h
 have lq := h.lt.1
 clear h
 unfold KTx at CK
 generalize Kv.keysOf K.l = ks at *
 go_enter Tryz.func24, Tryz.ntmps24
 go_upto_region 4 with fail
 generalize hv0 : Value.slice none 0 0 = v0
 have HV := zh hv0
 clear hv0
 go_wp2_with (go_at_call 41; (with_reducible refine CK.out.mono ?_); rintro e w1 hp; obtain ⟨v1, rfl, ho, hb⟩ := hp; obtain ⟨A9, c9, rfl, s9⟩ := (jhy.any (w1 := w1) ho).slr ETx.on (Below.refl _ _); have SK := zh s9; have B1 := zh hb; clear ho hb s9)
 go_loopw [3, 15] (fun v i wr => ∃ j : Nat, j ≤ ks.length ∧ i = .int .i64 j ∧ OwF inC 1 3 wr w1.heap.size v ((ks.take j).map jc9) ∧ Below w1.heap.size w1 wr) (fun v i wr => ks.length - (intOf i).toNat)
 case atStart => exact ⟨0, Nat.zero_le _, rfl, by rw [← HV.out]; exact OwF.none_ _ _ _, Below.refl _ _⟩
 case round =>
  obtain ⟨j, hj, rfl, ho, hbr⟩ := hrel
  have O := zh ho
  have B := zh hbr
  clear ho hbr
  have i1 : (0 : Int) ≤ (j : Int) := by omega
  by_cases hlt : j < ks.length
  ·have hx : ks[j]? = some ks[j] := List.getElem?_eq_getElem hlt
   have NX : Hid (((ks.take (j + 1)).map jc9) = (ks.take j).map jc9 ++ [jc9 ks[j]]) := by show _ = _; rw [List.take_add_one, hx, List.map_append]; rfl
   obtain ⟨b, o, rfl⟩ := (SK.out).addr (by omega)
   have S2 := zh (SlR.on ETx.on SK.out B.out)
   obtain ⟨hbl, cs, hcl, hce, hE⟩ := S2.out.cell hlt
   have hE2 : cs = [.string ks[j]] := hE
   subst hE2
   have e0 := hce 0 (by omega)
   simp only [Nat.mul_one, Nat.add_zero, List.getElem?_cons_zero] at e0
   have CA := zh (fun W => jn7 (NK.out ks[j] (List.getElem_mem hlt)) W)
   generalize ks[j] = x at *
   have q1 : ((j : Nat) : Int) < (ks.length : Nat) := by omega
   have q2 : ((ks.length : Nat) : Int) ≤ 64 := by have := HL.out; omega
   have LT := zh hlt
   clear hx hce hE hcl hlt
   go_upto_region 8 with (go_at_call 42; (with_reducible refine (CA.out _).mono ?_); rintro e w2 ⟨rfl, hb2⟩; have B2 := zh hb2; clear hb2)
   have O2 := zh (O.out.below B2.out)
   have B3 := zh (B.out.trans (B2.out.mono B.out.size))
   generalize jc9 x = n at *
   clear CA e0
   go_wp2_with (first
    | ((with_reducible show zB 26); refine jag Tryz.underlying57 jmg (by omega) (by omega) rfl (.tmp 25) rfl #[.int .i64 n] rfl rfl ?_)
    | (at_builtin; refine jad inC_len inC_one Tryz.underlying57 jmg rfl (by omega) rfl (.tmp 24) (.tmp 26) rfl w1.heap.size _ _ rfl O2.out n rfl (by have := HL.out; have := LT.out; rw [List.length_map, List.length_take]; unfold maxLen; omega) (by have := HL.out; have := LT.out; rw [List.length_map, List.length_take]; omega) B3.out.size ?_; intro v9 w9 ho9 hb9 _ _; have O9 := zh ho9; have B9 := zh (B3.out.trans hb9); clear ho9 hb9))
   have hq := LT.out
   have hq2 := HL.out
   refine ⟨⟨j + 1, by omega, by go_num, ?_, B9.out⟩, by simp [intOf]; omega⟩
   rw [NX.out]
   exact O9.out
  ·have q1 : ((ks.length : Nat) : Int) ≤ (j : Nat) := by omega
   obtain rfl : j = ks.length := by omega
   have O1 := O.out
   rw [List.take_length] at O1
   have O2 := zh O1
   clear O1
   have CS := zh (jmh O2.out (by rw [List.length_map]; have := HL.out; omega))
   go_wp2_with (go_at_call 43; (with_reducible refine CS.out.mono ?_); rintro e w3 ⟨rfl, ho3, hg3⟩; have O3 := zh ho3; have G3 := zh hg3; clear ho3 hg3)
   go_ret
   rw [jjx NP.out (List.pairwise_map.2 RI.out)] at O3
   have BW : Below w1.heap.size wr w3 := (Below.refl wr.heap.size wr |>.mono B.out.size).grown G3.out B.out.size (fun k hk => (O2.out.lt k hk).1)
   have BZ := B1.out.trans ((B.out.trans BW).mono B1.out.size)
   obtain ⟨AF, cF, rfl⟩ := O3.out.form
   refine ⟨AF, cF, rfl, O3.out.sl, BZ, fun b o e => ?_⟩
   subst e
   have := (O3.out.lt b rfl).1
   have := B1.out.size
   omega
end Go.Proofs.YtnacjhnfkkddcaaGreatDoor
namespace Go.Proofs.YtnacjhnfkkddcaaGreatDoor
open Go.RowKit
namespace Bk
def unSame (a b : Un) : Bool := (a.v == b.v) && ((a.q == b.q) && ((a.d == b.d) && true))
theorem unSame_iff {a b : Un} : unSame a b = true ↔ a = b := by
 unfold unSame
 simp only [Bool.and_eq_true, beq_iff_eq, and_true]
 constructor
 ·rintro ⟨h1, h2, h3⟩
  cases a; cases b
  simp only at h1 h2 h3
  subst h1 h2 h3
  rfl
 ·rintro rfl; simp
def uC (u : Nat → Un) : Array Value := #[.int .i64 (u 0).v, .int .i64 (u 0).q, .bool (u 0).d, .int .i64 (u 1).v, .int .i64 (u 1).q, .bool (u 1).d, .int .i64 (u 2).v, .int .i64 (u 2).q, .bool (u 2).d, .int .i64 (u 3).v, .int .i64 (u 3).q, .bool (u 3).d, .int .i64 (u 4).v, .int .i64 (u 4).q, .bool (u 4).d, .int .i64 (u 5).v, .int .i64 (u 5).q, .bool (u 5).d, .int .i64 (u 6).v, .int .i64 (u 6).q, .bool (u 6).d, .int .i64 (u 7).v, .int .i64 (u 7).q, .bool (u 7).d, .int .i64 (u 8).v, .int .i64 (u 8).q, .bool (u 8).d, .int .i64 (u 9).v, .int .i64 (u 9).q, .bool (u 9).d, .int .i64 (u 10).v, .int .i64 (u 10).q, .bool (u 10).d, .int .i64 (u 11).v, .int .i64 (u 11).q, .bool (u 11).d, .int .i64 (u 12).v, .int .i64 (u 12).q, .bool (u 12).d, .int .i64 (u 13).v, .int .i64 (u 13).q, .bool (u 13).d, .int .i64 (u 14).v, .int .i64 (u 14).q, .bool (u 14).d, .int .i64 (u 15).v, .int .i64 (u 15).q, .bool (u 15).d]
def usSame (u t : Nat → Un) : Bool := (Bk.unSame (u 0) (t 0) && (Bk.unSame (u 1) (t 1) && (Bk.unSame (u 2) (t 2) && (Bk.unSame (u 3) (t 3) && (Bk.unSame (u 4) (t 4) && (Bk.unSame (u 5) (t 5) && (Bk.unSame (u 6) (t 6) && (Bk.unSame (u 7) (t 7) && (Bk.unSame (u 8) (t 8) && (Bk.unSame (u 9) (t 9) && (Bk.unSame (u 10) (t 10) && (Bk.unSame (u 11) (t 11) && (Bk.unSame (u 12) (t 12) && (Bk.unSame (u 13) (t 13) && (Bk.unSame (u 14) (t 14) && (Bk.unSame (u 15) (t 15) && true))))))))))))))))
theorem usSame_iff {u t : Nat → Un} : usSame u t = true ↔ ∀ i, i < 16 → u i = t i := by
 unfold usSame
 simp only [Bool.and_eq_true, unSame_iff, and_true]
 constructor
 ·rintro ⟨h0, h1, h2, h3, h4, h5, h6, h7, h8, h9, h10, h11, h12, h13, h14, h15⟩ i hi
  rcases i with _ | _ | _ | _ | _ | _ | _ | _ | _ | _ | _ | _ | _ | _ | _ | _ | i
  all_goals first | assumption | omega
 ·intro h
  exact ⟨h 0 (by omega), h 1 (by omega), h 2 (by omega), h 3 (by omega), h 4 (by omega), h 5 (by omega), h 6 (by omega), h 7 (by omega), h 8 (by omega), h 9 (by omega), h 10 (by omega), h 11 (by omega), h 12 (by omega), h 13 (by omega), h 14 (by omega), h 15 (by omega)⟩
end Bk
theorem jmk : Tryz.prog.underlying 37 = some (.struct (Tryz.prog.fieldsOf 37)) := by kernel_rfl
theorem jn8 : Tryz.prog.stoodInHeld 37 = false := by kernel_rfl
theorem jn9 : Tryz.prog.cellsOf 37 = 3 := by kernel_rfl
theorem jd1 : Tryz.prog.underlying 38 = some (.array 16 37) := by kernel_rfl
theorem jml : (Tryz.prog.info? 37).map (fun i => (i.zero, i.size, i.bytes)) = some (some (.agg #[.int .i64 0, .int .i64 0, .bool false]), 3, 24) := by kernel_rfl
theorem jbf (a b : Bk.Un) (d : Nat) (W : World) : (Op.equalIn (d + 2) 37 (.agg #[.int .i64 a.v, .int .i64 a.q, .bool a.d]) (.agg #[.int .i64 b.v, .int .i64 b.q, .bool b.d])).run Tryz.prog W = .ok (Bk.unSame a b) W := by
 rw [run_equalIn_agg W (d + 1) 37 _ _ jmk jn8]
 have hi : ∀ x y, (Op.equalIn (d + 1) 3 (.int .i64 x) (.int .i64 y)).run Tryz.prog W = .ok (x == y) W := fun x y => run_equalIn_int W d 3 .i64 .i64 x y Tryz.underlying3
 have hb : ∀ x y, (Op.equalIn (d + 1) 4 (.bool x) (.bool y)).run Tryz.prog W = .ok (x == y) W := fun x y => run_equalIn_bool' W d 4 x y Tryz.underlying4
 simp only [Program.fieldsOf, Tryz.underlying37]
 unfold Bk.unSame
 refine jah (by decide) ?_ ?_ (hi _ _) (jah (by decide) ?_ ?_ (hi _ _) (jah (by decide) ?_ ?_ (hb _ _) jeb))
 all_goals simp [go_sem, Sem.run_bind, Result.andThen]
theorem us_eqIn (u t : Nat → Bk.Un) (d : Nat) (W : World) : (Op.equalIn (d + 4) 38 (.agg (Bk.uC u)) (.agg (Bk.uC t))).run Tryz.prog W = .ok (Bk.usSame u t) W := by
 obtain ⟨i0, hi0, hz0, hz1, hz2⟩ := info_parts jml
 rw [run_equalIn_array W (d + 3) _ _ jd1 hi0, jn9, show List.range 16 = [0, 1, 2, 3, 4, 5, 6, 7, 8, 9, 10, 11, 12, 13, 14, 15] from rfl]
 unfold Bk.usSame Bk.uC
 exact (jau (by simp [go_sem, Sem.run_bind, Result.andThen]) (by simp [go_sem, Sem.run_bind, Result.andThen]) (jbf (u 0) (t 0) (d + 1) W) (jau (by simp [go_sem, Sem.run_bind, Result.andThen]) (by simp [go_sem, Sem.run_bind, Result.andThen]) (jbf (u 1) (t 1) (d + 1) W) (jau (by simp [go_sem, Sem.run_bind, Result.andThen]) (by simp [go_sem, Sem.run_bind, Result.andThen]) (jbf (u 2) (t 2) (d + 1) W) (jau (by simp [go_sem, Sem.run_bind, Result.andThen]) (by simp [go_sem, Sem.run_bind, Result.andThen]) (jbf (u 3) (t 3) (d + 1) W) (jau (by simp [go_sem, Sem.run_bind, Result.andThen]) (by simp [go_sem, Sem.run_bind, Result.andThen]) (jbf (u 4) (t 4) (d + 1) W) (jau (by simp [go_sem, Sem.run_bind, Result.andThen]) (by simp [go_sem, Sem.run_bind, Result.andThen]) (jbf (u 5) (t 5) (d + 1) W) (jau (by simp [go_sem, Sem.run_bind, Result.andThen]) (by simp [go_sem, Sem.run_bind, Result.andThen]) (jbf (u 6) (t 6) (d + 1) W) (jau (by simp [go_sem, Sem.run_bind, Result.andThen]) (by simp [go_sem, Sem.run_bind, Result.andThen]) (jbf (u 7) (t 7) (d + 1) W) (jau (by simp [go_sem, Sem.run_bind, Result.andThen]) (by simp [go_sem, Sem.run_bind, Result.andThen]) (jbf (u 8) (t 8) (d + 1) W) (jau (by simp [go_sem, Sem.run_bind, Result.andThen]) (by simp [go_sem, Sem.run_bind, Result.andThen]) (jbf (u 9) (t 9) (d + 1) W) (jau (by simp [go_sem, Sem.run_bind, Result.andThen]) (by simp [go_sem, Sem.run_bind, Result.andThen]) (jbf (u 10) (t 10) (d + 1) W) (jau (by simp [go_sem, Sem.run_bind, Result.andThen]) (by simp [go_sem, Sem.run_bind, Result.andThen]) (jbf (u 11) (t 11) (d + 1) W) (jau (by simp [go_sem, Sem.run_bind, Result.andThen]) (by simp [go_sem, Sem.run_bind, Result.andThen]) (jbf (u 12) (t 12) (d + 1) W) (jau (by simp [go_sem, Sem.run_bind, Result.andThen]) (by simp [go_sem, Sem.run_bind, Result.andThen]) (jbf (u 13) (t 13) (d + 1) W) (jau (by simp [go_sem, Sem.run_bind, Result.andThen]) (by simp [go_sem, Sem.run_bind, Result.andThen]) (jbf (u 14) (t 14) (d + 1) W) (jau (by simp [go_sem, Sem.run_bind, Result.andThen]) (by simp [go_sem, Sem.run_bind, Result.andThen]) (jbf (u 15) (t 15) (d + 1) W) jj8))))))))))))))))
theorem jda (u : Nat → Bk.Un) : (Tryz.prog.info? 38).map (·.size) = some (Bk.uC u).toList.length := by kernel_rfl
open Go.Deep Go.Maps
def Bd.mix (ru : Nat → Bk.Un) (j : Nat) : List Bk.Un := (List.range 16).map fun i => if i < j then Bd.told (ru i) else ru i
theorem jmm {ru : Nat → Bk.Un} {s : Bk.St} (h : Bd.Raw ru s.us) : Bd.mix ru 16 = Bk.units s := by
 unfold Bd.mix Bk.units
 refine List.map_congr_left fun i hi => ?_
 rw [if_pos (List.mem_range.1 hi), (h i (List.mem_range.1 hi)).1]
theorem mix_set (ru : Nat → Bk.Un) {j : Nat} (hj : j < 16) : ((Bd.mix ru j).flatMap Bk.unC).set (j * 3 + 2) (.bool ((ru j).d || decide ((ru j).q = 0))) = (Bd.mix ru (j + 1)).flatMap Bk.unC := by
 rcases j with _ | _ | _ | _ | _ | _ | _ | _ | _ | _ | _ | _ | _ | _ | _ | _ | j
 all_goals first | rfl | omega
theorem mix_get (ru : Nat → Bk.Un) {j : Nat} (hj : j < 16) : ((Bd.mix ru j).flatMap Bk.unC)[j * 3]? = some (.int .i64 (ru j).v) ∧ ((Bd.mix ru j).flatMap Bk.unC)[j * 3 + 1]? = some (.int .i64 (ru j).q) ∧ ((Bd.mix ru j).flatMap Bk.unC)[j * 3 + 2]? = some (.bool (ru j).d) := by
 rcases j with _ | _ | _ | _ | _ | _ | _ | _ | _ | _ | _ | _ | _ | _ | _ | _ | j
 all_goals first | exact ⟨rfl, rfl, rfl⟩ | omega
theorem jmn {w : World} {q : Nat} {s : Bk.St} {ru : Nat → Bk.Un} {rv : Int} {lm km H : Value} (h : BdAt w q s ru rv lm km H) : SlF Bk.unC w (some ⟨q, 26, none⟩) 16 16 (Bd.mix ru 0) := by
 refine ⟨fun _ => ⟨q, 26, rfl, h.lt, fun j u hj => ?_⟩, rfl, Nat.le_refl _, by unfold maxLen; omega, fun e => by cases e⟩
 have hl : j < 48 := (List.getElem?_eq_some_iff.1 hj).1
 rw [cell_of_row w q _ _ _ _ h.row]
 rcases j with _ | _ | _ | _ | _ | _ | _ | _ | _ | _ | _ | _ | _ | _ | _ | _ | _ | _ | _ | _ | _ | _ | _ | _ | _ | _ | _ | _ | _ | _ | _ | _ | _ | _ | _ | _ | _ | _ | _ | _ | _ | _ | _ | _ | _ | _ | _ | _ | j
 all_goals first | exact hj | omega
theorem jjy (w : World) (q o : Nat) (l : List Bk.Un) (hs : SlF Bk.unC w (some ⟨q, o, none⟩) 16 16 l) : Calls Tryz.prog 49 #[.slice (some ⟨q, o, none⟩) 16 16] w (fun e w' => ∃ g c, e = .returned (.slice (some ⟨g, 0, none⟩) 16 c) ∧ w'.ownsRow w.heap.size 37 3 (.slice (some ⟨g, 0, none⟩) 16 c) 16 (l.flatMap Bk.unC) ∧ Below w.heap.size w w') := by
 have hl := hs.len
 have hnil := fun W a n c => Lib.run_eql_slice_nil (P := Tryz.prog) W 62 37 a n c 0 0 Tryz.underlying62
 have O0 := zh (jfy (enc := Bk.unC) (k := 3) (e := 37) w)
 have hb1 : Below w.heap.size w (w.alloc (.cells #[] 37)) := (Below.refl _ _).alloc (Nat.le_refl _) _
 have S1 := zh (hs.on hb1)
 have B1 := zh hb1
 have HL := zh hl
 clear hs hl hb1
 go_enter Tryz.func49, Tryz.ntmps49
 go_upto_region 3 with fail
 go_wp2_with (at_builtin; refine ja4 jma unC_one Tryz.underlying62 jml rfl (by omega) rfl (.tmp 5) (.tmp 6) rfl w.heap.size _ [] l rfl O0.out rfl S1.out (by have := HL.out; simp; unfold maxLen; omega) (by have := HL.out; simp; omega) (by have := B1.out.size; omega) ?_; intro v1 w1 ho1 hb1 _ _; have O1 := zh ho1; have B2 := zh hb1; clear ho1 hb1)
 go_ret
 have ho := O1.out
 rw [List.nil_append] at ho
 have h16 := ho
 unfold OwF at h16
 rw [← HL.out] at h16
 obtain ⟨g, c, rfl⟩ := Joins.ownsRow_form h16 (by omega)
 exact ⟨g, c, rfl, h16, B1.out.trans B2.out⟩
theorem jjz (q : Nat) (s : Bk.St) (ru : Nat → Bk.Un) (rv : Int) (lo ko : Option Nat) (H : Value) (K : Kv.St) (w : World) (h : BdIs w q s ru rv lo ko H K) : Calls Tryz.prog 28 #[.pointer (some ⟨q, 0, none⟩)] w (jd2 Bk.unC (Bk.units s) w) := by
 have A0 := zh h.at_
 have HR := zh (jmm h.raw)
 have CC := zh (jjy w q 26 _ (jmn h.at_))
 have lq := h.lt.1
 clear h
 go_enter Tryz.func28, Tryz.ntmps28
 go_upto_region 3 with fail
 go_wp2_with (go_at_call 49; (with_reducible refine CC.out.mono ?_); rintro e w1 hp; obtain ⟨g, c9, rfl, ho, hb⟩ := hp; have O1 := zh ho; have B1 := zh hb; clear ho hb)
 go_loopw [15] (fun i wr => ∃ j : Nat, j ≤ 16 ∧ i = .int .i64 j ∧ wr.ownsRow w.heap.size 37 3 (.slice (some ⟨g, 0, none⟩) 16 c9) 16 ((Bd.mix ru j).flatMap Bk.unC) ∧ Below w.heap.size w wr) (fun i wr => 16 - (intOf i).toNat)
 case atStart => exact ⟨0, Nat.zero_le _, rfl, O1.out, B1.out⟩
 case round =>
  obtain ⟨j, hj, rfl, ho, hbr⟩ := hrel
  have O := zh ho
  have B := zh hbr
  clear ho hbr
  have i1 : (0 : Int) ≤ (j : Int) := by omega
  by_cases hlt : j < 16
  ·have q1 : ((j : Nat) : Int) < 16 := by omega
   have lg := (O.out.lt g rfl).2
   have lb := (O.out.lt g rfl).1
   have hm := mix_get ru hlt
   have u0 := (O.out.cellAt (j * 3) (by omega)).trans hm.1
   have u1 := (O.out.cellAt (j * 3 + 1) (by omega)).trans hm.2.1
   have u2 := (O.out.cellAt (j * 3 + 2) (by omega)).trans hm.2.2
   have MS := zh (mix_set ru hlt)
   clear hm
   generalize (ru j).v = uv at *
   generalize (ru j).q = uq at *
   generalize (ru j).d = ud at *
   go_upto_region 7 with fail
   have hb2 : Below wr.heap.size wr (wr.alloc (.cells #[.int .i64 uv, .int .i64 uq, .bool ud] 37)) := (Below.refl _ _).alloc (Nat.le_refl _) _
   have hn : (wr.alloc (.cells #[.int .i64 uv, .int .i64 uq, .bool ud] 37)).heap[wr.heap.size]? = some (.cells #[.int .i64 uv, .int .i64 uq, .bool ud] 37 (0, 0)) := heap_alloc_new wr _
   have B2 := zh (B.out.trans (hb2.mono B.out.size))
   have O2 := zh (World.ownsRow.alloc O.out (.cells #[.int .i64 uv, .int .i64 uq, .bool ud] 37))
   have e1 : (wr.alloc (.cells #[.int .i64 uv, .int .i64 uq, .bool ud] 37)).cell? ⟨wr.heap.size, 1, none⟩ = some (.int .i64 uq) := by rw [cell_of_row _ wr.heap.size 1 _ _ _ hn]; rfl
   have e2 : (wr.alloc (.cells #[.int .i64 uv, .int .i64 uq, .bool ud] 37)).cell? ⟨wr.heap.size, 2, none⟩ = some (.bool ud) := by rw [cell_of_row _ wr.heap.size 2 _ _ _ hn]; rfl
   have ec := (World.ownsRow.alloc O.out (.cells #[.int .i64 uv, .int .i64 uq, .bool ud] 37)).cellAt (j * 3 + 2) (by omega)
   have fc := (World.ownsRow.alloc O.out (.cells #[.int .i64 uv, .int .i64 uq, .bool ud] 37)).frozenAt (j * 3 + 2)
   have ec2 := ec.trans ((O.out.cellAt (j * 3 + 2) (by omega)).symm.trans u2)
   clear hb2 hn u0 u1 u2 ec
   generalize wr.alloc (.cells #[.int .i64 uv, .int .i64 uq, .bool ud] 37) = W2 at *
   obtain ⟨g2, hg2⟩ : ∃ g2, g2 = wr.heap.size := ⟨_, rfl⟩
   rw [← hg2] at e1 e2 ⊢
   clear hg2
   have FIN : Hid (∀ b, b = (ud || decide (uq = 0)) → (W2.setCell ⟨g, j * 3 + 2, none⟩ (.bool b)).ownsRow w.heap.size 37 3 (.slice (some ⟨g, 0, none⟩) 16 c9) 16 ((Bd.mix ru (j + 1)).flatMap Bk.unC) ∧ Below w.heap.size w (W2.setCell ⟨g, j * 3 + 2, none⟩ (.bool b))) := by
    intro b hb
    have h1 := (O2.out.stored (j * 3 + 2) (.bool b)).1
    rw [hb, MS.out] at h1
    exact ⟨hb ▸ h1, B2.out.setCell (p := ⟨g, j * 3 + 2, none⟩) lb _⟩
   clear MS
   cases ud with
   | true =>
    go_wp2_with fail
    refine ⟨⟨j + 1, by omega, by go_num, (FIN.out true (by simp)).1, (FIN.out true (by simp)).2⟩, by simp [intOf]; omega⟩
   | false =>
    by_cases h0 : uq = 0
    ·have q2 : (uq == 0) = true := by simpa using h0
     go_wp2_with fail
     refine ⟨⟨j + 1, by omega, by go_num, (FIN.out true (by simp [h0])).1, (FIN.out true (by simp [h0])).2⟩, by simp [intOf]; omega⟩
    ·have q2 : (uq == 0) = false := by simpa using h0
     go_wp2_with fail
     refine ⟨⟨j + 1, by omega, by go_num, (FIN.out false (by simp [h0])).1, (FIN.out false (by simp [h0])).2⟩, by simp [intOf]; omega⟩
  ·have q1 : (16 : Int) ≤ (j : Nat) := by omega
   obtain rfl : j = 16 := by omega
   have O2 := O.out
   rw [HR.out] at O2
   have O3 : OwF Bk.unC 3 37 wr w.heap.size (.slice (some ⟨g, 0, none⟩) 16 c9) (Bk.units s) := O2
   have O4 := zh O3
   clear O2 O3 
   go_wp2_with fail
   go_ret
   refine ⟨_, c9, rfl, O4.out.sl, B.out, fun b o e => ?_⟩
   injection e with e
   injection e with e
   subst e
   exact (O4.out.lt g rfl).1
abbrev BP (w0 : World) (F : Nat → Prop) (q : Nat) (s : Bk.St) (W : World) : Prop := BAt BdP w0 F q s W
section
variable {w0 W W' : World} {F G : Nat → Prop} {q : Nat} {s : Bk.St}
theorem jbj (h : BP w0 F q s W) (hb : Below W.heap.size W W') : BP w0 F q s W' := by
 obtain ⟨X, h1, h2, h3, h4⟩ := h
 exact ⟨X, jbx h1 hb, h2, fun b hb2 => ⟨(h3 b hb2).1, Nat.lt_of_lt_of_le (h3 b hb2).2 hb.size⟩, h4.trans (hb.mono h4.size)⟩
theorem joa (h : BP w0 F q s W) : Bk.Ok s := by
 obtain ⟨X, h1, h2, h3, h4⟩ := h
 exact bdp_ok h1
theorem jat (h : BP w0 F q s W) : Below w0.heap.size w0 W := by
 obtain ⟨X, h1, h2, h3, h4⟩ := h
 exact h4
theorem jdb (h : BP w0 F q s W) (hG : ∀ b, G b → F b) : BP w0 G q s W := by
 obtain ⟨X, h1, h2, h3, h4⟩ := h
 exact ⟨X, h1, h2, fun b hb => h3 b (hG b hb), h4⟩
theorem bp_more (h : BP w0 F q s W) (hb : Below W.heap.size W W') : BP w0 (fun b => F b ∨ (W.heap.size ≤ b ∧ b < W'.heap.size)) q s W' := by
 obtain ⟨X, h1, h2, h3, h4⟩ := h
 refine ⟨X, jbx h1 hb, h2, fun b hb2 => ?_, h4.trans (hb.mono h4.size)⟩
 rcases hb2 with hf | ⟨hge, hlt⟩
 ·exact ⟨(h3 b hf).1, Nat.lt_of_lt_of_le (h3 b hf).2 hb.size⟩
 ·exact ⟨fun hx => by have := jdn h1 b hx; omega, hlt⟩
theorem jf2 (h : BP w0 F q s W) (ht : BT W) {r : Rc.R} (hr : Rc.In r) : Calls Tryz.prog 22 #[.pointer (some ⟨q, 0, none⟩), .agg (Rc.cells r)] W (BRes BdP w0 F q (Bk.app s r) (.int .i64 (Bk.chk s r)) W) := by
 obtain ⟨X, h1, h2, h3, h4⟩ := h
 refine (jex h1 ht r hr).mono fun _ w' hp => ?_
 obtain ⟨X', e1, e2, e3, e4⟩ := hp
 refine ⟨e1, ⟨X', e2, fun i hi => ?_, fun b hb => ⟨fun hx => ?_, Nat.lt_of_lt_of_le (h3 b hb).2 e4.size⟩, h4.trans (e4.below h4.size h2)⟩, fun b hb => e4.block b (h3 b hb).2 (h3 b hb).1⟩
 ·rcases e3 i hi with h | h
  ·exact h2 i h
  ·exact Nat.le_trans h4.size h
 ·rcases e3 b hx with h | h
  ·exact (h3 b hb).1 h
  ·have := (h3 b hb).2; omega
theorem bp_new (w : World) (m : Int) : Calls Tryz.prog 20 #[.int .i64 m] w (fun e w' => ∃ q, e = .returned (.pointer (some ⟨q, 0, none⟩)) ∧ BP w (fun _ => False) q (Bk.new m) w') := by
 refine (DA.new w m).mono fun e w' hp => ?_
 obtain ⟨q, rfl, ⟨X, h1, h2⟩, h3⟩ := hp
 exact ⟨q, rfl, X, h1, h2, fun b hb => hb.elim, h3⟩
theorem jmo (h : BP w0 F q s W) : Calls Tryz.prog 21 #[.pointer (some ⟨q, 0, none⟩)] W (BRet (.agg (Bk.viewC s)) W) := by
 obtain ⟨X, ⟨ru, rv, lo, ko, H, K, h1, _⟩, _⟩ := h
 exact jmb q s ru rv lo ko H K W h1
theorem jiq (h : BP w0 F q s W) : Calls Tryz.prog 28 #[.pointer (some ⟨q, 0, none⟩)] W (jd2 Bk.unC (Bk.units s) W) := by
 obtain ⟨X, ⟨ru, rv, lo, ko, H, K, h1, _⟩, _⟩ := h
 exact jjz q s ru rv lo ko H K W h1
theorem jmp (h : BP w0 F q s W) : Calls Tryz.prog 26 #[.pointer (some ⟨q, 0, none⟩)] W (jd2 Bk.rcC s.h W) := by
 obtain ⟨X, ⟨ru, rv, lo, ko, H, K, h1, _⟩, _⟩ := h
 exact jmc q s ru rv lo ko H K W h1
theorem jf3 (h : BP w0 F q s W) : Calls Tryz.prog 24 #[.pointer (some ⟨q, 0, none⟩)] W (jd2 (fun n : Int => [.int .i64 n]) (s.vs.map (·.n)) W) := by
 obtain ⟨X, ⟨ru, rv, lo, ko, H, K, h1, _⟩, _⟩ := h
 exact jmj q s ru rv lo ko H K W h1
theorem jmq {m : Int} {l : List Rc.R} {f : Value → Value} {w w' : World} {e : Ending} (h : jnp BdP (Bk.all m l) f w e w') : ∃ q, e = .returned (f (.pointer (some ⟨q, 0, none⟩))) ∧ BP w (fun _ => False) q (Bk.all m l) w' := by
 obtain ⟨q, X, rfl, h1, h2, h3⟩ := h
 exact ⟨q, rfl, X, h1, h2, fun b hb => hb.elim, h3⟩
end
theorem jbi {P : Program} {ops : Array Oper} {rest : List Oper} {o : Oper} {a : Act} {w : World} {Q : Exit → Act → World → Prop} (hg : o.guard = none) (t : TypeId) (parts : Array (Nat × Operand)) (ho : o.op = .build t parts) (cells : Array Value)
  (hf : P.built t (parts.map fun (i, x) => (i, a.eval x)).toList = some cells) (h : wpList P ops Q rest (a.put o.dst (.agg cells)) w) : wpList P ops Q (o :: rest) a w :=
 wpList_plain hg fun _ hK => by
  unfold Oper.wp execOp
  simp only [ho, Sem.run_bind, run_build w t _ cells hf, Result.andThen_ok]
  exact hK _ _ h
theorem vf3 (s : Bk.St) (w : World) : (Instr.field 48 (.agg (Bk.viewC s)) 3).run Tryz.prog w = .ok (.int .i64 s.stable) w := by
 simp [Instr.field, run_underlying Tryz.underlying48, asAgg, part, isAgg, run_underlying Tryz.underlying3, go_sem, Bk.viewC]
theorem vf5 (s : Bk.St) (w : World) : (Instr.field 48 (.agg (Bk.viewC s)) 5).run Tryz.prog w = .ok (.int .i64 s.ph) w := by
 simp [Instr.field, run_underlying Tryz.underlying48, asAgg, part, isAgg, run_underlying Tryz.underlying3, go_sem, Bk.viewC]
end Go.Proofs.YtnacjhnfkkddcaaGreatDoor
namespace Go.Proofs.YtnacjhnfkkddcaaGreatDoor
theorem jey {w0 W : World} {F : Nat → Prop} {q : Nat} {s : Bk.St} (h : BP w0 F q s W) (ht : BT W) (n : Int) (hn : jk2 n) : Calls Tryz.prog 23 #[.pointer (some ⟨q, 0, none⟩), .int .i64 n] W (BRet (.tuple #[.string (Bk.text s.vs n), .bool (Bk.has s.vs n)]) W) := by
 obtain ⟨X, ⟨ru, rv, lo, ko, H, K, h1, _⟩, _⟩ := h
 exact jev q s ru rv lo ko H K W h1 ht n hn
end Go.Proofs.YtnacjhnfkkddcaaGreatDoor
