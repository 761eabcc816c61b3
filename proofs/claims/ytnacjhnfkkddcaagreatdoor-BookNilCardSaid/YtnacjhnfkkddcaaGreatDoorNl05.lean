import Derived.Test.YtnacjhnfkkddcaaGreatDoorNl04
import Derived.Laws.Cover3
import Derived.Test.YtnacjhnfkkddcaaGreatDoorNl03
import Derived.Test.YtnacjhnfkkddcaaGreatDoorNl02
import Derived.Sort.OwnSorted
import Derived.Sort.KeysCollected
import Derived.Shelf.Small.Bits
import Derived.Shelf.Strconv.Atoi
import Derived.Shelf.Strconv.Itoa0
import Derived.Shelf.Strconv.Itoa1
import Derived.Shelf.LaysM
import Derived.Shelf.Strconv.Itoa2
import Derived.Shelf.Strconv.Itoa3
import Derived.Shelf.Sort.Plain
import Derived.Shelf.Slices.Equal
import Derived.Shelf.Slices.In.SortNone
import Derived.Shelf.Slices.Empties2
import Derived.Test.YtnacjhnfkkddcaaGreatDoorProg
import Derived.Laws.IdiomRangeMap
import Derived.Shelf.Abstract
namespace Go.Proofs.YtnacjhnfkkddcaaGreatDoor
open Go.RowKit Go.Deep Go.Maps
set_option maxRecDepth 100000
theorem lsmap_nil (t k e : TypeId) (m : Option Nat) (w : World) (h : Tryz.prog.underlying t = some (.map k e)) : (binOp .eql t (.map m) (.map none)).run Tryz.prog w = .ok (.bool m.isNone) w := by
  simp only [binOp]
  simp [run_equal_map_nil w t k e m h]
def LsPut (W : World) (q : Nat) (cs : Array Value) (ty : TypeId) (mo : Option Nat) (s' : Ls.St) (e : Ending) (w' : World) : Prop :=
  ∃ mo', e = .returned (.tuple #[]) ∧ LsIs w' q (cs.setIfInBounds 1 (.map mo')) ty mo' s' ∧ Kept (fun i => i = q ∨ mo = some i) W w' ∧ ∀ m, mo' = some m → mo = some m ∨ W.heap.size ≤ m
set_option maxHeartbeats 1600000 in
theorem lsput_any (W : World) (q : Nat) (cs : Array Value) (ty : TypeId) (mo : Option Nat) (s : Ls.St) (h : LsIs W q cs ty mo s) (k : ByteArray) (hk : k.size ≤ maxLen) (a b c : Int) (d : Bool) (hg2 : Ls.Good ⟨s.margin, Ls.put s.l ⟨k, a, b, c, d⟩⟩) (hf2 : Ls.Few ⟨s.margin, Ls.put s.l ⟨k, a, b, c, d⟩⟩ 2199023255553) :
    Calls Tryz.prog 155 #[.pointer (some ⟨q, 0, none⟩), .string k, leV a b c] W (LsPut W q cs ty mo ⟨s.margin, Ls.put s.l ⟨k, a, b, c, d⟩⟩) := by
  have GD := Lib.hid hg2
  have FW := Lib.hid hf2
  have LN : Hid (s.l.length < maxLen) := by have := h.few.2; show _ < _; unfold maxLen; omega
  have heq := fun m w => lsmap_nil _ _ _ m w Tryz.underlying76
  obtain ⟨W1, hW1⟩ : ∃ W1, W1 = W.alloc (.cells #[.int .i64 a, .int .i64 b, .int .i64 c] 138) := ⟨_, rfl⟩
  have hb1 := (Below.refl W.heap.size W).alloc (Nat.le_refl _) (.cells #[.int .i64 a, .int .i64 b, .int .i64 c] 138)
  have hr1 := heap_alloc_new W (.cells #[.int .i64 a, .int .i64 b, .int .i64 c] 138)
  rw [← hW1] at hb1 hr1
  obtain ⟨g, hg⟩ : ∃ g, g = W.heap.size := ⟨_, rfl⟩
  rw [← hg] at hr1
  have R1 := Lib.hid hr1
  have B1 := Lib.hid hb1
  have H1 := Lib.hid (h.on hb1)
  have HG := Lib.hid hg
  have HW := Lib.hid hW1
  have HL := Lib.hid h.cells.2.2.2
  have HKS := Lib.hid hk
  have HML : Hid (∀ m, mo = some m → m < W.heap.size) := fun m e => by subst e; exact MapW.Opt.lt h.map
  clear h hk hg2 hf2 hW1 hb1 hr1 hg
  cases mo with
  | some m =>
    have D1 := Lib.hid (H1.out.on (Below.refl W1.heap.size W1).drew)
    obtain ⟨wd, hrun, hmd, htd⟩ := MapW.At.put (M := LM) D1.out.map LN.out k (a, b, c) HKS.out
    have MD := Lib.hid hmd
    have TD := Lib.hid htd
    have RW : Hid (wd.heap[q]? = some (.cells cs ty (0, 0))) := (htd.grown.block q (by have := HL.out; have := B1.out.size; show q < W1.heap.size; omega) (fun e => H1.out.ne (by injection e))).trans D1.out.row
    have K2 : Hid (Kept (fun i => i = q ∨ some m = some i) W wd) := ((Kept.of_below (F := fun i => i = q ∨ some m = some i) B1.out).trans (Kept.of_below (F := fun _ => False) (Below.refl W1.heap.size W1).drew) fun _ _ hf => hf.elim).trans (G := fun i => i = m) (Kept.of_grown htd.grown (fun k hk => by injection hk with hk; exact hk.symm)) fun i _ hi => .inr (by rw [hi])
    have hrun2 : (Instr.mapUpdate 76 (.map (some m)) (.string k) (.agg #[.int .i64 a, .int .i64 b, .int .i64 c])).run Tryz.prog W1.drew = .ok () wd := hrun
    clear hrun hmd htd
    obtain ⟨c0, c1, f1, hq⟩ := H1.out.cells
    have d0 := LsCells.c0 R1.out
    have d1 := LsCells.c1 R1.out
    have d2 := LsCells.c2 R1.out
    unfold leV
    go_enter Tryz.func155, Tryz.ntmps155
    go_upto_region 1 with fail
    rw [← HW.out, ← HG.out]
    go_upto_region 3 with fail
    go_region
    go_wp2_with fail
    go_end0
    refine ⟨some m, rfl, ?_, K2.out, fun x hx => .inl hx⟩
    rw [set_same H1.out.k1]
    refine ⟨RW.out, H1.out.k0, H1.out.k1, ?_, GD.out, FW.out⟩
    have := MD.out
    rw [← show Ls.zOf (Ls.put s.l ⟨k, a, b, c, d⟩) = _ from Ls.zOf_put s.l ⟨k, a, b, c, d⟩, Ls.zOf_some, ← Ls.put_length H1.out.good.rise ⟨k, a, b, c, d⟩] at this
    exact this
  | none =>
    have hmm := @run_makeMap Tryz.prog
    have BM := Lib.hid ((Below.refl W1.heap.size W1).alloc (Nat.le_refl _) (.map #[] 0))
    have S0 := Lib.hid (MapW.At.made (M := LM) W1)
    have EL : Hid ((∀ k, Ls.zOf s.l k = none) ∧ s.l.length = 0) := H1.out.map
    have RW0 := Lib.hid (H1.out.on BM.out).row
    have GD0 := Lib.hid H1.out.good
    have HK0 := Lib.hid H1.out.k0
    have HK1 := Lib.hid H1.out.k1
    have f1 : W1.frozen? ⟨q, 1, none⟩ = false := H1.out.cells.2.2.1
    obtain ⟨c0, c1, _, hq⟩ := H1.out.cells
    have EW : Hid ((W1.alloc (.map #[] 0)).setCell ⟨q, 1, none⟩ (.map (some W1.heap.size)) = (W1.setCell ⟨q, 1, none⟩ (.map (some W1.heap.size))).alloc (.map #[] 0)) := World.setCell_alloc_past _ _ _ _ hq
    have RQ : Hid (((W1.alloc (.map #[] 0)).setCell ⟨q, 1, none⟩ (.map (some W1.heap.size))).heap[q]? = some (.cells (cs.setIfInBounds 1 (.map (some W1.heap.size))) ty (0, 0))) := heap_setCell_same _ _ _ _ _ _ RW0.out
    have MP : Hid (LM.At ((W1.alloc (.map #[] 0)).setCell ⟨q, 1, none⟩ (.map (some W1.heap.size))) W1.heap.size (Ls.zOf s.l) s.l.length) := by
      have h0 := S0.out.keep (heap_setCell_other (W1.alloc (.map #[] 0)) ⟨q, 1, none⟩ W1.heap.size (.map (some W1.heap.size)) (by simp; omega))
      rw [show (fun _ : ByteArray => (none : Option (Int × Int × Int))) = Ls.zOf s.l from (funext EL.out.1).symm] at h0
      show LM.At _ _ (Ls.zOf s.l) s.l.length
      rw [EL.out.2]
      exact h0
    have KP : Hid (Kept (fun i => i = q ∨ none = some i) W ((W1.alloc (.map #[] 0)).setCell ⟨q, 1, none⟩ (.map (some W1.heap.size)))) := (Kept.of_below (F := fun i => i = q ∨ none = some i) (B1.out.trans (BM.out.mono B1.out.size))).trans (G := fun i => i = q) (Kept.of_grown (row := some q) (grown_set _ _ _ _) (fun k hk => by injection hk with hk; exact hk.symm)) fun i _ hi => .inl hi
    have RG : Hid (((W1.alloc (.map #[] 0)).setCell ⟨q, 1, none⟩ (.map (some W1.heap.size))).heap[g]? = some (.cells #[.int .i64 a, .int .i64 b, .int .i64 c] 138 (0, 0))) := (heap_setCell_other (W1.alloc (.map #[] 0)) ⟨q, 1, none⟩ g (.map (some W1.heap.size)) (by have := HL.out; have := HG.out; simp; omega)).trans (blk_on R1.out BM.out)
    rw [EW.out] at RQ MP KP RG
    unfold leV
    go_enter Tryz.func155, Tryz.ntmps155
    go_upto_region 1 with fail
    rw [← HW.out, ← HG.out]
    go_upto_region 3 with fail
    obtain ⟨m, hm⟩ : ∃ m, m = W1.heap.size := ⟨_, rfl⟩
    have NW : Hid (W.heap.size ≤ m) := by have := B1.out.size; show _ ≤ _; omega
    rw [← hm] at RQ MP KP RG ⊢
    clear hm hmm c0 c1 f1 hq BM S0 RW0 EW H1 R1 HW
    generalize (W1.setCell ⟨q, 1, none⟩ (.map (some m))).alloc (.map #[] 0) = W5 at *
    have hqm : q ≠ m := fun e => by
      obtain ⟨es, clock, hb⟩ := MapW.At.block (M := LM) MP.out
      have := RQ.out
      rw [e, hb] at this
      injection this with this
      cases this
    have HQM := Lib.hid hqm
    have c1 : W5.cell? ⟨q, 1, none⟩ = some (.map (some m)) := by rw [cell_of_row W5 q 1 _ _ _ RQ.out]; exact set_k1 HK1.out
    have d0 := LsCells.c0 RG.out
    have d1 := LsCells.c1 RG.out
    have d2 := LsCells.c2 RG.out
    have D1 := Lib.hid (MapW.At.on (M := LM) MP.out (Below.refl W5.heap.size W5).drew)
    obtain ⟨wd, hrun, hmd, htd⟩ := MapW.At.put (M := LM) D1.out LN.out k (a, b, c) HKS.out
    have MD := Lib.hid hmd
    have RW : Hid (wd.heap[q]? = some (.cells (cs.setIfInBounds 1 (.map (some m))) ty (0, 0))) := (htd.grown.block q (Array.getElem?_eq_some_iff.1 RQ.out).1 (fun e => HQM.out (by injection e))).trans RQ.out
    have K2 : Hid (Kept (fun i => i = q ∨ none = some i) W wd) := (KP.out.trans (Kept.of_below (F := fun _ => False) (Below.refl W5.heap.size W5).drew) fun _ _ hf => hf.elim).trans (G := fun i => i = m) (Kept.of_grown htd.grown (fun k hk => by injection hk with hk; exact hk.symm)) fun i hi e => by have := NW.out; omega
    have hrun2 : (Instr.mapUpdate 76 (.map (some m)) (.string k) (.agg #[.int .i64 a, .int .i64 b, .int .i64 c])).run Tryz.prog W5.drew = .ok () wd := hrun
    clear hrun hmd htd hqm
    go_region
    go_wp2_with fail
    go_end0
    refine ⟨some m, rfl, ⟨RW.out, set_k0 HK0.out, set_k1 HK1.out, ?_, GD.out, FW.out⟩, K2.out, fun x hx => .inr (by injection hx with hx; have := NW.out; omega)⟩
    have := MD.out
    rw [← show Ls.zOf (Ls.put s.l ⟨k, a, b, c, d⟩) = _ from Ls.zOf_put s.l ⟨k, a, b, c, d⟩, Ls.zOf_some, ← Ls.put_length GD0.out.rise ⟨k, a, b, c, d⟩] at this
    exact this
end Go.Proofs.YtnacjhnfkkddcaaGreatDoor
namespace Go.Proofs
open Go.Shelf
def Tryz.laysM171_ren : Go.Shelf.Ren := ⟨fun | 171 => 76 | 243 => 113 | 246 => 162 | 283 => 184 | 284 => 185 | 285 => 186 | 286 => 187 | 129 => 130 | 317 => 205 | 318 => 206 | 319 => 207 | 320 => 208 | 337 => 216 | 338 => 217 | n => n, fun | 3 => 3 | 9 => 9 | 2 => 2 | 4 => 4 | 171 => 216 | 0 => 0 | 53 => 178 | 37 => 162 | 5 => 5 | 173 => 218 | 212 => 245 | 51 => 176 | 20 => 20 | 213 => 246 | 46 => 108 | 232 => 254 | 233 => 255 | n => n, fun | 17 => 4 | 18 => 5 | 19 => 6 | n => n⟩
theorem Tryz.laysM171 : Go.Proofs.LaysM.n171 Tryz.prog Tryz.laysM171_ren := {
  mixed := by kernel_rfl
  f129 := Tryz.func130.trans (congrArg some (by kernel_rfl))
  f171 := Tryz.func76.trans (congrArg some (by kernel_rfl))
  f243 := Tryz.func113.trans (congrArg some (by kernel_rfl))
  f246 := Tryz.func162.trans (congrArg some (by kernel_rfl))
  f283 := Tryz.func184.trans (congrArg some (by kernel_rfl))
  f284 := Tryz.func185.trans (congrArg some (by kernel_rfl))
  f285 := Tryz.func186.trans (congrArg some (by kernel_rfl))
  f286 := Tryz.func187.trans (congrArg some (by kernel_rfl))
  f317 := Tryz.func205.trans (congrArg some (by kernel_rfl))
  f318 := Tryz.func206.trans (congrArg some (by kernel_rfl))
  f319 := Tryz.func207.trans (congrArg some (by kernel_rfl))
  f320 := Tryz.func208.trans (congrArg some (by kernel_rfl))
  f337 := Tryz.func216.trans (congrArg some (by kernel_rfl))
  f338 := Tryz.func217.trans (congrArg some (by kernel_rfl))
  t0 := Tryz.underlying0
  a0 := Tryz.isAgg0
  z0 := Tryz.sizeOf0
  v0 := Tryz.zeroValue0
  t2 := Tryz.underlying2
  a2 := Tryz.isAgg2
  z2 := Tryz.sizeOf2
  v2 := Tryz.zeroValue2
  t3 := Tryz.underlying3
  a3 := Tryz.isAgg3
  z3 := Tryz.sizeOf3
  v3 := Tryz.zeroValue3
  t4 := Tryz.underlying4
  a4 := Tryz.isAgg4
  z4 := Tryz.sizeOf4
  v4 := Tryz.zeroValue4
  t5 := Tryz.underlying5
  a5 := Tryz.isAgg5
  z5 := Tryz.sizeOf5
  v5 := Tryz.zeroValue5
  t9 := Tryz.underlying9
  a9 := Tryz.isAgg9
  z9 := Tryz.sizeOf9
  v9 := Tryz.zeroValue9
  t20 := Tryz.underlying20
  a20 := Tryz.isAgg20
  z20 := Tryz.sizeOf20
  v20 := Tryz.zeroValue20
  t37 := Tryz.underlying162
  a37 := Tryz.isAgg162
  z37 := Tryz.sizeOf162
  v37 := Tryz.zeroValue162
  t46 := Tryz.underlying108
  a46 := Tryz.isAgg108
  z46 := Tryz.sizeOf108
  v46 := Tryz.zeroValue108
  t51 := Tryz.underlying176
  a51 := Tryz.isAgg176
  z51 := Tryz.sizeOf176
  v51 := Tryz.zeroValue176
  t53 := Tryz.underlying178
  a53 := Tryz.isAgg178
  z53 := Tryz.sizeOf178
  v53 := Tryz.zeroValue178
  t171 := Tryz.underlying216
  a171 := Tryz.isAgg216
  z171 := Tryz.sizeOf216
  v171 := Tryz.zeroValue216
  t173 := Tryz.underlying218
  a173 := Tryz.isAgg218
  z173 := Tryz.sizeOf218
  v173 := Tryz.zeroValue218
  t212 := Tryz.underlying245
  a212 := Tryz.isAgg245
  z212 := Tryz.sizeOf245
  v212 := Tryz.zeroValue245
  t213 := Tryz.underlying246
  a213 := Tryz.isAgg246
  z213 := Tryz.sizeOf246
  t232 := Tryz.underlying254
  a232 := Tryz.isAgg254
  z232 := Tryz.sizeOf254
  v232 := Tryz.zeroValue254
  t233 := Tryz.underlying255
  a233 := Tryz.isAgg255
  z233 := Tryz.sizeOf255
  v233 := Tryz.zeroValue255
  g17 := by kernel_rfl
  g18 := by kernel_rfl
  g19 := by kernel_rfl
  i0 := by kernel_rfl
  i2 := by kernel_rfl
  i3 := by kernel_rfl
  i4 := by kernel_rfl
  i5 := by kernel_rfl
  i9 := by kernel_rfl
  i20 := by kernel_rfl
  i37 := by kernel_rfl
  i46 := by kernel_rfl
  i51 := by kernel_rfl
  i53 := by kernel_rfl
  i171 := by kernel_rfl
  i173 := by kernel_rfl
  i212 := by kernel_rfl
  i232 := by kernel_rfl
  i233 := by kernel_rfl
  m17 := by kernel_rfl
  m18 := by kernel_rfl
  m19 := by kernel_rfl }
open Go.RowKit Go.Sort Go.Lib in
theorem Tryz.strconv_Itoa (n : Int) (h0 : -9223372036854775808 ≤ n) (h1 : n ≤ 9223372036854775807) (w : World) (htab : Lib.TabIs Tryz.prog w "internal/strconv.uint64pow10" .u64 Lib.pow10Tab) :
    Calls Tryz.prog 76 #[.int .i64 n] w fun e w' => e = .returned (.string ⟨(Lib.itoa n).toArray⟩) ∧ ∃ k os, w' = grow (w.drewN k) os := Any.strconv_Itoa Tryz.laysM171 n h0 h1 w htab
end Go.Proofs
namespace Go.Proofs.YtnacjhnfkkddcaaGreatDoor
open Go.RowKit Go.Deep Go.Maps
abbrev opV (o : Kv.Po) : Value := .agg #[.string o.key, .string o.val, .int .i64 o.rev, .bool o.drop]
namespace Kv
def badB (o : Po) : Bool := decide (o.key.size = 0) || (decide (64 < o.key.size) || decide (64 < o.val.size))
def oddB (s : St) (o : Po) : Bool := decide (0 ≤ o.rev) && !decide (o.rev = revOf s.l o.key)
def lackB (s : St) (o : Po) : Bool := o.drop && !(find s.l o.key).isSome
theorem badB_iff {o : Po} : badB o = true ↔ ¬ PoOk o := by
  unfold badB PoOk
  simp only [Bool.or_eq_true, decide_eq_true_eq]
  omega
theorem oddB_iff {s : St} {o : Po} : oddB s o = true ↔ Odd s o := by
  unfold oddB Odd
  simp
theorem lackB_iff {s : St} (hs : Good s) {o : Po} : lackB s o = true ↔ Lacks s o := by
  unfold lackB Lacks
  rw [rev_zero hs]
  cases find s.l o.key <;> simp
end Kv
def FnB (g : Nat) (pre : Array Value) (p : Kv.Po → Bool) (w0 : World) (l : List Kv.Po) : Prop :=
  ∀ W o, o ∈ l → Below w0.heap.size w0 W → Calls Tryz.prog g (pre.push (opV o)) W (fun e w' => e = .returned (.bool (p o)) ∧ Below W.heap.size W w')
theorem kvindex_any (g : Nat) (pre : Array Value) (p : Kv.Po → Bool) (eg : ∀ args w, (callFunc g args).run Tryz.prog w = .ok (.enter g args) w) (l : List Kv.Po) (n c : Nat) (A : Option Addr) (w0 w : World) (h : SlP w0 A n c l) (hb0 : Below w0.heap.size w0 w) (hp : FnB g pre p w l) :
    Calls Tryz.prog 203 #[.slice A n c, .func (.func g) pre #[]] w (fun e w' => ∃ i : Int, e = .returned (.int .i64 i) ∧ (0 ≤ i ↔ l.any p = true) ∧ Below w.heap.size w w') := by
  have hn := h.len
  have hmx := h.max
  have hcp := h.cap
  unfold maxLen at hmx
  have HA := Lib.hid h
  have HN := Lib.hid hn
  have B0 := Lib.hid hb0
  have HP := Lib.hid hp
  clear h hn hb0 hp
  go_enter Tryz.func203, Tryz.ntmps203
  go_wp2_with fail
  go_loopw [5, 8] (fun _ i wr => ∃ j : Nat, j ≤ n ∧ i = .int .i64 j ∧ (∀ o ∈ l.take j, p o = false) ∧ Below w.heap.size w wr) (fun _ i _ => n - (intOf i).toNat)
  case atStart => exact ⟨0, by omega, rfl, by simp, Below.refl _ _⟩
  case round =>
    obtain ⟨j, hj, rfl, hok, hbr⟩ := hrel
    have OK := Lib.hid hok
    have B := Lib.hid hbr
    have BB := Lib.hid (B0.out.trans (hbr.mono B0.out.size))
    clear hok hbr
    by_cases hlt : j < n
    · obtain ⟨b1, o1, rfl⟩ := HA.out.addr (by have := HN.out; omega)
      have EA : Hid (l[j]? = some (l[j]'(by have := HN.out; omega))) := List.getElem?_eq_getElem _
      generalize l[j]'(by have := HN.out; omega) = x at *
      obtain ⟨p0, p1, p2, p3⟩ := HA.out.po EA.out BB.out
      have HM : Hid (x ∈ l) := List.mem_of_getElem? EA.out
      have CC := Lib.hid (HP.out _ x HM.out B.out)
      cases hq : p x with
      | true =>
        rw [hq] at CC
        have HQ := Lib.hid hq
        clear hq
        go_wp2_with (go_at_fn g; (with_reducible refine CC.out.mono ?_); rintro e w1 ⟨rfl, hb1⟩; have B1 := Lib.hid (B.out.trans (hb1.mono B.out.size)); clear hb1)
        go_ret
        refine ⟨_, rfl, ?_, B1.out⟩
        rw [List.any_eq_true]
        exact ⟨fun _ => ⟨x, HM.out, HQ.out⟩, fun _ => by omega⟩
      | false =>
        rw [hq] at CC
        have HQ := Lib.hid hq
        clear hq
        go_wp2_with (go_at_fn g; (with_reducible refine CC.out.mono ?_); rintro e w1 ⟨rfl, hb1⟩; have B1 := Lib.hid (B.out.trans (hb1.mono B.out.size)); clear hb1)
        refine ⟨⟨j + 1, by omega, by go_num, fun o ho => ?_, B1.out⟩, by simp [intOf]; omega⟩
        rw [List.take_add_one, EA.out] at ho
        rcases List.mem_append.1 ho with ho | ho
        · exact OK.out o ho
        · simp at ho; subst ho; exact HQ.out
    · have E : Hid (l.take j = l) := List.take_of_length_le (by have := HN.out; omega)
      rw [E.out] at OK
      go_wp2_with fail
      go_ret
      refine ⟨_, rfl, ?_, B.out⟩
      rw [List.any_eq_true]
      refine ⟨fun h => by omega, fun ⟨o, ho, hp⟩ => ?_⟩
      rw [OK.out o ho] at hp
      cases hp
theorem kvcontains_any (g : Nat) (pre : Array Value) (p : Kv.Po → Bool) (eg : ∀ args w, (callFunc g args).run Tryz.prog w = .ok (.enter g args) w) (l : List Kv.Po) (n c : Nat) (A : Option Addr) (w0 w : World) (h : SlP w0 A n c l) (hb0 : Below w0.heap.size w0 w) (hp : FnB g pre p w l) :
    Calls Tryz.prog 178 #[.slice A n c, .func (.func g) pre #[]] w (fun e w' => e = .returned (.bool (l.any p)) ∧ Below w.heap.size w w') := by
  have C := Lib.hid (kvindex_any g pre p eg l n c A w0 w h hb0 hp)
  clear h hb0 hp eg
  generalize l.any p = b at C ⊢
  go_enter Tryz.func178, Tryz.ntmps178
  go_wp2_with (go_at_call 203; (with_reducible refine C.out.mono ?_); rintro e w1 ⟨i, rfl, hi, hb1⟩; have B1 := Lib.hid hb1; have HI := Lib.hid hi; clear hb1 hi)
  go_ret
  refine ⟨?_, B1.out⟩
  cases b with
  | true =>
    have : 0 ≤ i := HI.out.2 rfl
    simp [this]
  | false =>
    have : ¬ 0 ≤ i := fun h => by have := HI.out.1 h; cases this
    simp [this]
theorem kvbad_any (W : World) (o : Kv.Po) (h1 : o.key.size ≤ maxLen) (h2 : o.val.size ≤ maxLen) : Calls Tryz.prog 179 (#[].push (opV o)) W (fun e w' => e = .returned (.bool (Kv.badB o)) ∧ Below W.heap.size W w') := by
  have B1 := Lib.hid ((Below.refl W.heap.size W).alloc (Nat.le_refl _) (.cells #[.string o.key, .string o.val, .int .i64 o.rev, .bool o.drop] 158))
  unfold maxLen at h1 h2
  have hs1 : (o.key.size : Int) ≤ 9223372036854775807 := by omega
  have hs2 : (o.val.size : Int) ≤ 9223372036854775807 := by omega
  unfold opV Kv.badB
  obtain ⟨key, val, rev, drop⟩ := o
  simp only at *
  show Calls _ _ #[_] _ _
  by_cases g1 : key.size = 0
  · have hk : key = ⟨#[]⟩ := ByteArray.ext (Array.eq_empty_of_size_eq_zero g1)
    subst hk
    go_enter Tryz.func179, Tryz.ntmps179
    go_wp2_with fail
    go_ret
    exact ⟨rfl, B1.out⟩
  · have hk : key.toList.isEmpty = false := by
      rw [Bool.eq_false_iff]
      intro h
      refine g1 ?_
      have h1 : key.toList = ByteArray.toList ⟨#[]⟩ := (List.isEmpty_iff.1 h).trans (by rw [ByteArray.toList_eq])
      rw [Kv.teq.1 (beq_iff_eq.2 h1)]; rfl
    by_cases g2 : (64 : Int) < key.size
    · go_enter Tryz.func179, Tryz.ntmps179
      go_wp2_with fail
      go_ret
      refine ⟨?_, B1.out⟩
      show Ending.returned (.bool _) = Ending.returned (.bool _)
      refine congrArg (fun b => Ending.returned (.bool b)) ?_
      rw [Bool.eq_iff_iff]
      simp
      omega
    · go_enter Tryz.func179, Tryz.ntmps179
      go_wp2_with fail
      go_ret
      refine ⟨?_, B1.out⟩
      show Ending.returned (.bool _) = Ending.returned (.bool _)
      refine congrArg (fun b => Ending.returned (.bool b)) ?_
      rw [Bool.eq_iff_iff]
      simp
      omega
end Go.Proofs.YtnacjhnfkkddcaaGreatDoor
namespace Go.Proofs.YtnacjhnfkkddcaaGreatDoor
open Go.RowKit Go.Deep Go.Maps Go.WideMaps
def eU : Value → Option (DataW Unit × List MemPlace)
  | .agg ⟨[]⟩ => some (.agg [], [])
  | _ => none
theorem eU_mk : eU (.agg #[]) = some (.agg [], []) := rfl
def SetIs (w : World) (b : Nat) (ks : List ByteArray) : Prop :=
  ∃ D n, w.ownsMap Tryz.prog 9 eU b n D ∧ n ≤ ks.length ∧ Tidy D ∧ (∀ k : ByteArray, Maps.has D (kl k) = true ↔ k ∈ ks) ∧ Maps.size D ≤ ks.length ∧ (Maps.size D = ks.length ↔ ks.Pairwise fun a b => a ≠ b)
theorem SetIs.made (w : World) : SetIs (w.alloc (.map #[] 0)) w.heap.size [] :=
  ⟨_, 0, World.ownsMap_made w _ _ _, Nat.le_refl _, tidy_empty, fun k => by simp [Maps.has], Nat.le_refl _, by simp [Maps.size]⟩
theorem SetIs.lt {w : World} {b : Nat} {ks : List ByteArray} (h : SetIs w b ks) : b < w.heap.size := by
  obtain ⟨D, n, h1, _⟩ := h
  exact h1.lt
theorem SetIs.keep {w w' : World} {b : Nat} {ks : List ByteArray} (h : SetIs w b ks) (hb : w'.heap[b]? = w.heap[b]?) : SetIs w' b ks := by
  obtain ⟨D, n, ⟨es, clock, h1, h2⟩, hd⟩ := h
  exact ⟨D, n, ⟨es, clock, hb.trans h1, h2⟩, hd⟩
theorem SetIs.on {w w' : World} {b : Nat} {ks : List ByteArray} (h : SetIs w b ks) (hb : Below w.heap.size w w') : SetIs w' b ks := h.keep (hb.block b h.lt)
theorem SetIs.len {w : World} {b : Nat} {ks : List ByteArray} (h : SetIs w b ks) (ty : TypeId) : ∃ m : Nat, m ≤ ks.length ∧ (m = ks.length ↔ ks.Pairwise fun a b => a ≠ b) ∧ (Builtin.len_ #[242] ty #[.map (some b)]).run Tryz.prog w = .ok (.int .i64 (m : Nat)) w := by
  obtain ⟨D, n, h1, _, _, _, h3, h4⟩ := h
  exact ⟨_, h3, h4, h1.len Tryz.underlying242 ty⟩
theorem SetIs.put {w : World} {b : Nat} {ks : List ByteArray} (h : SetIs w b ks) (hl : ks.length ≤ 1000000) (k : ByteArray) (hs : k.size ≤ maxLen) :
    ∃ w', (Instr.mapUpdate 242 (.map (some b)) (.string k) (.agg #[])).run Tryz.prog w = .ok () w' ∧ SetIs w' b (ks ++ [k]) ∧ w.mapTurned w' b := by
  obtain ⟨D, n, h1, h2, ht, hh, h3, h4⟩ := h
  obtain ⟨w', hrun, h5, h6⟩ := h1.store (string_keyed Tryz.underlying9) Tryz.underlying242 (by unfold maxLen; omega) (keyOf_string_mk Tryz.underlying9 hs) eU_mk
  refine ⟨w', hrun, ⟨_, _, h5, by simp; omega, ht.put (kl_isKey k) _, fun k' => ?_, ?_, ?_⟩, h6⟩
  · by_cases hk : k' = k
    · subst hk
      have := has_put_same ht.isMap (kl_isKey k') (DataW.agg (H := Unit) [])
      exact ⟨fun _ => by simp, fun _ => this⟩
    · have := has_put_other (D := D) (k := kl k) (k' := kl k') (fun e => hk (kl_inj e)) (DataW.agg (H := Unit) [])
      rw [show Maps.has (D.put (Lit.string k.data.toList) (.agg [])) (kl k') = Maps.has D (kl k') from this, hh k']
      simp [hk]
  · have := size_put (k := kl k) ht (DataW.agg (H := Unit) [])
    show Maps.size (D.put (kl k) _) ≤ _
    rw [this, List.length_append, List.length_singleton]
    split <;> omega
  · have := size_put (k := kl k) ht (DataW.agg (H := Unit) [])
    show Maps.size (D.put (kl k) _) = _ ↔ _
    rw [this, List.length_append, List.length_singleton, List.pairwise_append]
    by_cases hk : k ∈ ks
    · rw [if_pos ((hh k).2 hk)]
      exact ⟨fun h => by omega, fun h => absurd rfl (h.2.2 k hk k (by simp))⟩
    · rw [if_neg (fun h => hk ((hh k).1 h))]
      refine ⟨fun h => ⟨h4.1 (by omega), List.pairwise_singleton _ _, fun a ha b hb e => ?_⟩, fun h => by rw [h4.2 h.1]⟩
      simp at hb; subst hb; subst e; exact hk ha
theorem run_makeMap_hint (w : World) (n : Nat) (t k e : TypeId) (ht : Tryz.prog.underlying t = some (.map k e)) : (Instr.makeMap t (some (.int .i64 n))).run Tryz.prog w = .ok (.map (some w.heap.size)) (w.alloc (.map #[] 0)) := by
  simp [Instr.makeMap, run_underlying ht, asInt, go_sem]
theorem kvtwice_any (l : List Kv.Po) (n c : Nat) (A : Option Addr) (w0 w : World) (h : SlP w0 A n c l) (hb0 : Below w0.heap.size w0 w) (hz : l.length ≤ 70) :
    Calls Tryz.prog 180 #[.slice A n c] w (KBool (¬ l.Pairwise fun a b => a.key ≠ b.key) w) := by
  have hn := h.len
  have hmx := h.max
  have hcp := h.cap
  unfold maxLen at hmx
  have HA := Lib.hid h
  have HN := Lib.hid hn
  have HZ := Lib.hid hz
  have B0 := Lib.hid hb0
  have hmm := run_makeMap_hint w n 242 9 243 Tryz.underlying242
  have S0 := Lib.hid (SetIs.made w)
  have BM := Lib.hid ((Below.refl w.heap.size w).alloc (Nat.le_refl _) (.map #[] 0))
  have LT : Hid (w.heap.size < (w.alloc (.map #[] 0)).heap.size) := S0.out.lt
  clear h hn hb0 hz
  go_enter Tryz.func180, Tryz.ntmps180
  go_wp2_with fail
  clear hmm
  obtain ⟨m, hm⟩ : ∃ m, m = w.heap.size := ⟨_, rfl⟩
  rw [← hm] at S0 LT ⊢
  have HM := Lib.hid hm
  clear hm
  generalize w.alloc (.map #[] 0) = w1 at *
  go_loopw [11] (fun i wr => ∃ j : Nat, j ≤ n ∧ i = .int .i64 j ∧ SetIs wr m ((l.take j).map (·.key)) ∧ Below w.heap.size w wr) (fun i _ => n - (intOf i).toNat)
  case atStart => exact ⟨0, by omega, rfl, S0.out, BM.out⟩
  case round =>
    obtain ⟨j, hj, rfl, hs, hbr⟩ := hrel
    have SE := Lib.hid hs
    have B := Lib.hid hbr
    have BB := Lib.hid (B0.out.trans (hbr.mono B0.out.size))
    clear hs hbr
    by_cases hlt : j < n
    · obtain ⟨b1, o1, rfl⟩ := HA.out.addr (by have := HN.out; omega)
      have EA : Hid (l[j]? = some (l[j]'(by have := HN.out; omega))) := List.getElem?_eq_getElem _
      generalize l[j]'(by have := HN.out; omega) = x at *
      obtain ⟨p0, p1, p2, p3⟩ := HA.out.po EA.out BB.out
      have KS := Lib.hid (HA.out.poOk (List.mem_of_getElem? EA.out)).1
      have ST : Hid ((l.take (j + 1)).map (·.key) = (l.take j).map (·.key) ++ [x.key]) := by
        show _ = _
        rw [List.take_add_one, EA.out]; simp
      have LL : Hid (((l.take j).map (·.key)).length ≤ 1000000) := by
        show _ ≤ _
        rw [List.length_map, List.length_take]; have := HZ.out; omega
      generalize (l.take j).map (·.key) = ks at *
      have BN := Lib.hid ((Below.refl wr.heap.size wr).alloc (Nat.le_refl _) (.cells #[.string x.key, .string x.val, .int .i64 x.rev, .bool x.drop] 158))
      have S1 := Lib.hid (SE.out.on BN.out)
      obtain ⟨wd, hrun, hs2, ht2⟩ := S1.out.put LL.out x.key KS.out
      have S2 := Lib.hid hs2
      have B2 := Lib.hid ((B.out.trans (BN.out.mono B.out.size)).grown ht2.grown (by have := B.out.size; have := BN.out.size; omega) (fun k hk => by injection hk with hk; have := HM.out; omega))
      clear hs2 ht2 BN S1
      go_wp2_with fail
      exact ⟨⟨j + 1, by omega, by go_num, by rw [ST.out]; exact S2.out, B2.out⟩, by simp [intOf]; omega⟩
    · have E : Hid (l.take j = l) := List.take_of_length_le (by have := HN.out; omega)
      rw [E.out] at SE
      obtain ⟨z, hz1, hz2, hz3⟩ := SE.out.len 3
      rw [List.length_map] at hz1 hz2
      have Z1 := Lib.hid hz1
      have Z2 := Lib.hid hz2
      clear hz1 hz2
      go_wp2_with fail
      go_ret
      refine ⟨⟨_, rfl, ?_⟩, B.out⟩
      rw [← List.pairwise_map, ← Z2.out]
      have := Z1.out
      have := HN.out
      simp
      omega
end Go.Proofs.YtnacjhnfkkddcaaGreatDoor
namespace Go.Proofs.YtnacjhnfkkddcaaGreatDoor
open Go.RowKit Go.Deep Go.Maps
theorem kvodd_any (W : World) (p : Value) (mo : Option Nat) (s : Kv.St) (h : EAt W p mo s) (o : Kv.Po) (hk : o.key.size ≤ maxLen) : Calls Tryz.prog 181 (#[p].push (opV o)) W (fun e w' => e = .returned (.bool (Kv.oddB s o)) ∧ Below W.heap.size W w') := by
  have B1 := Lib.hid ((Below.refl W.heap.size W).alloc (Nat.le_refl _) (.cells #[.string o.key, .string o.val, .int .i64 o.rev, .bool o.drop] 158))
  have R1 := Lib.hid (heap_alloc_new W (.cells #[.string o.key, .string o.val, .int .i64 o.rev, .bool o.drop] 158))
  have C := Lib.hid (kvget_ask _ p mo s (h.on B1.out) o.key hk)
  unfold KGet at C
  unfold opV Kv.oddB
  generalize Kv.valOf s.l o.key = v at *
  generalize Kv.revOf s.l o.key = r at *
  clear h hk
  obtain ⟨key, val, rev, drop⟩ := o
  simp only at *
  show Calls _ _ #[_, _] _ _
  by_cases g0 : 0 ≤ rev
  · by_cases g1 : rev = r
    · have hee : (rev == r) = true := by rw [beq_iff_eq]; exact g1
      have G1 := Lib.hid g1
      clear g1
      go_enter Tryz.func181, Tryz.ntmps181
      go_wp2_with (go_at_call 39; (with_reducible refine C.out.mono ?_); rintro e w1 ⟨rfl, hb1⟩; have RR := Lib.hid ((hb1.block _ (Array.getElem?_eq_some_iff.1 R1.out).1).trans R1.out); have B2 := Lib.hid (B1.out.trans (hb1.mono B1.out.size)); have c2 : w1.cell? ⟨W.heap.size, 2, none⟩ = some (.int .i64 rev) := (by rw [cell_of_row w1 _ 2 _ _ _ RR.out]; rfl); clear hb1)
      go_ret
      exact ⟨by simp [G1.out], B2.out⟩
    · have hee : (rev == r) = false := by rw [beq_eq_false_iff_ne]; exact g1
      have G1 := Lib.hid g1
      clear g1
      go_enter Tryz.func181, Tryz.ntmps181
      go_wp2_with (go_at_call 39; (with_reducible refine C.out.mono ?_); rintro e w1 ⟨rfl, hb1⟩; have RR := Lib.hid ((hb1.block _ (Array.getElem?_eq_some_iff.1 R1.out).1).trans R1.out); have B2 := Lib.hid (B1.out.trans (hb1.mono B1.out.size)); have c2 : w1.cell? ⟨W.heap.size, 2, none⟩ = some (.int .i64 rev) := (by rw [cell_of_row w1 _ 2 _ _ _ RR.out]; rfl); clear hb1)
      go_ret
      exact ⟨by simp [G1.out, g0], B2.out⟩
  · go_enter Tryz.func181, Tryz.ntmps181
    go_wp2_with (go_at_call 39; (with_reducible refine C.out.mono ?_); rintro e w1 ⟨rfl, hb1⟩; have RR := Lib.hid ((hb1.block _ (Array.getElem?_eq_some_iff.1 R1.out).1).trans R1.out); have B2 := Lib.hid (B1.out.trans (hb1.mono B1.out.size)); have c2 : w1.cell? ⟨W.heap.size, 2, none⟩ = some (.int .i64 rev) := (by rw [cell_of_row w1 _ 2 _ _ _ RR.out]; rfl); clear hb1)
    go_ret
    exact ⟨by simp; intro h; omega, B2.out⟩
theorem kvlack_any (W : World) (p : Value) (mo : Option Nat) (s : Kv.St) (h : EAt W p mo s) (o : Kv.Po) (hk : o.key.size ≤ maxLen) : Calls Tryz.prog 182 (#[p].push (opV o)) W (fun e w' => e = .returned (.bool (Kv.lackB s o)) ∧ Below W.heap.size W w') := by
  have B1 := Lib.hid ((Below.refl W.heap.size W).alloc (Nat.le_refl _) (.cells #[.string o.key, .string o.val, .int .i64 o.rev, .bool o.drop] 158))
  have C := Lib.hid (kvhas_any _ p mo s (h.on B1.out) o.key hk)
  unfold opV Kv.lackB
  generalize (Kv.find s.l o.key).isSome = b at *
  clear h hk
  obtain ⟨key, val, rev, drop⟩ := o
  simp only at *
  show Calls _ _ #[_, _] _ _
  cases drop with
  | true =>
    go_enter Tryz.func182, Tryz.ntmps182
    go_wp2_with (go_at_call 204; (with_reducible refine C.out.mono ?_); rintro e w1 ⟨rfl, hb1⟩; have B2 := Lib.hid (B1.out.trans (hb1.mono B1.out.size)); clear hb1)
    go_ret
    exact ⟨by simp, B2.out⟩
  | false =>
    go_enter Tryz.func182, Tryz.ntmps182
    go_wp2_with fail
    go_ret
    exact ⟨by simp, B1.out⟩
theorem bad_fn {w0 w : World} {n c : Nat} {A : Option Addr} {l : List Kv.Po} (h : SlP w0 A n c l) : FnB 179 #[] Kv.badB w l :=
  fun W o ho _ => kvbad_any W o (h.poOk ho).1 (h.poOk ho).2.1
theorem odd_fn {w0 w : World} {p : Value} {mo : Option Nat} {s : Kv.St} {n c : Nat} {A : Option Addr} {l : List Kv.Po} (h : SlP w0 A n c l) (hk : EAt w p mo s) : FnB 181 #[p] (Kv.oddB s) w l :=
  fun W o ho hb => kvodd_any W p mo s (hk.on hb) o (h.poOk ho).1
theorem lack_fn {w0 w : World} {p : Value} {mo : Option Nat} {s : Kv.St} {n c : Nat} {A : Option Addr} {l : List Kv.Po} (h : SlP w0 A n c l) (hk : EAt w p mo s) : FnB 182 #[p] (Kv.lackB s) w l :=
  fun W o ho hb => kvlack_any W p mo s (hk.on hb) o (h.poOk ho).1
namespace Kv
theorem step_size {r : Int} {l : List En} {o : Po} (hl : Rise l) (hd : o.drop = true → (find l o.key).isSome = true) : ((step r l o).length : Int) = l.length + (if o.drop then -1 else if (find l o.key).isSome then 0 else 1) := by
  have h1 := dropK_length hl o.key
  unfold step
  cases h : o.drop with
  | true =>
    rw [hd h] at h1
    simp only [if_true] at h1 ⊢
    omega
  | false =>
    simp only [Bool.false_eq_true, if_false]
    rw [putK_length]
    cases h2 : (find l o.key).isSome
    · rw [h2] at h1; simp at h1 ⊢; omega
    · rw [h2] at h1; simp at h1 ⊢; omega
end Kv
set_option maxHeartbeats 1600000 in
theorem kvlenb_any (w : World) (p : Value) (mo : Option Nat) (s : Kv.St) (l : List Kv.Po) (n c : Nat) (A : Option Addr) (w0 : World) (hk : EAt w p mo s) (h : SlP w0 A n c l) (hb0 : Below w0.heap.size w0 w) (hr : Kv.Right l) (hlk : ∀ o ∈ l, ¬ Kv.Lacks s o) (hz : l.length ≤ 70) :
    Calls Tryz.prog 183 #[p, .slice A n c] w (KInt ((Kv.after s l).l.length : Nat) w) := by
  have hn := h.len
  have hmx := h.max
  have hcp := h.cap
  unfold maxLen at hmx
  have HA := Lib.hid h
  have HN := Lib.hid hn
  have HZ := Lib.hid hz
  have B0 := Lib.hid hb0
  have HK := Lib.hid hk
  have RT := Lib.hid hr
  have GD := Lib.hid hk.good
  have NL := Lib.hid hlk
  have CL := Lib.hid (kvlen_ask w p mo s hk)
  clear h hn hb0 hk hr hz hlk
  go_enter Tryz.func183, Tryz.ntmps183
  go_wp2_with (go_at_call 105; (with_reducible refine CL.out.mono ?_); rintro e w1 ⟨rfl, rfl⟩)
  go_loopw [5, 12] (fun z i wr => ∃ j : Nat, j ≤ n ∧ i = .int .i64 j ∧ z = .int .i64 (((l.take j).foldl (Kv.step (s.rev + 1)) s.l).length : Nat) ∧ Below w1.heap.size w1 wr) (fun _ i _ => n - (intOf i).toNat)
  case atStart => exact ⟨0, by omega, rfl, rfl, Below.refl _ _⟩
  case round =>
    obtain ⟨j, hj, rfl, rfl, hbr⟩ := hrel
    have B := Lib.hid hbr
    have BB := Lib.hid (B0.out.trans (hbr.mono B0.out.size))
    clear hbr
    by_cases hlt : j < n
    · obtain ⟨b1, o1, rfl⟩ := HA.out.addr (by have := HN.out; omega)
      have EA : Hid (l[j]? = some (l[j]'(by have := HN.out; omega))) := List.getElem?_eq_getElem _
      generalize l[j]'(by have := HN.out; omega) = x at *
      obtain ⟨p0, p1, p2, p3⟩ := HA.out.po EA.out BB.out
      have HM : Hid (x ∈ l) := List.mem_of_getElem? EA.out
      have KS := Lib.hid (HA.out.poOk HM.out).1
      have BN := Lib.hid ((Below.refl wr.heap.size wr).alloc (Nat.le_refl _) (.cells #[.string x.key, .string x.val, .int .i64 x.rev, .bool x.drop] 158))
      have B2 := Lib.hid (B.out.trans (BN.out.mono B.out.size))
      have CH := Lib.hid (kvhas_any _ p mo s (HK.out.on B2.out) x.key KS.out)
      have LS : Hid ((l.take (j + 1)).foldl (Kv.step (s.rev + 1)) s.l = Kv.step (s.rev + 1) ((l.take j).foldl (Kv.step (s.rev + 1)) s.l) x) := Kv.steps_snoc (s.rev + 1) EA.out s.l
      have FL : Hid (Kv.find ((l.take j).foldl (Kv.step (s.rev + 1)) s.l) x.key = Kv.find s.l x.key) := Kv.find_steps_other fun o ho => by
        obtain ⟨i, hi⟩ := List.getElem?_of_mem ho
        rw [List.getElem?_take] at hi
        split at hi
        · rename_i hij
          obtain ⟨g1, e1⟩ := List.getElem?_eq_some_iff.1 hi
          obtain ⟨g2, e2⟩ := List.getElem?_eq_some_iff.1 EA.out
          have := List.pairwise_iff_getElem.1 RT.out.2.2 i j g1 g2 hij
          rw [e1, e2] at this
          exact this
        · cases hi
      have SS := Lib.hid (Kv.step_size (r := s.rev + 1) (o := x) (Kv.steps_rise (r := s.rev + 1) (ops := l.take j) GD.out.rise))
      have LB := Kv.steps_length (s.rev + 1) (l.take j) s.l
      rw [List.length_take] at LB
      have LG := GD.out.len
      have LZ := HZ.out
      have hlb : ((l.take j).foldl (Kv.step (s.rev + 1)) s.l).length ≤ 200 := by omega
      clear LB LG LZ
      rw [FL.out] at SS
      generalize hLL : ((l.take j).foldl (Kv.step (s.rev + 1)) s.l).length = ln at *
      rw [← LS.out] at SS
      generalize hLN : ((l.take (j + 1)).foldl (Kv.step (s.rev + 1)) s.l).length = lm at *
      clear hLL
      have HLN := Lib.hid hLN
      clear hLN
      have LKS : Hid (x.drop = true → (Kv.find s.l x.key).isSome = true) := fun hd => by
        have h1 := NL.out x HM.out
        have h2 := Kv.rev_zero GD.out x.key
        cases hf : Kv.find s.l x.key with
        | some e => rfl
        | none => exact absurd ⟨hd, h2.2 hf⟩ h1
      generalize (Kv.find s.l x.key).isSome = z at *
      cases hd : x.drop with
      | true =>
        rw [hd] at p3 BN B2 CH
        have SE : lm + 1 = ln := by have := SS.out LKS.out; rw [hd] at this; simp at this; omega
        have hsub : ((ln : Int) - 1) = ((lm : Nat) : Int) := by omega
        have HS := Lib.hid hsub
        clear SE hsub hd
        go_wp2_with fail
        exact ⟨⟨j + 1, by omega, by go_num, by rw [HLN.out]; have := HS.out; go_num, B2.out⟩, by simp [intOf]; omega⟩
      | false =>
        rw [hd] at p3 BN B2 CH
        cases z with
        | true =>
          have SE : lm = ln := by have := SS.out (fun _ => rfl); rw [hd] at this; simp at this; omega
          have HS := Lib.hid SE
          clear SE hd
          go_wp2_with (go_at_call 204; (with_reducible refine CH.out.mono ?_); rintro e w2 ⟨rfl, hb2⟩; have B3 := Lib.hid (B2.out.trans (hb2.mono B2.out.size)); clear hb2)
          exact ⟨⟨j + 1, by omega, by go_num, by rw [HLN.out, HS.out], B3.out⟩, by simp [intOf]; omega⟩
        | false =>
          have SE : lm = ln + 1 := by have := SS.out (fun h => by rw [hd] at h; cases h); rw [hd] at this; simp at this; omega
          have HS := Lib.hid SE
          clear SE hd
          go_wp2_with (go_at_call 204; (with_reducible refine CH.out.mono ?_); rintro e w2 ⟨rfl, hb2⟩; have B3 := Lib.hid (B2.out.trans (hb2.mono B2.out.size)); clear hb2)
          exact ⟨⟨j + 1, by omega, by go_num, by rw [HLN.out, HS.out]; go_num, B3.out⟩, by simp [intOf]; omega⟩
    · have E : Hid (l.take j = l) := List.take_of_length_le (by have := HN.out; omega)
      rw [E.out]
      have AF : Hid ((Kv.after s l).l.length = (l.foldl (Kv.step (s.rev + 1)) s.l).length) := rfl
      generalize (l.foldl (Kv.step (s.rev + 1)) s.l).length = ln at *
      go_wp2_with fail
      go_ret
      exact ⟨by rw [AF.out]; rfl, B.out⟩
end Go.Proofs.YtnacjhnfkkddcaaGreatDoor
namespace Go.Proofs.YtnacjhnfkkddcaaGreatDoor
open Go.RowKit Go.Deep Go.Maps Go.Shelf
set_option maxHeartbeats 3200000 in
theorem kvref_any (w : World) (q oq : Nat) (cs : Array Value) (ty : TypeId) (mo : Option Nat) (s : Kv.St) (l : List Kv.Po) (n c : Nat) (A : Option Addr) (w0 : World) (hk : KvIs w q oq cs ty mo s) (h : SlP w0 A n c l) (hb0 : Below w0.heap.size w0 w) (hz : l.length ≤ 70) :
    Calls Tryz.prog 157 #[.pointer (some ⟨q, oq, none⟩), .slice A n c] w (KInt (Kv.doE s l : Nat) w) := by
  have hn := h.len
  have hmx := h.max
  have hcp := h.cap
  unfold maxLen at hmx
  have HA := Lib.hid h
  have HN := Lib.hid hn
  have HZ := Lib.hid hz
  have B0 := Lib.hid hb0
  have HK := Lib.hid hk.ask
  have GD := Lib.hid hk.good
  have B := Lib.hid (Below.refl w.heap.size w)
  clear h hn hb0 hk hz
  by_cases h0 : n = 0
  · have NE : Hid (Kv.doE s l = 1) := Kv.doE_right fun h => by have := h.1; have := HN.out; omega
    subst h0
    go_enter Tryz.func157, Tryz.ntmps157
    go_wp2_with fail
    go_ret
    exact ⟨by rw [NE.out]; rfl, B.out⟩
  have hn0 : ((n : Int) == 0) = false := by rw [beq_eq_false_iff_ne]; omega
  have CB : Hid (∀ w1, Below w.heap.size w w1 → Calls Tryz.prog 178 #[.slice A n c, .func (.func 179) #[] #[]] w1 (fun e w' => e = .returned (.bool (l.any Kv.badB)) ∧ Below w1.heap.size w1 w')) := fun w1 hb => kvcontains_any 179 #[] Kv.badB (enters_of Tryz.func179 (by kernel_rfl) rfl) l n c A w0 w1 HA.out (B0.out.trans (hb.mono B0.out.size)) (bad_fn HA.out)
  cases hbad : l.any Kv.badB with
  | true =>
    rw [hbad] at CB
    have NE : Hid (Kv.doE s l = 1) := Kv.doE_right fun h => by
      obtain ⟨o, ho, hb⟩ := List.any_eq_true.1 hbad
      exact Kv.badB_iff.1 hb (h.2.1 o ho)
    clear hbad
    go_enter Tryz.func157, Tryz.ntmps157
    go_wp2_with (first
        | (go_at_call 178; (with_reducible refine (CB.out _ B.out).mono ?_); rintro e w1 ⟨rfl, hb⟩; have B := Lib.hid (B.out.trans (hb.mono B.out.size)); clear hb))
    go_ret
    exact ⟨by rw [NE.out]; rfl, B.out⟩
  | false =>
  rw [hbad] at CB
  have OK : Hid (∀ o ∈ l, Kv.PoOk o) := fun o ho => by
    have h1 := List.any_eq_false.1 hbad o ho
    exact Classical.byContradiction fun h2 => h1 (Kv.badB_iff.2 h2)
  clear hbad
  by_cases hpw : l.Pairwise fun a b => a.key ≠ b.key
  case neg =>
    have CT : Hid (∀ w1, Below w.heap.size w w1 → Calls Tryz.prog 180 #[.slice A n c] w1 (fun e w' => e = .returned (.bool true) ∧ Below w1.heap.size w1 w')) := fun w1 hb => (kvtwice_any l n c A w0 w1 HA.out (B0.out.trans (hb.mono B0.out.size)) HZ.out).mono fun e w' ⟨⟨x, h1, h2⟩, h3⟩ => ⟨by rw [h1, h2.2 hpw], h3⟩
    have NE : Hid (Kv.doE s l = 1) := Kv.doE_right fun h => hpw h.2.2
    clear hpw
    go_enter Tryz.func157, Tryz.ntmps157
    go_wp2_with (first
        | (go_at_call 178; (with_reducible refine (CB.out _ B.out).mono ?_); rintro e w1 ⟨rfl, hb⟩; have B := Lib.hid (B.out.trans (hb.mono B.out.size)); clear hb)
        | (go_at_call 180; (with_reducible refine (CT.out _ B.out).mono ?_); rintro e w1 ⟨rfl, hb⟩; have B := Lib.hid (B.out.trans (hb.mono B.out.size)); clear hb))
    go_ret
    exact ⟨by rw [NE.out]; rfl, B.out⟩
  have CT : Hid (∀ w1, Below w.heap.size w w1 → Calls Tryz.prog 180 #[.slice A n c] w1 (fun e w' => e = .returned (.bool false) ∧ Below w1.heap.size w1 w')) := fun w1 hb => (kvtwice_any l n c A w0 w1 HA.out (B0.out.trans (hb.mono B0.out.size)) HZ.out).mono fun e w' ⟨⟨x, h1, h2⟩, h3⟩ => ⟨by
      rw [h1]
      cases x with
      | false => rfl
      | true => exact absurd hpw (h2.1 rfl), h3⟩
  have RT : Hid (Kv.Right l) := ⟨by have := HN.out; omega, OK.out, hpw⟩
  clear hpw
  have CO : Hid (∀ w1, Below w.heap.size w w1 → Calls Tryz.prog 178 #[.slice A n c, .func (.func 181) #[.pointer (some ⟨q, oq, none⟩)] #[]] w1 (fun e w' => e = .returned (.bool (l.any (Kv.oddB s))) ∧ Below w1.heap.size w1 w')) := fun w1 hb => kvcontains_any 181 #[.pointer (some ⟨q, oq, none⟩)] (Kv.oddB s) (enters_of Tryz.func181 (by kernel_rfl) rfl) l n c A w0 w1 HA.out (B0.out.trans (hb.mono B0.out.size)) (odd_fn HA.out (HK.out.on hb))
  cases hodd : l.any (Kv.oddB s) with
  | true =>
    rw [hodd] at CO
    have NE : Hid (Kv.doE s l = 7) := by
      obtain ⟨o, ho, hb⟩ := List.any_eq_true.1 hodd
      exact Kv.doE_odd RT.out ⟨o, ho, Kv.oddB_iff.1 hb⟩
    clear hodd
    go_enter Tryz.func157, Tryz.ntmps157
    go_wp2_with (first
        | (go_at_call 178; (with_reducible refine (CB.out _ B.out).mono ?_); rintro e w1 ⟨rfl, hb⟩; have B := Lib.hid (B.out.trans (hb.mono B.out.size)); clear hb)
        | (go_at_call 180; (with_reducible refine (CT.out _ B.out).mono ?_); rintro e w1 ⟨rfl, hb⟩; have B := Lib.hid (B.out.trans (hb.mono B.out.size)); clear hb)
        | (go_at_call 178; (with_reducible refine (CO.out _ B.out).mono ?_); rintro e w1 ⟨rfl, hb⟩; have B := Lib.hid (B.out.trans (hb.mono B.out.size)); clear hb))
    go_ret
    exact ⟨by rw [NE.out]; rfl, B.out⟩
  | false =>
  rw [hodd] at CO
  have OD : Hid (∀ o ∈ l, ¬ Kv.Odd s o) := fun o ho h => List.any_eq_false.1 hodd o ho (Kv.oddB_iff.2 h)
  clear hodd
  have CL : Hid (∀ w1, Below w.heap.size w w1 → Calls Tryz.prog 178 #[.slice A n c, .func (.func 182) #[.pointer (some ⟨q, oq, none⟩)] #[]] w1 (fun e w' => e = .returned (.bool (l.any (Kv.lackB s))) ∧ Below w1.heap.size w1 w')) := fun w1 hb => kvcontains_any 182 #[.pointer (some ⟨q, oq, none⟩)] (Kv.lackB s) (enters_of Tryz.func182 (by kernel_rfl) rfl) l n c A w0 w1 HA.out (B0.out.trans (hb.mono B0.out.size)) (lack_fn HA.out (HK.out.on hb))
  cases hlk : l.any (Kv.lackB s) with
  | true =>
    rw [hlk] at CL
    have NE : Hid (Kv.doE s l = 5) := by
      obtain ⟨o, ho, hb⟩ := List.any_eq_true.1 hlk
      exact Kv.doE_lacks RT.out OD.out ⟨o, ho, (Kv.lackB_iff GD.out).1 hb⟩
    clear hlk
    go_enter Tryz.func157, Tryz.ntmps157
    go_wp2_with (first
        | (go_at_call 178; (with_reducible refine (CB.out _ B.out).mono ?_); rintro e w1 ⟨rfl, hb⟩; have B := Lib.hid (B.out.trans (hb.mono B.out.size)); clear hb)
        | (go_at_call 180; (with_reducible refine (CT.out _ B.out).mono ?_); rintro e w1 ⟨rfl, hb⟩; have B := Lib.hid (B.out.trans (hb.mono B.out.size)); clear hb)
        | (go_at_call 178; (with_reducible refine (CO.out _ B.out).mono ?_); rintro e w1 ⟨rfl, hb⟩; have B := Lib.hid (B.out.trans (hb.mono B.out.size)); clear hb)
        | (go_at_call 178; (with_reducible refine (CL.out _ B.out).mono ?_); rintro e w1 ⟨rfl, hb⟩; have B := Lib.hid (B.out.trans (hb.mono B.out.size)); clear hb))
    go_ret
    exact ⟨by rw [NE.out]; rfl, B.out⟩
  | false =>
  rw [hlk] at CL
  have LK : Hid (∀ o ∈ l, ¬ Kv.Lacks s o) := fun o ho h => List.any_eq_false.1 hlk o ho ((Kv.lackB_iff GD.out).2 h)
  clear hlk
  have CN : Hid (∀ w1, Below w.heap.size w w1 → Calls Tryz.prog 183 #[.pointer (some ⟨q, oq, none⟩), .slice A n c] w1 (KInt ((Kv.after s l).l.length : Nat) w1)) := fun w1 hb => kvlenb_any w1 _ mo s l n c A w0 (HK.out.on hb) HA.out (B0.out.trans (hb.mono B0.out.size)) RT.out LK.out HZ.out
  by_cases hf : 64 < (Kv.after s l).l.length
  · have NE : Hid (Kv.doE s l = 4) := Kv.doE_full RT.out OD.out LK.out hf
    generalize (Kv.after s l).l.length = ln at *
    have hg : decide ((64 : Int) < (ln : Nat)) = true := decide_eq_true (by omega)
    go_enter Tryz.func157, Tryz.ntmps157
    go_wp2_with (first
        | (go_at_call 178; (with_reducible refine (CB.out _ B.out).mono ?_); rintro e w1 ⟨rfl, hb⟩; have B := Lib.hid (B.out.trans (hb.mono B.out.size)); clear hb)
        | (go_at_call 180; (with_reducible refine (CT.out _ B.out).mono ?_); rintro e w1 ⟨rfl, hb⟩; have B := Lib.hid (B.out.trans (hb.mono B.out.size)); clear hb)
        | (go_at_call 178; (with_reducible refine (CO.out _ B.out).mono ?_); rintro e w1 ⟨rfl, hb⟩; have B := Lib.hid (B.out.trans (hb.mono B.out.size)); clear hb)
        | (go_at_call 178; (with_reducible refine (CL.out _ B.out).mono ?_); rintro e w1 ⟨rfl, hb⟩; have B := Lib.hid (B.out.trans (hb.mono B.out.size)); clear hb)
        | (go_at_call 183; (with_reducible refine (CN.out _ B.out).mono ?_); rintro e w1 ⟨rfl, hb⟩; have B := Lib.hid (B.out.trans (hb.mono B.out.size)); clear hb))
    go_ret
    exact ⟨by rw [NE.out]; rfl, B.out⟩
  · have NE : Hid (Kv.doE s l = 0) := Kv.doE_ok RT.out OD.out LK.out hf
    generalize (Kv.after s l).l.length = ln at *
    have hg : decide ((64 : Int) < (ln : Nat)) = false := decide_eq_false (by omega)
    go_enter Tryz.func157, Tryz.ntmps157
    go_wp2_with (first
        | (go_at_call 178; (with_reducible refine (CB.out _ B.out).mono ?_); rintro e w1 ⟨rfl, hb⟩; have B := Lib.hid (B.out.trans (hb.mono B.out.size)); clear hb)
        | (go_at_call 180; (with_reducible refine (CT.out _ B.out).mono ?_); rintro e w1 ⟨rfl, hb⟩; have B := Lib.hid (B.out.trans (hb.mono B.out.size)); clear hb)
        | (go_at_call 178; (with_reducible refine (CO.out _ B.out).mono ?_); rintro e w1 ⟨rfl, hb⟩; have B := Lib.hid (B.out.trans (hb.mono B.out.size)); clear hb)
        | (go_at_call 178; (with_reducible refine (CL.out _ B.out).mono ?_); rintro e w1 ⟨rfl, hb⟩; have B := Lib.hid (B.out.trans (hb.mono B.out.size)); clear hb)
        | (go_at_call 183; (with_reducible refine (CN.out _ B.out).mono ?_); rintro e w1 ⟨rfl, hb⟩; have B := Lib.hid (B.out.trans (hb.mono B.out.size)); clear hb))
    go_ret
    exact ⟨by rw [NE.out]; rfl, B.out⟩
end Go.Proofs.YtnacjhnfkkddcaaGreatDoor
