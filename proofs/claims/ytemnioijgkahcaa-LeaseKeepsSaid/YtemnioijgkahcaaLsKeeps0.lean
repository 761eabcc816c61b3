/-
  The walk of LeaseKeeps over any table that keeps the contracts.
-/
import Derived.Test.YtemnioijgkahcaaLsLaw3
import Derived.Deep.CutBlock
import Derived.Deep.DeepCutAuto
namespace Go.Proofs.Ytemnioijgkahcaa
open Go.RowKit Go.Deep

def lown : ByteArray := ⟨#[111, 119, 110]⟩
theorem lown_size : lown.size = 3 := rfl
/-- A table, the steps that are told and a lease that was got, beside it. -/
structure LKp (L : LPred) (w0 : World) (F : Nat → Prop) (q N : Nat) (v : Value) (es : List Lp) (g : Nat) (s : Ls.St) (W : World) : Prop where
  la : LAt L w0 F q s W
  row : OwnLp W N v es
  fr : ∀ k, v.ownBlock = some k → F k
  want : W.heap[g]? = some (.cells #[.int .i64 7, .int .i64 1, .int .i64 15] 36 (0, 0))
  fg : F g
section
variable {L : LPred} {w0 W W' : World} {F : Nat → Prop} {q N g : Nat} {v : Value} {es : List Lp} {s s' : Ls.St}
theorem LKp.on (hC : LC L) (h : LKp L w0 F q N v es g s W) (hb : Below W.heap.size W W') : LKp L w0 F q N v es g s W' :=
  ⟨h.la.on hC hb, OwnLp.any (h.row.below hb), h.fr, blk_on h.want hb, h.fg⟩
theorem LKp.res (h : LKp L w0 F q N v es g s W) {x : Value} {e : Ending} (hr : LRes L w0 F q s' x W e W') : e = .returned x ∧ LKp L w0 F q N v es g s' W' :=
  ⟨hr.1, hr.2.1, OwnLp.any (h.row.keep fun k hk => hr.2.2 k (h.fr k hk)), h.fr, (hr.2.2 g h.fg).trans h.want, h.fg⟩
theorem LKp.cells (h : LKp L w0 F q N v es g s W) : W.cell? ⟨g, 0, none⟩ = some (.int .i64 7) ∧ W.cell? ⟨g, 1, none⟩ = some (.int .i64 1) ∧ W.cell? ⟨g, 2, none⟩ = some (.int .i64 15) :=
  ⟨by rw [cell_of_row W g 0 _ _ _ h.want]; rfl, by rw [cell_of_row W g 1 _ _ _ h.want]; rfl, by rw [cell_of_row W g 2 _ _ _ h.want]; rfl⟩
theorem lkp_take (hC : LC L) {k : ByteArray} {ho now ttl : Int} (h : LKp L w0 F q N v es g s W) (hf : Ls.Few s 1000000) (hk : k.size ≤ maxLen) (i1 : l64In ho) (i2 : l64In now) (i3 : l64In ttl) :
    Calls Try.prog 12 #[.pointer (some ⟨q, 0, none⟩), .string k, .int .i64 ho, .int .i64 now, .int .i64 ttl] W (fun e w' => ∃ a b, e = .returned (.tuple #[.int .i64 a, .int .i64 b]) ∧ LKp L w0 F q N v es g (Ls.takeS s k ho now ttl) w') :=
  (lat_take hC h.la hf hk i1 i2 i3).mono fun _ _ hp => ⟨_, _, (h.res hp).1, (h.res hp).2⟩
theorem lkp_renew (hC : LC L) {k : ByteArray} {ho ep now ttl : Int} (h : LKp L w0 F q N v es g s W) (hk : k.size ≤ maxLen) (i1 : l64In ho) (i4 : l64In ep) (i2 : l64In now) (i3 : l64In ttl) :
    Calls Try.prog 13 #[.pointer (some ⟨q, 0, none⟩), .string k, .int .i64 ho, .int .i64 ep, .int .i64 now, .int .i64 ttl] W (fun e w' => ∃ a b, e = .returned (.tuple #[.int .i64 a, .int .i64 b]) ∧ LKp L w0 F q N v es g (Ls.renewS s k ho ep now ttl) w') :=
  (lat_renew hC h.la hk i1 i4 i2 i3).mono fun _ _ hp => ⟨_, _, (h.res hp).1, (h.res hp).2⟩
theorem lkp_drop (hC : LC L) {k : ByteArray} {ho ep : Int} (h : LKp L w0 F q N v es g s W) (hk : k.size ≤ maxLen) (i1 : l64In ho) (i4 : l64In ep) :
    Calls Try.prog 14 #[.pointer (some ⟨q, 0, none⟩), .string k, .int .i64 ho, .int .i64 ep] W (fun e w' => ∃ b, e = .returned (.int .i64 b) ∧ LKp L w0 F q N v es g (Ls.dropS s k ho ep) w') :=
  (lat_drop hC h.la hk i1 i4).mono fun _ _ hp => ⟨_, (h.res hp).1, (h.res hp).2⟩
end
/-- What is true of the table all along. -/
structure Ls.Mine (M : Int) (s : Ls.St) : Prop where
  own : Ls.find s.l lown = some ⟨lown, 7, 1, 15, false⟩
  mg : s.margin = M
section
variable {L : LPred} {w0 W : World} {F : Nat → Prop} {q : Nat} {s : Ls.St} {M : Int}
theorem lmine_get (hC : LC L) (hm : Ls.Mine M s) (h : LAt L w0 F q s W) : Calls Try.prog 15 #[.pointer (some ⟨q, 0, none⟩), .string ⟨#[111, 119, 110]⟩] W (fun e w' => e = .returned (.tuple #[.agg #[.int .i64 7, .int .i64 1, .int .i64 15], .bool true]) ∧ Below W.heap.size W w') := by
  have h1 := lat_get hC h (k := lown) (by rw [lown_size]; unfold maxLen; omega)
  unfold LGet lval Ls.holderOf Ls.epochOf Ls.tillOf at h1
  rw [hm.own] at h1
  exact h1
theorem lmine_holds (hC : LC L) (hm : Ls.Mine M s) (h : LAt L w0 F q s W) : Calls Try.prog 16 #[.pointer (some ⟨q, 0, none⟩), .string ⟨#[111, 119, 110]⟩, .int .i64 7, .int .i64 1, .int .i64 14] W (fun e w' => e = .returned (.bool true) ∧ Below W.heap.size W w') := by
  refine (lat_holds hC h (k := lown) (ho := 7) (ep := 1) (now := 14) (by rw [lown_size]; unfold maxLen; omega) ⟨by omega, by omega⟩ ⟨by omega, by omega⟩ ⟨by omega, by omega⟩).mono ?_
  rintro e w' ⟨⟨x, rfl, hx⟩, hb⟩
  obtain rfl : x = true := hx.2 ⟨_, hm.own, rfl, rfl, rfl, by show (14 : Int) < 15; omega⟩
  exact ⟨rfl, hb⟩
theorem lmine_free (hC : LC L) (hm : Ls.Mine M s) (hM : 0 ≤ M) (h : LAt L w0 F q s W) : Calls Try.prog 17 #[.pointer (some ⟨q, 0, none⟩), .string ⟨#[111, 119, 110]⟩, .int .i64 14] W (fun e w' => e = .returned (.bool false) ∧ Below W.heap.size W w') := by
  refine (lat_free hC h (k := lown) (now := 14) (by rw [lown_size]; unfold maxLen; omega) ⟨by omega, by omega⟩).mono ?_
  rintro e w' ⟨⟨x, rfl, hx⟩, hb⟩
  obtain rfl : x = false := by
    cases x with
    | false => rfl
    | true =>
      exfalso
      have h1 := hx.1 rfl _ hm.own
      rcases h1 with h2 | h2
      · cases h2
      · rw [hm.mg] at h2
        unfold Ls.late at h2
        have h3 : min ((15 : Int) + M) 1099511627776 ≤ 14 := h2
        omega
  exact ⟨rfl, hb⟩
end
theorem lown_list : lown.toList = [111, 119, 110] := by rw [ByteArray.toList_eq]; rfl
theorem lname_eq {k : ByteArray} : (k.toList == [111, 119, 110]) = decide (k = lown) := by
  by_cases h : k = lown
  · subst h; rw [decide_eq_true rfl, lown_list]; rfl
  · rw [decide_eq_false h, ← lown_list]
    exact Kv.tne.2 h
theorem lneq (W : World) : (binOp .neq 36 (.agg #[.int .i64 7, .int .i64 1, .int .i64 15]) (.agg #[.int .i64 7, .int .i64 1, .int .i64 15])).run Try.prog W = .ok (.bool false) W := by
  have h := lease_same 7 1 15 W
  rw [run_eql_struct] at h
  rw [run_neq_struct]
  cases hq : (Op.equalIn 10000 36 (.agg #[.int .i64 7, .int .i64 1, .int .i64 15]) (.agg #[.int .i64 7, .int .i64 1, .int .i64 15])).run Try.prog W with
  | ok b w' => rw [hq] at h; simp [Result.andThen] at h ⊢; exact h
  | _ => rw [hq] at h; simp [Result.andThen] at h
set_option maxHeartbeats 6400000 in
set_option maxRecDepth 100000 in
theorem lkeeps_walk {L : LPred} (hC : LC L) (margin : Int) (hm : l64In margin) (n c : Nat) (A : Option Addr) (ts : List Lp) (w : World) (h : SlL w A n c ts) :
    Calls Try.prog 7 #[.int .i64 margin, .slice A n c] w fun e w' => e = .returned (.bool true) ∧ Below w.heap.size w w' := by
  have L1 := Lib.hid (llives_any hC w)
  have HA := Lib.hid h
  clear h
  go_enter Try.func7, Try.ntmps7
  go_upto_region 3 with (go_at_call 8; (with_reducible refine L1.out.mono ?_); rintro e w1 ⟨rfl, hb1⟩; have B1 := Lib.hid hb1; clear hb1)
  clear L1
  obtain ⟨M, hM⟩ : ∃ M, M = min (max margin 0) 1048576 := ⟨_, rfl⟩
  have hM0 : 0 ≤ M := by omega
  have hM1 : M ≤ 1048576 := by omega
  have N1 := Lib.hid (lat_make (F := fun _ => False) (w0 := w) (W := w1) hC hm B1.out (fun b hb => by cases hb))
  have hmk : Ls.new margin = ⟨M, []⟩ := by rw [hM]; rfl
  rw [hmk] at N1
  have HM0 := Lib.hid hM0
  have HM1 := Lib.hid hM1
  clear hM hM0 hM1 hmk hm
  have R7 : Ls.Right lown 7 5 10 := ⟨by rw [lown_size]; omega, by rw [lown_size]; omega, by omega, by omega, ⟨by omega, by omega⟩, by omega, by omega⟩
  have C1 := Lib.hid (l1_first (w0 := w) (F := fun _ => False) (m := M) hC R7 (T := 15) rfl)
  have MI : Hid (Ls.Mine M (Ls.one lown 7 1 15 M)) := ⟨Ls.one_find .., rfl⟩
  have FW : Hid (Ls.Few (Ls.one lown 7 1 15 M) (0 + 1)) := by
    refine ⟨fun e he => ?_, Nat.le_refl _⟩
    unfold Ls.one at he
    simp at he
    subst he
    exact Int.le_refl _
  clear R7
  unfold lown at C1
  go_upto_region 4 with (go_at_call 9; (with_reducible refine N1.out.mono ?_); rintro e w2 ⟨q, rfl, hk1, _⟩; have K1 := Lib.hid hk1; clear hk1)
  go_upto_region 5 with (go_at_call 12; (with_reducible refine (C1.out _ _ K1.out).mono ?_); rintro e w3 ⟨rfl, hk2, _⟩; have K2 := Lib.hid hk2; clear hk2)
  clear C1 K1 N1
  rw [show Ls.one ⟨#[111, 119, 110]⟩ 7 1 15 M = Ls.one lown 7 1 15 M from rfl] at K2
  generalize Ls.one lown 7 1 15 M = s0 at *
  go_upto_region 6 with (go_at_call 15; (with_reducible refine (lmine_get hC MI.out K2.out).mono ?_); rintro e w4 ⟨rfl, hb⟩; have K4 := Lib.hid (K2.out.more hC (hb.trans (((Below.refl w4.heap.size w4).alloc (Nat.le_refl _) (.cells #[.int .i64 7, .int .i64 1, .int .i64 15] 36)).mono hb.size))); have Z4 := Lib.hid hb.size; clear hb)
  have W4 : Hid ((w4.alloc (.cells #[.int .i64 7, .int .i64 1, .int .i64 15] 36)).heap[w4.heap.size]? = some (.cells #[.int .i64 7, .int .i64 1, .int .i64 15] 36 (0, 0))) := heap_alloc_new w4 _
  have G4 : Hid (w3.heap.size ≤ w4.heap.size ∧ w4.heap.size < (w4.alloc (.cells #[.int .i64 7, .int .i64 1, .int .i64 15] 36)).heap.size) := ⟨Z4.out, (Array.getElem?_eq_some_iff.1 W4.out).1⟩
  obtain ⟨g, hg⟩ : ∃ g, g = w4.heap.size := ⟨_, rfl⟩
  rw [← hg] at W4 G4 ⊢
  clear hg Z4 K2
  generalize w4.alloc (.cells #[.int .i64 7, .int .i64 1, .int .i64 15] 36) = w5 at *
  have E6 := Lib.hid (learly_any ts n c A w w5 HA.out K4.out.below)
  go_upto_region 7 with (go_at_call 10; (with_reducible refine E6.out.mono ?_); rintro e w6 ⟨v6, rfl, ho6, hb6⟩; obtain ⟨A6, c6, rfl⟩ := ho6.form; have O6 := Lib.hid ho6; have K6 := Lib.hid (K4.out.more hC hb6); have W6 := Lib.hid (blk_on W4.out hb6); clear ho6 hb6)
  have ES := Lib.hid (learly_len ts)
  generalize learly ts = es at *
  obtain ⟨m, hm⟩ : ∃ m, m = es.length := ⟨_, rfl⟩
  rw [← hm] at O6 ⊢
  have hm80 : m ≤ 80 := by rw [hm]; exact ES.out
  have HMM := Lib.hid hm
  clear hm ES E6 W4 HA K4
  obtain ⟨F, hF⟩ : ∃ F : Nat → Prop, F = fun b => (False ∨ (w3.heap.size ≤ b ∧ b < w5.heap.size)) ∨ (w5.heap.size ≤ b ∧ b < w6.heap.size) := ⟨_, rfl⟩
  rw [← hF] at K6
  have P6 : Hid (LKp L w F q w5.heap.size (.slice A6 m c6) es g s0 w6) := ⟨K6.out, O6.out, fun k hk => by rw [hF]; exact .inr (O6.out.lt k hk), W6.out, by rw [hF]; exact .inl (.inr G4.out)⟩
  clear hF K6 O6 W6 G4
  generalize w5.heap.size = N at *
  go_wp2_with fail
  go_loopw [8] (fun i wr => ∃ (j : Nat) (s : Ls.St), j ≤ m ∧ i = .int .i64 j ∧ LKp L w F q N (.slice A6 m c6) es g s wr ∧ Ls.Mine M s ∧ Ls.Few s (j + 1)) (fun i _ => m - (intOf i).toNat)
  case atStart => exact ⟨0, s0, by omega, rfl, P6.out, MI.out, FW.out⟩
  case round =>
    obtain ⟨j, s, hj, rfl, hp, hmi, hfw⟩ := hrel
    have P := Lib.hid hp
    have MS := Lib.hid hmi
    have FS := Lib.hid hfw
    clear hp hmi hfw P6 MI FW
    by_cases hlt : j < m
    · obtain ⟨b1, o1, hA1⟩ := (P.out.row.readL).addrL (by have := HMM.out; omega)
      subst hA1
      have EO : Hid (es[j]? = some (es[j]'(by have := HMM.out; omega))) := List.getElem?_eq_getElem _
      generalize es[j]'(by have := HMM.out; omega) = o at *
      obtain ⟨p0, p1, p2, p3, p4, p5⟩ := P.out.row.readL.lp EO.out (Below.refl _ _)
      have OK := Lib.hid (P.out.row.readL.lpOk (List.mem_of_getElem? EO.out))
      have BN := Lib.hid ((Below.refl wr.heap.size wr).alloc (Nat.le_refl _) (.cells #[.int .i64 o.kind, .int .i64 o.who, .int .i64 o.ep, .int .i64 o.now, .int .i64 o.ttl, .string o.name] 28))
      have F0 := Lib.hid (LFr.new wr o)
      have P1 := Lib.hid (P.out.on hC BN.out)
      go_upto_region 11 with fail
      clear p0 p1 p2 p3 p4 p5 P BN
      obtain ⟨gs, hgs⟩ : ∃ gs, gs = wr.heap.size := ⟨_, rfl⟩
      rw [← hgs] at F0 ⊢
      clear hgs
      generalize wr.alloc (.cells #[.int .i64 o.kind, .int .i64 o.who, .int .i64 o.ep, .int .i64 o.now, .int .i64 o.ttl, .string o.name] 28) = ws at *
      obtain ⟨c0, c1, c2, c3, c4, c5, f5, hgl⟩ := F0.out.cells
      by_cases hown : o.name = lown
      · have hq : (o.name.toList == [111, 119, 110]) = true := by rw [lname_eq, decide_eq_true hown]
        clear hown
        go_wp2_with fail
        exact ⟨⟨j + 1, s, by omega, by go_num, P1.out, MS.out, FS.out.more (by omega)⟩, by simp [intOf]; omega⟩
      · have hq : (o.name.toList == [111, 119, 110]) = false := by rw [lname_eq, decide_eq_false hown]
        have HO := Lib.hid hown
        clear hown
        go_upto_block 2 with ((with_reducible refine (lkind_any _ _).mono ?_); rintro e wk ⟨rfl, hbk⟩; have PK := Lib.hid (P1.out.on hC hbk); have SK := Lib.hid (F0.out.on hbk); clear hbk)
        clear c0 c1 c2 c3 c4 c5 f5 hgl hq P1 F0
        have hkd := (lkN_eq o.kind).2
        obtain ⟨kd, hkd2⟩ : ∃ kd, kd = lkN o.kind := ⟨_, rfl⟩
        rw [← hkd2] at hkd ⊢
        clear hkd2
        go_cut [] (fun wx => ∃ s', LKp L w F q N (.slice (some ⟨b1, o1, none⟩) m c6) es g s' wx ∧ Ls.Mine M s' ∧ Ls.Few s' (j + 2))
        case first =>
          have hor : kd = 0 ∨ kd = 1 ∨ kd = 2 ∨ kd = 3 := by omega
          clear hkd
          obtain ⟨c0, c1, c2, c3, c4, c5, f5, hgl⟩ := SK.out.cells
          rcases hor with rfl | rfl | rfl | rfl
          · have CT := Lib.hid (lkp_take hC PK.out (FS.out.more (by omega)) OK.out.s OK.out.w OK.out.n OK.out.t)
            go_wp2_with (go_at_call 12; (with_reducible refine CT.out.mono ?_); rintro e w7 ⟨a7, b7, rfl, hp7⟩; have P7 := Lib.hid hp7; clear hp7)
            go_meet
            case rel => exact ⟨_, P7.out, ⟨(Ls.take_find HO.out).trans MS.out.own, (Ls.take_margin ..).trans MS.out.mg⟩, Ls.take_few FS.out _ _ _ _⟩
          · have CT := Lib.hid (lkp_renew hC PK.out OK.out.s OK.out.w OK.out.e OK.out.n OK.out.t)
            go_wp2_with (go_at_call 13; (with_reducible refine CT.out.mono ?_); rintro e w7 ⟨a7, b7, rfl, hp7⟩; have P7 := Lib.hid hp7; clear hp7)
            go_meet
            case rel => exact ⟨_, P7.out, ⟨(Ls.renew_find HO.out).trans MS.out.own, (Ls.renew_margin ..).trans MS.out.mg⟩, Ls.renew_few FS.out _ _ _ _ _⟩
          · have CT := Lib.hid (lkp_drop hC PK.out OK.out.s OK.out.w OK.out.e)
            go_wp2_with (go_at_call 14; (with_reducible refine CT.out.mono ?_); rintro e w7 ⟨b7, rfl, hp7⟩; have P7 := Lib.hid hp7; clear hp7)
            go_meet
            case rel => exact ⟨_, P7.out, ⟨(Ls.drop_find HO.out).trans MS.out.own, (Ls.drop_margin ..).trans MS.out.mg⟩, Ls.drop_few FS.out _ _ _⟩
          · go_wp2_with fail
            go_meet
            case rel => exact ⟨_, PK.out, MS.out, FS.out.more (by omega)⟩
        case rest =>
          obtain ⟨s', hp', hmi', hfw'⟩ := hcut
          have PX := Lib.hid hp'
          have MX := Lib.hid hmi'
          have FX := Lib.hid hfw'
          have hM0 := HM0.out
          clear hp' hmi' hfw' PK SK MS FS
          have hqn := lneq
          go_upto_region 20 with (go_at_call 15; (with_reducible refine (lmine_get hC MX.out PX.out.la).mono ?_); rintro e w8 ⟨rfl, hb⟩; have P8 := Lib.hid ((PX.out.on hC hb).on hC ((Below.refl w8.heap.size w8).alloc (Nat.le_refl _) (.cells #[.int .i64 7, .int .i64 1, .int .i64 15] 36))); clear hb)
          have W8 : Hid ((w8.alloc (.cells #[.int .i64 7, .int .i64 1, .int .i64 15] 36)).heap[w8.heap.size]? = some (.cells #[.int .i64 7, .int .i64 1, .int .i64 15] 36 (0, 0))) := heap_alloc_new w8 _
          obtain ⟨g8, hg8⟩ : ∃ g8, g8 = w8.heap.size := ⟨_, rfl⟩
          rw [← hg8] at W8 ⊢
          clear hg8 PX
          generalize w8.alloc (.cells #[.int .i64 7, .int .i64 1, .int .i64 15] 36) = w9 at *
          obtain ⟨c0, c1, c2⟩ := P8.out.cells
          have d0 : w9.cell? ⟨g8, 0, none⟩ = some (.int .i64 7) := by rw [cell_of_row w9 g8 0 _ _ _ W8.out]; rfl
          have d1 : w9.cell? ⟨g8, 1, none⟩ = some (.int .i64 1) := by rw [cell_of_row w9 g8 1 _ _ _ W8.out]; rfl
          have d2 : w9.cell? ⟨g8, 2, none⟩ = some (.int .i64 15) := by rw [cell_of_row w9 g8 2 _ _ _ W8.out]; rfl
          go_wp2_with (first
            | (go_at_call 16; (with_reducible refine (lmine_holds hC MX.out P8.out.la).mono ?_); rintro e w10 ⟨rfl, hb⟩; have P10 := Lib.hid (P8.out.on hC hb); clear hb)
            | (go_at_call 17; (with_reducible refine (lmine_free hC MX.out hM0 P10.out.la).mono ?_); rintro e w11 ⟨rfl, hb⟩; have P11 := Lib.hid (P10.out.on hC hb); clear hb))
          exact ⟨⟨j + 1, s', by omega, by go_num, P11.out, MX.out, FX.out⟩, by simp [intOf]; omega⟩
    · obtain ⟨c0, c1, c2⟩ := P.out.cells
      have hqs := lease_same 7 1 15
      go_wp2_with fail
      go_ret
      exact ⟨rfl, P.out.la.below⟩
end Go.Proofs.Ytemnioijgkahcaa
