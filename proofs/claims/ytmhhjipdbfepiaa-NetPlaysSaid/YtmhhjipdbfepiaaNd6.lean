/-
  Package net: the messages of a unit: DeleteFunc, Of. No condition.
-/
import Derived.Test.YtmhhjipdbfepiaaNd5
namespace Go.Proofs.Ytmhhjipdbfepiaa
open Go.RowKit Go.Deep
set_option maxRecDepth 100000
set_option linter.unusedSimpArgs false
set_option linter.unusedVariables false

theorem NAsk.on {w w' : World} {p : Option Addr} {l : List Nt.M} {se lo : Int} (h : NAsk w p l se lo) (hb : Below w.heap.size w w') : NAsk w' p l se lo :=
  ⟨h.no, fun a ha => by
    obtain ⟨r, c, A, k, h1, ⟨x0, x1, x2, x3, xf, xl⟩, h3⟩ := h.yes a ha
    exact ⟨r, c, A, k, h1, ⟨(hb.cell (p := ⟨r, 0, none⟩) xl).trans x0, (hb.cell (p := ⟨r, 1, none⟩) xl).trans x1, (hb.cell (p := ⟨r, 2, none⟩) xl).trans x2, (hb.cell (p := ⟨r, 3, none⟩) xl).trans x3, fun i => (hb.frozen (p := ⟨r, i, none⟩) xl).trans (xf i), Nat.lt_of_lt_of_le xl hb.size⟩, h3.on hb⟩⟩
theorem own_there {w : World} {B g n c : Nat} {l : List Nt.M} (h : OwF Nt.mC 6 32 w B (.slice (some ⟨g, 0, none⟩) n c) l) {i : Nat} (hi : i < n) : w.there g (i * 6) 6 := by
  obtain ⟨cur, hg, hn, h2, h3, hh, h4, h5⟩ := own_open h
  have hb : (i + 1) * 6 ≤ c * 6 := Nat.mul_le_mul_right 6 (by omega)
  rw [Nat.succ_mul] at hb
  intro j hj
  refine ⟨?_, frozen_of_row _ _ _ _ _ hh⟩
  rw [cell_of_row w g _ _ _ _ hh, Array.getElem?_eq_getElem (by omega)]
  rfl
theorem own_range {w : World} {B g n c : Nat} {l : List Nt.M} (h : OwF Nt.mC 6 32 w B (.slice (some ⟨g, 0, none⟩) n c) l) {i : Nat} {x : Nt.M} (hx : l[i]? = some x) : w.rangeAt g (i * 6) (Nt.mC x) := by
  obtain ⟨b, o, e, _, hr⟩ := nt_range h.sl hx
  injection e with e
  injection e with e1 e2
  subst e1 e2
  rw [Nat.zero_add] at hr
  exact hr
theorem own_glt {w : World} {B g n c : Nat} {l : List Nt.M} (h : OwF Nt.mC 6 32 w B (.slice (some ⟨g, 0, none⟩) n c) l) : g < w.heap.size := (h.lt g rfl).2
/-- Where the unit's messages stand in the midst of DeleteFunc. -/
structure Sift (l cur : List Nt.M) (u : Int) (n i j : Nat) : Prop where
  len : cur.length = n
  lt : i < j
  le : j ≤ n
  head : cur.take i = Nt.ofU (l.take j) u
  rest : cur.drop j = l.drop j
theorem Sift.get {l cur : List Nt.M} {u : Int} {n i j : Nat} (h : Sift l cur u n i j) : cur[j]? = l[j]? := by
  have h1 := congrArg (fun x => x[0]?) h.rest
  simpa using h1
theorem Sift.skip {l cur : List Nt.M} {u : Int} {n i j : Nat} (h : Sift l cur u n i j) {x : Nt.M} (hx : l[j]? = some x) (hn : j < n) (hu : x.u ≠ u) : Sift l cur u n i (j + 1) := by
  refine ⟨h.len, by have := h.lt; omega, hn, ?_, ?_⟩
  · rw [h.head, List.take_add_one, hx]
    unfold Nt.ofU
    rw [List.filter_append]
    simp [hu]
  · rw [← List.drop_drop, ← List.drop_drop, h.rest]
theorem Sift.keep {l cur : List Nt.M} {u : Int} {n i j : Nat} (h : Sift l cur u n i j) {x : Nt.M} (hx : l[j]? = some x) (hn : j < n) (hu : x.u = u) : Sift l (cur.set i x) u n (i + 1) (j + 1) := by
  have hl := h.len
  have hlt := h.lt
  refine ⟨by rw [List.length_set, hl], by omega, hn, ?_, ?_⟩
  · have h1 : cur.take i = List.filter (fun m => decide (m.u = u)) (l.take j) := h.head
    have h2 : Nt.ofU (l.take (j + 1)) u = cur.take i ++ [x] := by
      rw [List.take_add_one, hx]
      unfold Nt.ofU
      rw [List.filter_append, ← h1]
      simp [hu]
    rw [h2, List.take_add_one, List.take_set_of_le (Nat.le_refl i), List.getElem?_set_self (by omega)]
    rfl
  · rw [List.drop_set_of_lt (by omega), ← List.drop_drop, ← List.drop_drop, h.rest]
theorem Sift.start {l : List Nt.M} {u : Int} {j : Nat} {x : Nt.M} (hx : l[j]? = some x) (hu : x.u ≠ u) (hk : ∀ y ∈ l.take j, y.u = u) : Sift l l u l.length j (j + 1) := by
  have hlt := (List.getElem?_eq_some_iff.1 hx).1
  refine ⟨rfl, by omega, hlt, ?_, rfl⟩
  rw [List.take_add_one, hx]
  unfold Nt.ofU
  rw [List.filter_append]
  have := ofU_all hk
  unfold Nt.ofU at this
  rw [this]
  simp [hu]
/-- What DeleteFunc answers. -/
def DelPost (l : List Nt.M) (u : Int) (B g c : Nat) (w : World) (e : Ending) (w' : World) : Prop :=
  e = .returned (.slice (some ⟨g, 0, none⟩) (Nt.ofU l u).length c) ∧ OwF Nt.mC 6 32 w' B (.slice (some ⟨g, 0, none⟩) (Nt.ofU l u).length c) (Nt.ofU l u) ∧ w.grownBy w' (some g)
set_option maxHeartbeats 3200000 in
theorem ndelf_any (w : World) (B g n c gu : Nat) (u : Int) (l : List Nt.M) (h : OwF Nt.mC 6 32 w B (.slice (some ⟨g, 0, none⟩) n c) l) (hu : UAt w gu u) (hne : gu ≠ g) (hn : n ≤ 1000) :
    Calls Try.prog 39 #[.slice (some ⟨g, 0, none⟩) n c, ofFn gu] w (DelPost l u B g c w) := by
  have CI := Lib.hid (nindex_any gu u l n c (some ⟨g, 0, none⟩) w h.sl hu)
  have hcap := h.len.2.1
  have hmax := h.len.2.2
  have hc63 : (c : Int) ≤ 9223372036854775807 := by unfold maxLen at hmax; omega
  have HN := Lib.hid h.len.1
  have O := Lib.hid h
  have U := Lib.hid hu
  have NE := Lib.hid hne
  clear h hu hne hmax
  unfold ofFn at *
  go_enter Try.func39, Try.ntmps39
  go_upto_region 2 with (go_at_call 41; (with_reducible refine CI.out.mono ?_); intro e w1 hp; rcases hp with ⟨j, m, rfl, hj, hm, hk, hb⟩ | ⟨rfl, hk, hb⟩)
  · have HJ := Lib.hid hj
    have S0 := Lib.hid (Sift.start hj hm hk)
    rw [← HN.out] at S0
    have O1 := Lib.hid (O.out.below hb)
    have U1 := Lib.hid (U.out.on hb)
    have G1 := Lib.hid (grown_below (some g) hb)
    have hjn := S0.out.le
    have hj1 : ((j : Int) == -1) = false := by rw [beq_eq_false_iff_ne]; omega
    clear hj hm hk hb CI O U
    go_wp2_with fail
    go_loopw [5, 6] (fun a b wr => ∃ (i j : Nat) (cur : List Nt.M), j ≤ n ∧ a = .int .i64 i ∧ b = .int .i64 j ∧ Sift l cur u n i j ∧ OwF Nt.mC 6 32 wr B (.slice (some ⟨g, 0, none⟩) n c) cur ∧ UAt wr gu u ∧ w.grownBy wr (some g)) (fun _ b _ => n - (intOf b).toNat)
    case atStart => exact ⟨j, j + 1, l, hjn, rfl, by go_num, S0.out, O1.out, U1.out, G1.out⟩
    case round =>
      clear S0 O1 U1 G1 HJ hjn
      obtain ⟨i, j, cur, hj, rfl, rfl, hs, ho, hu, hg⟩ := hrel
      have S := Lib.hid hs
      have O := Lib.hid ho
      have U := Lib.hid hu
      have G := Lib.hid hg
      have hij := hs.lt
      clear hs ho hu hg
      by_cases hlt : j < n
      · have hjl : j < cur.length := by have := S.out.len; omega
        have EC : Hid (cur[j]? = some cur[j]) := List.getElem?_eq_getElem hjl
        generalize cur[j] = x at EC
        have EL : Hid (l[j]? = some x) := S.out.get.symm.trans EC.out
        have RG := Lib.hid (own_range O.out EC.out)
        have hb1 : Below wr.heap.size wr (wr.alloc (.cells (Nt.cs x) 32)) := (Below.refl _ _).alloc (Nat.le_refl _) _
        have X1 := Lib.hid (NtAt.new wr x)
        have O1 := Lib.hid (O.out.below hb1)
        have CC := Lib.hid (nother_any x u gu _ (U.out.on hb1))
        have U1 := Lib.hid (U.out.on hb1)
        have G1 := Lib.hid (grown_trans G.out (grown_below (some g) hb1))
        have i1 : (0 : Int) ≤ (j : Int) := by omega
        have i2 : (j : Int) < (n : Int) := by omega
        have i3 : (0 : Int) ≤ (i : Int) := by omega
        have i4 : (i : Int) < (n : Int) := by omega
        clear hb1
        go_upto_region 8 with ((with_reducible show wpList _ _ _ ({ dst := some 25, op := .load _ _, type := _, pos := _, after := _, guard := _ } :: _) _ _); refine wpList_load_msg rfl (.tmp 24) rfl g (j * 6) rfl x RG.out ?_)
        clear O RG U G
        generalize wr.alloc (.cells (Nt.cs x) 32) = w2 at *
        generalize wr.heap.size = m2 at *
        by_cases hq : x.u = u
        · have hd : (!decide (x.u = u)) = false := by simp [hq]
          rw [hd] at CC
          have S2 := Lib.hid (S.out.keep EL.out hlt hq)
          clear hq hd
          go_upto_region 9 with (first
            | ((with_reducible show wpList _ _ _ ({ dst := some 27, op := .load _ _, type := _, pos := _, after := _, guard := _ } :: _) _ _); refine wpList_load_msg rfl (.tmp 7) rfl m2 0 rfl x X1.out.range ?_)
            | (go_at_call 40; (with_reducible refine CC.out.mono ?_); rintro e w3 ⟨rfl, hb3⟩; have O3 := Lib.hid (O1.out.below hb3); have U3 := Lib.hid (U1.out.on hb3); have G3 := Lib.hid (grown_trans G1.out (grown_below (some g) hb3)); have X3 := Lib.hid (X1.out.on hb3); clear hb3))
          have TH := Lib.hid (own_there O3.out (i := i) (by omega))
          have O4 := Lib.hid (own_set O3.out (i := i) (by omega) x)
          have U4 : Hid (UAt (w3.setCells g (i * 6) (Nt.mC x)) gu u) := ((grown_setCells g (Nt.mC x) (i * 6) w3).block gu U3.out.lt (fun e => NE.out (Option.some.inj e))).trans U3.out
          have G4 := Lib.hid (grown_trans G3.out (grown_setCells g (Nt.mC x) (i * 6) w3))
          go_wp2_with (first
            | ((with_reducible show wpList _ _ _ ({ dst := some 32, op := .load _ _, type := _, pos := _, after := _, guard := _ } :: _) _ _); refine wpList_load_msg rfl (.tmp 7) rfl m2 0 rfl x X3.out.range ?_)
            | ((with_reducible show wpList _ _ _ ({ dst := none, op := .store _ _ _, type := _, pos := _, after := _, guard := _ } :: _) _ _); refine wpList_store_mid rfl 32 (.tmp 33) (.tmp 32) rfl g (i * 6) (Nt.cs x) rfl rfl TH.out (msg_size' x) (msg_one x) ?_))
          exact ⟨⟨i + 1, j + 1, _, by omega, by go_num, by go_num, S2.out, O4.out, U4.out, G4.out⟩, by simp [intOf]; omega⟩
        · have hd : (!decide (x.u = u)) = true := by simp [hq]
          rw [hd] at CC
          have S2 := Lib.hid (S.out.skip EL.out hlt hq)
          clear hq hd
          go_wp2_with (first
            | ((with_reducible show wpList _ _ _ ({ dst := some 27, op := .load _ _, type := _, pos := _, after := _, guard := _ } :: _) _ _); refine wpList_load_msg rfl (.tmp 7) rfl m2 0 rfl x X1.out.range ?_)
            | (go_at_call 40; (with_reducible refine CC.out.mono ?_); rintro e w3 ⟨rfl, hb3⟩; have O3 := Lib.hid (O1.out.below hb3); have U3 := Lib.hid (U1.out.on hb3); have G3 := Lib.hid (grown_trans G1.out (grown_below (some g) hb3)); have X3 := Lib.hid (X1.out.on hb3); clear hb3))
          exact ⟨⟨i, j + 1, cur, by omega, rfl, by go_num, S2.out, O3.out, U3.out, G3.out⟩, by simp [intOf]; omega⟩
      · obtain rfl : j = n := by omega
        have EH : Hid (cur.take i = Nt.ofU l u) := by
          have := S.out.head
          rw [List.take_of_length_le (l := l) (by have := HN.out; omega)] at this
          exact this
        have LI : Hid ((Nt.ofU l u).length = i) := by
          show _ = _
          rw [← EH.out, List.length_take]
          have := S.out.len
          omega
        have hcl := fun W => mcut_run (some ⟨g, 0, none⟩) j c i (by omega) W
        rw [if_neg (show ¬ c = i by omega), Option.map_some, Addr.add_mid, Nat.zero_add] at hcl
        have hch := fun W => mcut_hi g 0 j c i (by omega) W
        obtain ⟨curc, k0, k1, k2, k3, k4, k5, k6⟩ := own_open O.out
        have hclr := fun ty => clear_msgs wr ty g (i * 6) (j - i) (c - i) (by omega) (fun q hq => by rw [cell_of_row wr g _ _ _ _ k4, Array.getElem?_eq_getElem (by rw [k5]; have := Nat.mul_le_mul_right 6 k2; omega)]; rfl) (fun q => frozen_of_row wr g _ _ _ k4)
        have O4 := Lib.hid (own_cut O.out i (by omega) (i * 6) (Nat.le_refl _) (zcells (j - i)))
        have G4 := Lib.hid (grown_trans G.out (grown_setCells g (zcells (j - i)) (i * 6) wr))
        rw [EH.out] at O4
        clear k0 k1 k2 k3 k4 k5 k6 S O U G EH
        generalize wr.setCells g (i * 6) (zcells (j - i)) = w5 at *
        go_wp2_with fail
        go_ret
        unfold DelPost
        rw [LI.out]
        exact ⟨rfl, O4.out, G4.out⟩
  · have E := Lib.hid (ofU_all hk)
    have B1 := Lib.hid hb
    clear hk hb
    go_wp2_with fail
    go_ret
    unfold DelPost
    rw [E.out, ← HN.out]
    exact ⟨rfl, O.out.below B1.out, grown_below _ B1.out⟩
theorem own_split {w : World} {B n c : Nat} {A : Option Addr} {l : List Nt.M} (h : OwF Nt.mC 6 32 w B (.slice A n c) l) : (A = none ∧ c = 0 ∧ l = []) ∨ ∃ g, A = some ⟨g, 0, none⟩ ∧ B ≤ g := by
  rcases h.2 with ⟨h1, h2⟩ | ⟨g, cap, cur, h1, hg, _⟩
  · injection h1 with e1 e2 e3
    exact .inl ⟨e1, e3, List.eq_nil_of_length_eq_zero h2⟩
  · injection h1 with e1 e2 e3
    exact .inr ⟨g, e1, hg⟩
theorem nindex_nil (w : World) (gu : Nat) (u : Int) (hu : UAt w gu u) :
    Calls Try.prog 41 #[.slice none 0 0, ofFn gu] w (NPos w (.int .i64 (-1))) := by
  refine (nindex_any gu u [] 0 0 none w (SlF.none_ w) hu).mono fun e w' h => ?_
  rcases h with ⟨j, m, _, h2, _⟩ | ⟨h1, _, h3⟩
  · rw [List.getElem?_nil] at h2
    cases h2
  · exact ⟨h1, h3⟩
theorem ndelf_nil (w : World) (gu : Nat) (u : Int) (hu : UAt w gu u) :
    Calls Try.prog 39 #[.slice none 0 0, ofFn gu] w (NPos w (.slice none 0 0)) := by
  have CI := Lib.hid (nindex_nil w gu u hu)
  clear hu
  unfold ofFn at *
  go_enter Try.func39, Try.ntmps39
  go_wp2_with (go_at_call 41; (with_reducible refine CI.out.mono ?_); intro e w1 hp; have he := hp.1; have B1 := Lib.hid hp.2; clear hp; subst he)
  go_ret
  exact ⟨rfl, B1.out⟩
theorem ndelf_both (w : World) (B gu c n : Nat) (u : Int) (A : Option Addr) (l : List Nt.M) (h : OwF Nt.mC 6 32 w B (.slice A n c) l) (hu : UAt w gu u) (hB : gu < B) (hBw : B ≤ w.heap.size) (hn : n ≤ 1000) :
    Calls Try.prog 39 #[.slice A n c, ofFn gu] w (fun e w' => ∃ A' c', e = .returned (.slice A' (Nt.ofU l u).length c') ∧ OwF Nt.mC 6 32 w' B (.slice A' (Nt.ofU l u).length c') (Nt.ofU l u) ∧ Below B w w') := by
  rcases own_split h with ⟨h1, h2, h3⟩ | ⟨g, h1, hg⟩
  · have h4 := h.len.1
    subst h1 h2 h3
    subst h4
    exact (ndelf_nil w gu u hu).mono fun e w' hp => ⟨none, 0, hp.1, OwF.none_ _ _ _, hp.2.mono hBw⟩
  · subst h1
    refine (ndelf_any w B g n c gu u l h hu (by omega) hn).mono fun e w' hp => ⟨_, c, hp.1, hp.2.1, ?_⟩
    exact (Below.refl B w).grown hp.2.2 hBw fun k hk => by injection hk with hk; omega
/-- The messages of a unit, of the call's own. -/
theorem nof_any (w : World) (p : Option Addr) (l : List Nt.M) (se lo u : Int) (h : NAsk w p l se lo) (hl : l.length ≤ 1000) : Calls Try.prog 28 #[.pointer p, .int .i64 u] w (NList (Nt.ofU l u) w) := by
  have hb1 : Below w.heap.size w (w.alloc (.cells #[.int .i64 u] 3)) := (Below.refl _ _).alloc (Nat.le_refl _) _
  have CA := Lib.hid (nall_any _ p l se lo (h.on hb1) hl)
  have U1 : Hid (UAt (w.alloc (.cells #[.int .i64 u] 3)) w.heap.size u) := heap_alloc_new w _
  have B1 := Lib.hid hb1
  have HL := Lib.hid hl
  clear h hb1 hl
  go_enter Try.func28, Try.ntmps28
  go_upto_region 1 with fail
  generalize w.alloc (.cells #[.int .i64 u] 3) = w1 at *
  obtain ⟨gu, hg⟩ : ∃ gu, gu = w.heap.size := ⟨_, rfl⟩
  rw [← hg] at U1 ⊢
  clear hg
  have Z1 := Lib.hid U1.out.lt
  go_wp2_with (first
    | (go_at_call 24; (with_reducible refine CA.out.mono ?_); rintro e w2 ⟨A, c, rfl, ho, hb⟩; have O := Lib.hid ho; have B2 := Lib.hid hb; have U2 := Lib.hid (U1.out.on hb); clear ho hb)
    | (go_at_call 39; (with_reducible refine (ndelf_both _ w1.heap.size gu c _ u A l O.out U2.out Z1.out B2.out.size HL.out).mono ?_); rintro e w3 ⟨A3, c3, rfl, ho3, hb3⟩; have O3 := Lib.hid ho3; have B3 := Lib.hid (B1.out.trans ((B2.out.trans hb3).mono B1.out.size)); clear ho3 hb3))
  go_ret
  exact ⟨A3, c3, rfl, O3.out.lower B1.out.size, B3.out⟩
end Go.Proofs.Ytmhhjipdbfepiaa
