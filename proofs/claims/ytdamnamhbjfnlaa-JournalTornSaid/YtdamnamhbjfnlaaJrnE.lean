/-
  Package journal: its entries, told by a range over a function.
-/
import Derived.Test.YtdamnamhbjfnlaaRange
import Derived.Test.YtdamnamhbjfnlaaFrScan
import Derived.Test.YtdamnamhbjfnlaaDsk
import Derived.Shelf.Abstract
namespace Go.Proofs.Ytdamnamhbjfnlaa
open Go.RowKit Go.Shelf Fr
attribute [local go_sem] Oper.semAt_some

theorem cell_held {W W' : World} {a : Addr} (h : W'.heap[a.block]? = W.heap[a.block]?) : W'.cell? a = W.cell? a := by unfold World.cell?; rw [h]
theorem Sl.held {w w' : World} {A : Option Addr} {n c : Nat} {l : List Nat} (h : Sl w A n c l) (hs : w.heap.size ≤ w'.heap.size) (hb : ∀ a, A = some a → w'.heap[a.block]? = w.heap[a.block]?) : Sl w' A n c l :=
  ⟨⟨h.rd.1, fun hl => by
    obtain ⟨b, o, e, hbb, hc⟩ := h.rd.2 hl
    exact ⟨b, o, e, Nat.lt_of_lt_of_le hbb hs, fun j hj => (cell_held (a := ⟨b, o + j, none⟩) (hb ⟨b, o, none⟩ e)).trans (hc j hj)⟩⟩, h.len, h.cap, h.max, h.nil⟩
theorem Far.prefix {l : List Nat} {k : Nat} {ps : List (List Nat)} (h : Far l k ps) (he : gE (l.drop k) = 0) : (scan l).1[ps.length]? = some (gP (l.drop k)) := by
  have h2 := h.yes he
  unfold Far at h2
  rw [h2]
  simp
/-- How long a slice is. -/
def lenOf : Value → Nat
  | .slice _ n _ => n
  | _ => 0

theorem jentries_any (n c : Nat) (A : Option Addr) (w : World) :
    Calls Try.prog 52 #[.slice A n c] w fun e w' => e = .returned (.func (.func 65) #[] #[.pointer (some ⟨w.heap.size, 0, none⟩)]) ∧ w' = w.alloc (.cells #[.slice A n c] 33) := by
  go_enter Try.func52, Try.ntmps52
  go_wp2_with fail
  go_ret
  exact ⟨rfl, rfl⟩

set_option maxHeartbeats 1600000 in
theorem jentries_rows (n c : Nat) (A : Option Addr) (l : List Nat) (w : World) (g : Nat) (h : Sl w A n c l) (hbox : w.heap[g]? = some (.cells #[.slice A n c] 33 (0, 0))) (hn : n ≤ 1000000000) (Z : Nat → Prop) (hZ : 0 < l.length → ∀ a, A = some a → ¬ Z a.block) :
    SeqRows Try.prog 65 #[.pointer (some ⟨g, 0, none⟩)] (Kept Z) (scan l).1 w := by
  intro y J W hW hJ hY h0
  have hc0 : W.cell? ⟨g, 0, none⟩ = some (.slice A n c) := by
    rw [cell_of_row W g 0 _ _ _ ((hW.block g (Array.getElem?_eq_some_iff.1 hbox).1).trans hbox)]; rfl
  have HS := Lib.hid (h.on hW)
  have HJ := Lib.hid hJ
  have HY := Lib.hid hY
  have HK := Lib.hid hZ
  have HB : Hid (0 < l.length → ∀ a, A = some a → a.block < W.heap.size) := fun hl a ha => Nat.lt_of_lt_of_le (h.block hl a ha) hW.size
  have H0 := Lib.hid h0
  clear h hbox hW hJ hY hZ h0
  refine callsIn_of_wp Try.func65 rfl trivial ?_ rfl
  simp only [Try.ntmps65, List.size_toArray, List.length_cons, List.length_nil, Nat.reduceAdd, Nat.reduceSub, Array.replicate_succ, Array.replicate_zero, List.push_toArray, List.append_toArray, List.nil_append, List.cons_append]
  gi_wp2_with fail
  gi_loopw [3] (fun p wr => ∃ (k : Nat) (ps : List (List Nat)) (A' : Option Addr) (n' c' : Nat), p = .slice A' n' c' ∧ Sl wr A' n' c' (l.drop k) ∧ (∀ a', A' = some a' → ∃ a, A = some a ∧ a'.block = a.block) ∧ Far l k ps ∧ J ps.length wr ∧ n' ≤ n ∧ k ≤ l.length ∧ W.heap.size ≤ wr.heap.size)
    (fun p _ => lenOf p)
  case atStart =>
    exact ⟨0, [], A, n, c, rfl, HS.out, fun a' e => ⟨a', e, rfl⟩, Far.start l, H0.out, Nat.le_refl _, Nat.zero_le _, Nat.le_refl _⟩
  case round =>
    obtain ⟨k, ps, A', n', c', rfl, hs, hA, hf, hj, hn', hkl, hWs⟩ := hrel
    have H := Lib.hid hs; clear hs
    have HA := Lib.hid hA; clear hA
    have F := Lib.hid hf; clear hf
    have JJ := Lib.hid hj; clear hj
    by_cases hz : n' = 0
    · subst hz
      have hk : k = l.length := by have := H.out.len; rw [List.length_drop] at this; omega
      have HE := Lib.hid (F.out.stop hk)
      clear hk
      gi_wp2_with fail
      go_end0
      exact ⟨⟨_, rfl⟩, by rw [HE.out]; exact JJ.out⟩
    · have hnz : (0 : Int) < (n' : Int) := by omega
      have hkl' : Hid (k < l.length) := by have := H.out.len; rw [List.length_drop] at this; show _ < _; omega
      have HP : Hid (gE (l.drop k) ≠ 0 → scan l = (ps, k, gE (l.drop k))) := fun he => F.out.no hkl'.out he
      have HX : Hid (gE (l.drop k) = 0 → Far l (k + whole (l.drop k)) (ps ++ [gP (l.drop k)]) ∧ (scan l).1[ps.length]? = some (gP (l.drop k)) ∧ gN (l.drop k) = whole (l.drop k) ∧ 7 ≤ whole (l.drop k) ∧ whole (l.drop k) ≤ n' ∧ k + whole (l.drop k) ≤ l.length) := fun he => by
        have h1 := gE_zero he
        have h2 := h1.2.2.1
        have h3 := H.out.len
        have h4 := h2
        rw [List.length_drop] at h4
        exact ⟨F.out.yes he, F.out.prefix he, (get_yes he).2, h1.1, by omega, by omega⟩
      have HD : Hid (∀ m, l.drop (k + m) = (l.drop k).drop m) := fun m => by rw [List.drop_drop]
      have C := Lib.hid (fget_any _ _ _ (l.drop k) wr H.out (by omega))
      generalize l.drop k = d at *
      gi_wp2_with fail
      refine ⟨trivial, callsIn_wide.2 ?_⟩
      (with_reducible refine C.out.mono ?_)
      rintro e w2 ⟨A2, c2, rfl, ho2, hb2⟩
      by_cases he : gE d = 0
      · obtain ⟨hf2, hat, hN, h7, hle, hkw⟩ := HX.out he
        have F2 := Lib.hid hf2
        obtain ⟨fn, tmps, assign, body, hy, hR⟩ := HY.out ps.length A2 c2 (gP d) wr w2 hat JJ.out hb2 ho2
        have R := Lib.hid hR
        have H2 := Lib.hid (H.out.on hb2)
        have hWs2 := hb2.size
        rw [hN, he]
        clear hR hf2 hat hN ho2 hb2 HP HX C he
        generalize gP d = p at *
        generalize whole d = m at *
        gi_wp2_with fail
        refine R.out.mono ?_
        rintro e W3 ⟨rfl, hj3, hk3⟩
        have hz3 : W.heap.size ≤ W3.heap.size := Nat.le_trans (Nat.le_trans hWs hWs2) hk3.size
        have H3 := Lib.hid (H2.out.held hk3.size (fun a' ha' => by
          obtain ⟨a, e1, e2⟩ := HA.out a' ha'
          have h0 : 0 < l.length := by have := hkl'.out; omega
          rw [e2]
          exact hk3.block _ (by have := HB.out h0 a e1; omega) (HK.out h0 a e1)))
        have J3 := Lib.hid hj3
        have hcap := H3.out.cap
        have hmax := H3.out.max
        unfold maxLen at hmax
        clear hj3 hk3 R hy
        by_cases hcm : c' = m
        · have S4 := Lib.hid (H3.out.dropAll hle hcm)
          obtain rfl : n' = m := by omega
          gi_wp2_with fail
          go_roundw
          case rel => exact ⟨k + n', ps ++ [p], A', n' - n', c' - n', by rw [hcm]; simp, by rw [HD.out]; exact S4.out, HA.out, F2.out, by rw [List.length_append]; exact J3.out, by omega, hkw, hz3⟩
          case measure => simp [lenOf]; omega
        · have S4 := Lib.hid (H3.out.drop hle hcm)
          gi_wp2_with fail
          go_roundw
          case rel => exact ⟨k + m, ps ++ [p], _, _, _, rfl, by rw [HD.out]; exact S4.out, fun a' ha' => by
            obtain ⟨x, hx, rfl⟩ := Option.map_eq_some_iff.1 ha'
            obtain ⟨a, e1, e2⟩ := HA.out x hx
            refine ⟨a, e1, ?_⟩
            rw [← e2]
            unfold Addr.add
            split <;> rfl, F2.out, by rw [List.length_append]; exact J3.out, by omega, hkw, hz3⟩
          case measure => simp [lenOf]; omega
      · have HS2 := Lib.hid (HP.out he)
        have hee : (((gE d : Nat) : Int) != 0) = true := by rw [bne_iff_ne]; omega
        have J2 := Lib.hid (HJ.out _ _ _ JJ.out hb2)
        clear he HP HX C
        generalize gE d = ee at *
        generalize gN d = nn at *
        gi_wp2_with fail
        refine ⟨fun _ h => (by cases h), ?_⟩
        gi_wp2_with fail
        refine bodyPost_ret (results_none rfl _ _ _) rfl ?_
        exact ⟨⟨_, rfl⟩, by rw [HS2.out]; exact J2.out⟩

theorem jcount_any (n c : Nat) (A : Option Addr) (l : List Nat) (w : World) (h : Sl w A n c l) (hn : n ≤ 1000000000) :
    Calls Try.prog 44 #[.slice A n c] w (APost w (.int .i64 (((scan l).1.length : Nat) : Int))) := by
  refine (callsIn_wide (n := 3)).1 ?_
  refine callsIn_of_wp_marks Try.func44 rfl trivial ?_ rfl
  simp only [Try.ntmps44, List.size_toArray, List.length_cons, List.length_nil, Nat.reduceAdd, Nat.reduceSub, Array.replicate_succ, Array.replicate_zero, List.push_toArray, List.append_toArray, List.nil_append, List.cons_append]
  have hcount : (scan l).1.length ≤ 1000000000 := Nat.le_trans (scan_count l) (by rw [← h.len]; exact hn)
  gi_wp2_with fail
  refine ⟨trivial, callsIn_wide.2 ?_⟩
  refine (jentries_any n c A _).mono ?_
  rintro e w1 ⟨rfl, rfl⟩
  gi_wp2_with fail
  have hb1 := (Below.refl w.heap.size w).alloc (Nat.le_refl _) (.cells #[.int .i64 0] 3)
  have hb2 := hb1.alloc (by simp) (.cells #[.slice A n c] 33)
  have hsz : ((w.alloc (.cells #[.int .i64 0] 3)).alloc (.cells #[.slice A n c] 33)).heap.size = w.heap.size + 2 := by simp
  have hbox := heap_alloc_new (w.alloc (.cells #[.int .i64 0] 3)) (.cells #[.slice A n c] 33)
  have hcell := (Below.heap_alloc (w.alloc (.cells #[.int .i64 0] 3)) (.cells #[.slice A n c] 33) w.heap.size (by simp)).trans (heap_alloc_new w (.cells #[.int .i64 0] 3))
  rw [show (w.alloc (.cells #[.int .i64 0] 3)).heap.size = w.heap.size + 1 from by simp] at hbox
  have S := Lib.hid (h.on hb2)
  have HB : Hid (0 < l.length → ∀ a, A = some a → a.block < w.heap.size) := h.block
  generalize (w.alloc (.cells #[.int .i64 0] 3)).alloc (.cells #[.slice A n c] 33) = W0 at *
  refine wpIn_range_rows (gf := 65) (lb := #[.pointer (some ⟨w.heap.size + 1, 0, none⟩)]) rfl (enters_of Try.func65 (by kernel_rfl) rfl) (Y := fun i => i = w.heap.size)
    (jentries_rows n c A l W0 _ S.out hbox hn _ (fun h0 a ha hz => by have := HB.out h0 a ha; omega)) rfl (by omega) (by omega)
    (fun k W => W.heap[w.heap.size]? = some (.cells #[.int .i64 (k : Nat)] 3 (0, 0)) ∧ Below w.heap.size w W) ?inv ?start
    (fun v => { tmps := #[.slice A n c, undef, .int .i64 0, .pointer (some ⟨w.heap.size, 0, none⟩), .slice A n c, .func (.func 65) #[] #[.pointer (some ⟨w.heap.size + 1, 0, none⟩)], v, undef, undef, undef], defers := [] }) ?assign ?body ?done
  case inv =>
    rintro k X Y ⟨h1, h2⟩ hX hK
    exact ⟨(hK.block _ (Array.getElem?_eq_some_iff.1 h1).1 (by omega)).trans h1, h2.trans (hK.below h2.size (fun i hi => by omega))⟩
  case start =>
    intro W1 hb hz
    exact ⟨(hb.block _ (by omega)).trans hcell, hb2.trans (hb.mono hb2.size)⟩
  case assign =>
    intro y x W K hK
    gi_wp2
    simpa using hK
  case body =>
    rintro y k A' c' p V0 V hp ⟨h1, h2⟩ hz0 hk ho
    have hk1 : (k : Int) < 1000000000 := by have := (List.getElem?_eq_some_iff.1 hp).1; omega
    have h3 := (hk.block w.heap.size (Array.getElem?_eq_some_iff.1 h1).1 (by omega)).trans h1
    have b3 := Lib.hid (h2.trans (hk.below h2.size (fun i hi => by omega)))
    have hc : V.cell? ⟨w.heap.size, 0, none⟩ = some (.int .i64 (k : Nat)) := by rw [cell_of_row V w.heap.size 0 _ _ _ h3]; rfl
    have hfz := frozen_of_row V w.heap.size 0 _ _ h3
    have H3 := Lib.hid h3
    clear h1 h2 hp h3 ho hk
    gi_wp2_with fail
    exact ⟨Kept.of_grown (grown_set _ _ _ _) (fun i hi => by injection hi with hi; exact hi.symm), heap_setCell_same _ _ 0 _ _ _ H3.out, b3.out.setCell (p := ⟨w.heap.size, 0, none⟩) (Nat.le_refl _) _⟩
  case done =>
    rintro V ⟨h1, h2⟩ hz hd
    have hc : V.cell? ⟨w.heap.size, 0, none⟩ = some (.int .i64 ((scan l).1.length : Nat)) := by rw [cell_of_row V w.heap.size 0 _ _ _ h1]; rfl
    generalize (scan l).1.length = m at *
    gi_wp2_with fail
    refine ⟨by simp, .inl ⟨_, _, rfl, run_takeDeferred hd, ?_⟩⟩
    exact ⟨_, results_tmp rfl _ _ _, rfl, h2.trans ((Kept.putObj V W0.heap.size _).below (by omega) (fun i hi => by omega))⟩
end Go.Proofs.Ytdamnamhbjfnlaa
