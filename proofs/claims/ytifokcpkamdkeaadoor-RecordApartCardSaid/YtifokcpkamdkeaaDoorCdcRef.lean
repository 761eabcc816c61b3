/-
  The document's own answers for what is written (May, digits, both, Number, Text, List): what they are, from any world.
-/
import Derived.Test.YtifokcpkamdkeaaDoorCdcSame
import Derived.Lib.ConvBytes
namespace Go.Proofs.YtifokcpkamdkeaaDoor
open Go.RowKit Cdc

theorem conv_str (s : ByteArray) (w : World) (hs : s.size ≤ 1000000) :
    ∃ c W', (convert 9 29 (.string s)).run Tryd.prog w = .ok (.slice (some ⟨w.heap.size, 0, none⟩) s.size c) W' ∧ Sl W' (some ⟨w.heap.size, 0, none⟩) s.size c (sb s) ∧ Below w.heap.size w W' := by
  refine ⟨_, _, Lib.run_convert_string_bytes w 9 29 5 s Tryd.underlying9 Tryd.underlying29 Tryd.underlying5, ⟨⟨sb_byte s, fun _ => ⟨w.heap.size, 0, rfl, ?_, fun j hj => ?_⟩⟩, (sb_length s).symm, grownCap_ge _ _ _ _, grownCap_le_maxLen _ _ _ _ (by unfold maxLen; omega), fun h => by cases h⟩, rfl, rfl, rfl, ?_, fun k hk => Lib.bytesWorld_at_old _ _ _ _ hk⟩
  · rw [Lib.bytesWorld_size]; omega
  · rw [sb_length] at hj
    rw [Nat.zero_add, Lib.bytesWorld_cell _ _ _ _ hj, getD_at (by simpa using hj), getD_at (by rw [sb_length]; exact hj)]
    simp [sb]
  · rw [Lib.bytesWorld_size]; omega

/-- May a number be? -/
def mayB (n : Int) : Bool := decide (sz n ≠ 0)
set_option maxRecDepth 100000 in
theorem may_any (n : Int) (w : World) :
    Calls Tryd.prog 42 #[.int .i64 n] w fun e w' => e = .returned (.bool (mayB n)) ∧ w = w' := by
  by_cases h0 : n < 0
  · have HB : Hid (mayB n = false) := decide_eq_false (by rw [sz_no (.inl h0)]; omega)
    go_enter Tryd.func42, Tryd.ntmps42
    go_wp2_with fail
    go_ret
    exact ⟨ret_bool HB.out.symm, rfl⟩
  · have h0' : 0 ≤ n := by omega
    by_cases h1 : 4611686018427387903 < n
    · have HB : Hid (mayB n = false) := decide_eq_false (by rw [sz_no (.inr h1)]; omega)
      have h2 : decide (n ≤ 4611686018427387903) = false := decide_eq_false (by omega)
      clear h1
      go_enter Tryd.func42, Tryd.ntmps42
      go_wp2_with fail
      go_ret
      exact ⟨ret_bool HB.out.symm, rfl⟩
    · have HB : Hid (mayB n = true) := decide_eq_true (by
        unfold sz; rw [if_pos (by omega)]; have := digs_pos n.toNat; omega)
      have h2 : decide (n ≤ 4611686018427387903) = true := decide_eq_true (by omega)
      clear h1
      go_enter Tryd.func42, Tryd.ntmps42
      go_wp2_with fail
      go_ret
      exact ⟨ret_bool HB.out.symm, rfl⟩

set_option maxRecDepth 100000 in
set_option maxHeartbeats 800000 in
theorem rdigs_any (n : Nat) (w : World) (hn : n < 4611686018427387904) :
    Calls Tryd.prog 44 #[.int .i64 n] w (OwnPost w.heap.size (digs n) w) := by
  have h9 := digs_nine (n := n) (by omega)
  have HN := Lib.hid hn; clear hn
  go_enter Tryd.func44, Tryd.ntmps44
  go_wp2_with fail
  go_loopw [0, 3] (fun a v wr => ∃ (m : Nat) (l' : List Nat), a = .int .i64 m ∧ (m : Int) ≤ 4611686018427387903 ∧ OwnB wr w.heap.size v l' ∧ l' ++ digs m = digs n ∧ Below w.heap.size w wr) (fun a _ _ => (intOf a).toNat)
  case atStart => exact ⟨n, [], rfl, by have := HN.out; omega, ⟨World.ownsRow_nil _ _ _ _, by simp⟩, rfl, Below.refl _ _⟩
  case round =>
    obtain ⟨m, l', rfl, hm, hO, hfull, hb⟩ := hrel
    have O := Lib.hid hO; clear hO
    have BB := Lib.hid hb; clear hb
    have FF : Hid (l' ++ digs m = [] ++ digs n) := hfull
    clear hfull
    have hlen : l'.length ≤ 9 := by have h2 := FF.out; have h3 := congrArg List.length h2; rw [List.length_append, List.nil_append] at h3; omega
    by_cases hlt : 128 ≤ m
    · go_wp2_with (at_builtin; refine wpList_append_byte rfl (.tmp 6) (.tmp 11) rfl w.heap.size _ l' rfl O.out _ (m % 128 + 128) (by omega) (by omega) rfl (by omega) BB.out.size ?_; intro v1 w1 ho1 hb1; have O1 := Lib.hid ho1; have B1 := Lib.hid (BB.out.trans hb1); clear ho1 hb1)
      go_roundw
      case rel => exact ⟨m / 128, _, by go_num, by omega, O1.out, put_more FF.out hlt, B1.out⟩
      case measure => simp [intOf]; omega
    · go_wp2_with (at_builtin; refine wpList_append_byte rfl (.tmp 15) (.tmp 18) rfl w.heap.size _ l' rfl O.out _ m (by omega) (by omega) rfl (by omega) BB.out.size ?_; intro v1 w1 ho1 hb1; have O1 := Lib.hid ho1; have B1 := Lib.hid (BB.out.trans hb1); clear ho1 hb1)
      go_ret
      exact ⟨v1, rfl, by have := put_last FF.out (by omega); rw [List.nil_append] at this; rw [← this]; exact O1.out, B1.out⟩

theorem OwnB.join {w : World} {B n m : Nat} {v : Value} {l l2 : List Nat} (h : w.ownsRow B 5 1 v (n + m) (vals l ++ vals l2)) (hn : n = l.length) (hm : m = l2.length) (h1 : ∀ y ∈ l, y < 256) (h2 : ∀ y ∈ l2, y < 256) : OwnB w B v (l ++ l2) := by
  subst hn
  subst hm
  refine ⟨?_, ?_⟩
  · rw [vals_append, List.length_append]; exact h
  · intro y hy
    exact (List.mem_append.1 hy).elim (h1 y) (h2 y)
set_option maxRecDepth 100000 in
set_option maxHeartbeats 800000 in
theorem both_any (n c m d : Nat) (A D : Option Addr) (l l2 : List Nat) (w : World) (hs : Sl w A n c l) (ht : Sl w D m d l2) (hn : n ≤ 1000000) (hm : m ≤ 1000000) :
    Calls Tryd.prog 43 #[.slice A n c, .slice D m d] w (OwnPost w.heap.size (l ++ l2) w) := by
  obtain ⟨i0, hi0, hz0, hz1, hz2⟩ := info_parts byteInfo
  have I0 := Lib.hid hi0; clear hi0
  have I1 := Lib.hid hz0; clear hz0
  have I2 := Lib.hid hz1; clear hz1
  have I3 := Lib.hid hz2; clear hz2
  have S := Lib.hid hs; clear hs
  have T := Lib.hid ht; clear ht
  go_enter Tryd.func43, Tryd.ntmps43
  go_wp2_with (first
    | (at_builtin; refine wpList_append_rd rfl (.tmp 6) (.tmp 7) _ rfl w.heap.size 5 i0 _ Tryd.underlying29 I0.out I1.out I2.out I3.out rfl (.slice none 0 0) 0 [] rfl (World.ownsRow_nil _ _ _ _) w.heap.size n c A l rfl S.out.rd S.out.len S.out.nil (by omega) (Nat.le_refl _) ?_; intro v1 w1 hown1 hg1; have O1 := Lib.hid hown1; have B1 := Lib.hid ((Below.refl w.heap.size w).grown hg1 (Nat.le_refl _) (by simp [Value.ownBlock])); clear hown1 hg1)
    | (at_builtin; refine wpList_append_rd rfl (.tmp 9) (.tmp 10) _ rfl w.heap.size 5 i0 _ Tryd.underlying29 I0.out I1.out I2.out I3.out rfl v1 (0 + n) ([] ++ vals l) rfl O1.out w1.heap.size m d D l2 rfl (T.out.rd.on B1.out) T.out.len T.out.nil (by omega) B1.out.size ?_; intro v2 w2 hown2 hg2; have O2 := Lib.hid hown2; have G2 := Lib.hid hg2; clear hown2 hg2))
  go_ret
  have hO := O2.out
  rw [Nat.zero_add, List.nil_append] at hO
  exact ⟨v2, rfl, OwnB.join hO S.out.len T.out.len S.out.rd.1 T.out.rd.1, B1.out.grown G2.out B1.out.size (own_base O1.out)⟩

/-- What Number, Text, List of the document answer. -/
def RPost (l : List Nat) (err : Int) (w : World) (e : Ending) (w' : World) : Prop :=
  ∃ A c, e = .returned (.tuple #[.slice A l.length c, .int .i64 err]) ∧ Sl w' A l.length c l ∧ Below w.heap.size w w'
set_option maxRecDepth 100000 in
theorem refNumber_any (n c : Nat) (x : Int) (A : Option Addr) (l : List Nat) (w : World) (hs : Sl w A n c l) (hn : n ≤ 1000000) :
    Calls Tryd.prog 21 #[.slice A n c, .int .i64 x] w (RPost (numL l x) (numE x) w) := by
  have S := Lib.hid hs; clear hs
  have M := Lib.hid (may_any x w)
  by_cases hz : sz x = 0
  · have HM : Hid (mayB x = false) := decide_eq_false (by omega)
    rw [show numL l x = l from by unfold numL; rw [if_pos hz], show numE x = 1 from by unfold numE; rw [if_pos hz]]
    rw [HM.out] at M
    clear hz
    go_enter Tryd.func21, Tryd.ntmps21
    go_wp2_with fail
    (with_reducible refine M.out.mono ?_)
    rintro e w1 ⟨rfl, rfl⟩
    go_wp2_with fail
    go_ret2
    have := S.out.len
    subst this
    exact ⟨A, c, rfl, S.out, Below.refl _ _⟩
  · have HM : Hid (mayB x = true) := decide_eq_true hz
    rw [show numL l x = l ++ digs x.toNat from by unfold numL; rw [if_neg hz], show numE x = 0 from by unfold numE; rw [if_neg hz]]
    rw [HM.out] at M
    obtain ⟨m, rfl, hm⟩ := sz_pos hz
    rw [Int.toNat_natCast]
    have HQ := Lib.hid hm; clear hm hz
    have h9 := digs_nine (n := m) (by have := HQ.out; omega)
    go_enter Tryd.func21, Tryd.ntmps21
    go_wp2_with fail
    (with_reducible refine M.out.mono ?_)
    rintro e w1 ⟨rfl, rfl⟩
    go_wp2_with fail
    (with_reducible refine (rdigs_any m w HQ.out).mono ?_)
    rintro e w1 ⟨v1, rfl, ho, hb⟩
    obtain ⟨A1, c1, rfl, h1⟩ := OwnB.sl ho
    have T1 := Lib.hid h1; clear h1 ho
    have B1 := Lib.hid hb; clear hb
    go_wp2_with fail
    (with_reducible refine (both_any n c _ c1 A A1 l _ w1 (S.out.on B1.out) T1.out hn (by omega)).mono ?_)
    rintro e w2 ⟨v2, rfl, ho, hb⟩
    obtain ⟨A2, c2, hv, h2⟩ := OwnB.sl ho
    have T2 := Lib.hid h2; clear h2 ho
    have B2 := Lib.hid (B1.out.trans (hb.mono B1.out.size)); clear hb
    have HV := Lib.hid hv; clear hv
    go_wp2_with fail
    go_ret2
    rw [HV.out]
    exact ⟨A2, c2, rfl, T2.out, B2.out⟩
set_option maxRecDepth 100000 in
theorem refText_any (n c : Nat) (s : ByteArray) (A : Option Addr) (l : List Nat) (w : World) (hs : Sl w A n c l) (hn : n ≤ 900000) :
    Calls Tryd.prog 22 #[.slice A n c, .string s] w (RPost (textL l s) (textE s) w) := by
  have S := Lib.hid hs; clear hs
  by_cases hz : s.size ≤ 64
  · rw [show textL l s = l ++ digs s.size ++ sb s from by unfold textL; rw [if_pos hz], show textE s = 0 from by unfold textE; rw [if_pos hz]]
    have h9 := digs_nine (n := s.size) (by omega)
    have HL := S.out.len
    have H9 : Hid ((l ++ digs s.size).length ≤ 900009) := by show _ ≤ _; rw [List.length_append]; omega
    clear HL
    obtain ⟨q, hq⟩ : ∃ q, q = l ++ digs s.size := ⟨_, rfl⟩
    have Q := Lib.hid hq; clear hq
    rw [← Q.out] at H9 ⊢
    go_enter Tryd.func22, Tryd.ntmps22
    go_wp2_with fail
    (with_reducible refine (rdigs_any s.size w (by omega)).mono ?_)
    rintro e w1 ⟨v1, rfl, ho, hb⟩
    obtain ⟨A1, c1, rfl, h1⟩ := OwnB.sl ho
    have T1 := Lib.hid h1; clear h1 ho
    have B1 := Lib.hid hb; clear hb
    have C2 := Lib.hid (both_any n c _ c1 A A1 l _ w1 (S.out.on B1.out) T1.out (by omega) (by omega))
    rw [← Q.out] at C2
    go_wp2_with fail
    (with_reducible refine C2.out.mono ?_)
    rintro e w2 ⟨v2, rfl, ho, hb⟩
    obtain ⟨A2, c2, rfl, h2⟩ := OwnB.sl ho
    have T2 := Lib.hid h2; clear h2 ho
    have B2 := Lib.hid (B1.out.trans (hb.mono B1.out.size)); clear hb
    obtain ⟨c3, w3, hcv, h3, hb3⟩ := conv_str s w2 (by omega)
    have T3 := Lib.hid h3; clear h3
    have B3 := Lib.hid (B2.out.trans (hb3.mono B2.out.size))
    have T23 := Lib.hid (T2.out.on hb3); clear hb3
    go_wp2_with fail
    (with_reducible refine (both_any _ c2 s.size c3 A2 _ q (sb s) w3 T23.out T3.out (by have := H9.out; omega) (by omega)).mono ?_)
    rintro e w4 ⟨v4, rfl, ho, hb⟩
    obtain ⟨A4, c4, hv, h4⟩ := OwnB.sl ho
    have T4 := Lib.hid h4; clear h4 ho
    have B4 := Lib.hid (B3.out.trans (hb.mono B3.out.size)); clear hb
    have HV := Lib.hid hv; clear hv
    go_wp2_with fail
    go_ret2
    rw [HV.out]
    exact ⟨A4, c4, rfl, T4.out, B4.out⟩
  · rw [show textL l s = l from by unfold textL; rw [if_neg hz], show textE s = 12 from by unfold textE; rw [if_neg hz]]
    go_enter Tryd.func22, Tryd.ntmps22
    go_wp2_with fail
    go_ret2
    have := S.out.len
    subst this
    exact ⟨A, c, rfl, S.out, Below.refl _ _⟩

theorem take_flat {os : List Int} {l : List Nat} {k m : Nat} (hk : k < os.length) (hm : os.getD k 0 = (m : Int)) : l ++ fl (os.take (k + 1)) = (l ++ fl (os.take k)) ++ digs m := by
  rw [fl_snoc hk hm, List.append_assoc]
set_option maxRecDepth 100000 in
set_option maxHeartbeats 1600000 in
theorem refList_any (n c k d : Nat) (A D : Option Addr) (l : List Nat) (ns : List Int) (w : World) (hs : Sl w A n c l) (hn : n ≤ 900000) (hd : SlI w D k d ns) :
    Calls Tryd.prog 23 #[.slice A n c, .slice D k d] w (RPost (listL l ns) (listE ns) w) := by
  obtain ⟨i0, hi0, hz0, hz1, hz2⟩ := info_parts byteInfo
  have I0 := Lib.hid hi0; clear hi0
  have I1 := Lib.hid hz0; clear hz0
  have I2 := Lib.hid hz1; clear hz1
  have I3 := Lib.hid hz2; clear hz2
  have S := Lib.hid hs; clear hs
  have SD := Lib.hid hd; clear hd
  have hkn := SD.out.len
  by_cases hk : k ≤ 64
  · have P1 : Hid (allOk ns = true → listL l ns = l ++ digs k ++ fl ns ∧ listE ns = 0) := fun ha => by
      unfold listL listE; rw [if_pos (by omega), if_pos ha, if_pos (by omega), if_pos ha, ← hkn]; exact ⟨rfl, rfl⟩
    have P2 : Hid (allOk ns = false → listL l ns = l ∧ listE ns = 1) := fun ha => by
      unfold listL listE; rw [if_pos (by omega), if_neg (by rw [ha]; simp), if_pos (by omega), if_neg (by rw [ha]; simp)]; exact ⟨rfl, rfl⟩
    have h9 := digs_nine (n := k) (by omega)
    have H9 : Hid ((l ++ digs k).length ≤ 900009) := by show _ ≤ _; have := S.out.len; rw [List.length_append]; omega
    clear hkn
    obtain ⟨q, hq⟩ : ∃ q, q = l ++ digs k := ⟨_, rfl⟩
    have Q := Lib.hid hq; clear hq
    rw [← Q.out] at H9 P1
    generalize listL l ns = LL at *
    generalize listE ns = LE at *
    go_enter Tryd.func23, Tryd.ntmps23
    go_wp2_with fail
    (with_reducible refine (rdigs_any k w (by omega)).mono ?_)
    rintro e w1 ⟨v1, rfl, ho, hb⟩
    obtain ⟨A1, c1, rfl, h1⟩ := OwnB.sl ho
    have T1 := Lib.hid h1; clear h1 ho
    have B1 := Lib.hid hb; clear hb
    have C2 := Lib.hid (both_any n c _ c1 A A1 l _ w1 (S.out.on B1.out) T1.out (by omega) (by omega))
    rw [← Q.out] at C2
    go_wp2_with fail
    (with_reducible refine C2.out.mono ?_)
    rintro e w2 ⟨v2, rfl, ho, hb⟩
    have O2 := Lib.hid ho; clear ho
    have G1 := Lib.hid B1.out.size
    have Z2 := Lib.hid hb.size
    have B2 := Lib.hid (B1.out.trans (hb.mono B1.out.size)); clear hb B1
    go_wp2_with fail
    go_loopw [6, 7] (fun v i wr => ∃ m : Nat, m ≤ k ∧ i = .int .i64 m ∧ OwnB wr w1.heap.size v (q ++ fl (ns.take m)) ∧ (∀ j, j < m → sz (ns.getD j 0) ≠ 0) ∧ Below w.heap.size w wr ∧ w1.heap.size ≤ wr.heap.size) (fun _ i _ => k - (intOf i).toNat)
    case atStart => exact ⟨0, by omega, rfl, by simpa [fl] using O2.out, fun j hj => by omega, B2.out, Z2.out⟩
    case round =>
      obtain ⟨m, hm, rfl, ho, hall, hb, hsz⟩ := hrel
      clear O2 B2
      have O := Lib.hid ho; clear ho
      have B := Lib.hid hb; clear hb
      have ALL := Lib.hid hall; clear hall
      have HZ := Lib.hid hsz; clear hsz
      by_cases hlt : m < k
      · have hml : m < ns.length := by rw [← SD.out.len]; exact hlt
        obtain ⟨b, o, rfl, _, hc⟩ := (SD.out.on B.out).rd (by omega)
        have hck := hc m hml
        clear hc
        by_cases hz : sz (ns.getD m 0) = 0
        · have P3 := Lib.hid (P2.out (allOk_no hml hz))
          have M : Hid (mayB (ns.getD m 0) = false) := decide_eq_false (by omega)
          clear hz P1 P2 O ALL
          generalize ns.getD m 0 = x at *
          go_wp2_with fail
          (with_reducible refine (may_any x wr).mono ?_)
          rw [M.out]
          rintro e w3 ⟨rfl, rfl⟩
          go_wp2_with fail
          go_ret2
          rw [P3.out.1, P3.out.2]
          have := S.out.len
          subst this
          exact ⟨A, c, rfl, S.out.on B.out, B.out⟩
        · have M : Hid (mayB (ns.getD m 0) = true) := decide_eq_true hz
          have ALL2 : Hid (∀ j, j < m + 1 → sz (ns.getD j 0) ≠ 0) := fun j hj => by
            by_cases e : j = m
            · subst e; exact hz
            · exact ALL.out j (by omega)
          obtain ⟨x, hx, hxl⟩ := sz_pos hz
          rw [hx] at M
          have hck2 := hck
          rw [hx] at hck2
          have TF := Lib.hid (take_flat (l := q) hml hx)
          have HX := Lib.hid hxl
          have hb9 := digs_nine (n := x) (by omega)
          have LF : Hid ((q ++ fl (ns.take m)).length ≤ 910000) := by
            show _ ≤ _
            have h1 : allOk (ns.take m) = true := allOk_yes fun j hj => by
              rw [List.length_take] at hj
              have := ALL.out j (by omega)
              rw [getD_at (by omega)] at this
              rw [getD_at (by rw [List.length_take]; omega), List.getElem_take]; exact this
            have h2 := fl_len h1 (ns.take m).length (Nat.le_refl _)
            rw [List.take_length, List.length_take] at h2
            have h3 := H9.out
            rw [List.length_append]; omega
          have HBW : Hid (b < wr.heap.size) := block_lt_of_cell hck
          clear hz hx hxl hck ALL P1 P2
          obtain ⟨f, hf⟩ : ∃ f, f = q ++ fl (ns.take m) := ⟨_, rfl⟩
          have FF := Lib.hid hf; clear hf
          rw [← FF.out] at TF LF O
          go_wp2_with fail
          (with_reducible refine (may_any _ wr).mono ?_)
          rw [M.out]
          rintro e w3 ⟨rfl, rfl⟩
          go_wp2_with fail
          (with_reducible refine (rdigs_any x wr HX.out).mono ?_)
          rintro e w3 ⟨v3, rfl, ho3, hb3⟩
          obtain ⟨A3, c3, rfl, h3⟩ := OwnB.sl ho3
          have T3 := Lib.hid h3; clear h3 ho3
          have B3 := Lib.hid (B.out.trans (hb3.mono B.out.size))
          have O3 := Lib.hid (OwnB.below O.out hb3)
          have HZ3 := Lib.hid (Nat.le_trans HZ.out hb3.size); clear hb3
          go_wp2_with (at_builtin; refine wpList_append_rd rfl (.tmp 32) (.tmp 37) _ rfl w1.heap.size 5 i0 _ Tryd.underlying29 I0.out I1.out I2.out I3.out rfl _ f.length (vals f) rfl O3.out.1 w3.heap.size _ c3 A3 (digs x) rfl T3.out.rd rfl T3.out.nil (by have := LF.out; omega) HZ3.out ?_; intro v4 w4 hown4 hg4; have O4 := Lib.hid hown4; have G4 := Lib.hid hg4; clear hown4 hg4)
          go_roundw
          case rel => exact ⟨m + 1, by omega, by go_num, by rw [TF.out]; exact OwnB.join O4.out rfl rfl O3.out.2 (digs_byte x), ALL2.out, B3.out.grown G4.out B3.out.size (fun i hi => Nat.le_trans G1.out (own_base O3.out.1 i hi)), Nat.le_trans HZ3.out G4.out.size⟩
          case measure => simp [intOf]; omega
      · obtain rfl : m = k := by omega
        have P3 := Lib.hid (P1.out (allOk_yes fun j hj => ALL.out j (by rw [SD.out.len]; exact hj)))
        have O4 := Lib.hid (own_all O.out SD.out.len)
        obtain ⟨A2, c2, hv, h2⟩ := OwnB.sl O4.out
        have HV := Lib.hid hv; clear hv
        have H2 := Lib.hid h2; clear h2
        clear P1 P2 ALL
        go_wp2_with fail
        go_ret2
        rw [HV.out, P3.out.1, P3.out.2]
        exact ⟨A2, c2, rfl, H2.out, B.out⟩
  · have HL : Hid (listL l ns = l ∧ listE ns = 12) := by
      show _ ∧ _
      unfold listL listE
      rw [if_neg (by omega), if_neg (by omega)]; exact ⟨rfl, rfl⟩
    clear hkn
    generalize listL l ns = LL at *
    generalize listE ns = LE at *
    go_enter Tryd.func23, Tryd.ntmps23
    go_wp2_with fail
    go_ret2
    rw [HL.out.1, HL.out.2]
    have := S.out.len
    subst this
    exact ⟨A, c, rfl, S.out, Below.refl _ _⟩
end Go.Proofs.YtifokcpkamdkeaaDoor
